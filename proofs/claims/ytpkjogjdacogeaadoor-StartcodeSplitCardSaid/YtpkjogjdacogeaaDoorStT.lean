/- The reference's Split. -/
import Derived.Test.YtpkjogjdacogeaaDoorStK
import Derived.Deep.Cut
import Derived.Deep.DeepCutAuto
namespace Go.Proofs.YtpkjogjdacogeaaDoor
open Go.RowKit
set_option linter.unusedVariables false
set_option linter.unusedSimpArgs false

theorem reg_get (b : List Nat) (i j k : Nat) (h : i + k < j) : (reg b i j).getD k 0 = b.getD (i + k) 0 := by
  unfold reg
  simp only [List.getD, List.getElem?_take, List.getElem?_drop]
  rw [if_pos (by omega)]

set_option maxRecDepth 20000 in
set_option maxHeartbeats 4000000 in
theorem rsplit_c (w : World) (v : Value) (b : List Nat) (h : Sl w v b) (hb : b.length ≤ 1000000) (hby : ∀ x ∈ b, x < 256) :
    Calls Tryd.prog 8 #[v] w fun e w' => SplitAns w w' e 36 39 (SM.units b) (SM.bads b) := by
  obtain ⟨A, c, rfl⟩ := h.len
  have H := Lib.hid h
  have Hby := Lib.hid hby
  have hn0 := SM.nx_le b 0 (Nat.zero_le _)
  have hn0' : SM.nx b 0 = SM.nxL b := by simp [SM.nx]
  have hnext := rnext_c w _ b 0 h (Nat.zero_le _) (by omega)
  have hu : SM.units b = SM.hits (SM.its (b.drop (SM.nx b 0)) (SM.nx b 0)) := by rw [hn0']; rfl
  have hd : SM.bads b = (if 0 < SM.bl (b.take (SM.nx b 0)) then [(0, SM.nx b 0)] else []) ++ SM.defs (SM.its (b.drop (SM.nx b 0)) (SM.nx b 0)) := by rw [hn0']; rfl
  have hdrop : b.drop (SM.nx b 0) = [] ∨ SM.codeH (b.drop (SM.nx b 0)) = true := by rw [hn0']; exact SM.nxL_drop b
  have hclean := fun (v : Value) (hv : Sl w v (b.take (SM.nx b 0))) => rclean_c w v _ hv (by simp; omega)
  have hcapb : b.length ≤ c := by
    rcases h with ⟨h, h2⟩ | ⟨a, c', h, h2⟩ | ⟨g, o, cap, h, h2, _⟩
    · injection h; subst h2; simp
    · injection h; subst h2; simp
    · injection h; omega
  have htake : Sl w (.slice A (SM.nx b 0) c) (b.take (SM.nx b 0)) := by
    rcases h with ⟨h, h2⟩ | ⟨a, c', h, h2⟩ | ⟨g, o, cap, h, h2, h3, h4⟩
    · injection h with e1 e2 e3
      have : SM.nx b 0 = 0 := by subst h2; simp at hn0; omega
      rw [this]
      exact .inl ⟨by rw [e1, e3], by simp⟩
    · injection h with e1 e2 e3
      have : SM.nx b 0 = 0 := by subst h2; simp at hn0; omega
      rw [this]
      exact .inr (.inl ⟨a, c, by rw [e1], by simp⟩)
    · injection h with e1 e2 e3
      subst e1 e3
      exact Sl.take (.inr (.inr ⟨g, o, c, rfl, h2, h3, h4⟩)) _ hn0.2 h2
  have Htake := Lib.hid (hclean _ htake)
  have Hnext := Lib.hid hnext
  have Hu := Lib.hid hu
  have Hd := Lib.hid hd
  have Hdrop := Lib.hid hdrop
  have hle := hn0.2
  generalize hN : SM.nx b 0 = N at *
  generalize hL : SM.bl (b.take N) = L at *
  clear h hby hnext hu hd hdrop hn0 hn0' hN hL hclean htake
  go_enter Tryd.func8, Tryd.ntmps8
  go_wp2_with fail
  refine Hnext.out.mono ?_
  rintro e w1 ⟨rfl, rfl⟩
  go_wp2_with fail
  refine Htake.out.mono ?_
  rintro e w1 ⟨rfl, rfl⟩
  by_cases hL : 0 < L
  · have hD := Hd.out
    rw [if_pos hL] at hD
    have HD := Lib.hid hD
    clear hD
    have hdec : decide (L = 0) = false := decide_eq_false (by omega)
    rw [hdec]
    have cx := Cel.made w 39 #[.int .i64 0, .int .i64 (N : Int)]
    go_wp2_with (at_builtin; refine wpl_row (by rfl) _ _ 28 39 (by rfl) w.heap.size 2 16 _ Tryd.infoRDefect Tryd.underlying28 (by rfl) (by decide) (by decide) _ 0 [] (by rfl) (World.ownsRow_nil _ _ _ _) w.heap.size [.int .i64 ((0 : Nat) : Int), .int .i64 (N : Int)] (by rfl) (news_of cx) (by rfl) ?a1 (by omega) ?a2 ?_)
    case a1 => intro u hu; simp at hu; rcases hu with rfl | rfl <;> rfl
    case a2 => first | omega | (simp; done)
    intro vd wx ho ht
    have Dx : DRow wx w.heap.size 39 vd [(0, N)] := DRow.snoc (ds := []) ho
    have Tx : Touch w wx (fun _ => False) := ((Touch.refl w _).alloc _).trans ht (fun i hi => .inr hi.1)
    have hlD : [(0, N)].length ≤ 1 := by simp
    clear ho ht cx hL hdec
    generalize [(0, N)] = D0 at *
    go_wp2_with fail
    go_loopw [4, 5, 6] (fun vu vd q wr => ∃ (off : Nat) (U0 : List SM.Hit) (D0 : List (Nat × Nat)), q = .int .i64 (off : Int) ∧ off ≤ b.length ∧ SM.units b = U0 ++ SM.hits (SM.its (b.drop off) off) ∧ SM.bads b = D0 ++ SM.defs (SM.its (b.drop off) off) ∧ (b.drop off = [] ∨ SM.codeH (b.drop off) = true) ∧ U0.length ≤ off ∧ D0.length ≤ off + 1 ∧ FRow wr w.heap.size 36 vu U0 ∧ DRow wr w.heap.size 39 vd D0 ∧ Touch w wr (fun _ => False)) (fun _ _ q _ => b.length - (intOf q).toNat)
    case atStart => exact ⟨N, [], _, rfl, hle, by rw [Hu.out, List.nil_append], HD.out, Hdrop.out, by simp, by omega, FRow.nil _ _ _, Dx, Tx⟩
    case round =>
      clear Dx Tx hlD HD
      obtain ⟨off, U0, D0, rfl, hoff, hU, hD, hcode, hlU, hlD, hF, hDR, hT⟩ := hrel
      have HF := Lib.hid hF; have HDR := Lib.hid hDR; have HT := Lib.hid hT
      have HU := Lib.hid hU; have HDD := Lib.hid hD
      clear hF hDR hU hD
      by_cases hlt : off < b.length
      · have hch : SM.codeH (b.drop off) = true := by
          rcases hcode with h0 | h0
          · have := congrArg List.length h0; simp at this; omega
          · exact h0
        have h4 := SM.codeH_long _ hch
        rw [List.length_drop] at h4
        have hstep := SM.its_step b off hch
        have hsl := H.out.to hT (fun _ _ _ h => h)
        have hsS : off + 4 ≤ b.length := by omega
        have hnb := SM.nx_le b (off + 4) hsS
        have hrl := reg_le b (off + 4) hsS
        have hnext := rnext_c wr _ b (off + 4) hsl hsS (by omega)
        have hnd : b.drop (SM.nx b (off + 4)) = [] ∨ SM.codeH (b.drop (SM.nx b (off + 4))) = true := by
          have := SM.nxL_drop (b.drop (off + 4))
          rw [List.drop_drop] at this
          exact this
        have hit : SM.itemAt b off = ⟨(b.getD (off + 3) 0 : Nat), (b.drop (off + 4)).take (SM.bl (reg b (off + 4) (SM.nx b (off + 4)))), off, off + 4 + SM.bl (reg b (off + 4) (SM.nx b (off + 4))), SM.nx b (off + 4)⟩ := rfl
        have hRl : (reg b (off + 4) (SM.nx b (off + 4))).length = SM.nx b (off + 4) - (off + 4) := by simp [reg]; omega
        have hRg := fun k => reg_get b (off + 4) (SM.nx b (off + 4)) k
        obtain ⟨g, o, cap, hv, hcap, hg, hcell⟩ := hsl.some_ (by omega)
        injection hv with hv _ hc2
        subst hv hc2
        have hty : b.getD (off + 3) 0 < 256 := by
          simp only [List.getD, List.getElem?_eq_getElem (show off + 3 < b.length by omega), Option.getD_some]
          exact Hby.out _ (List.getElem_mem _)
        have d3 := hcell (off + 3) (by omega)
        generalize SM.nx b (off + 4) = nx at *
        generalize hR : reg b (off + 4) nx = R at *
        generalize b.getD (off + 3) 0 = ty at *
        have hbl2 : SM.bl R ≤ nx - (off + 4) := hrl
        have hpart := hsl.part (off + 4) (SM.bl R) (c - (off + 4)) (by omega) (by omega)
        have hbl : ((b.drop (off + 4)).take (SM.bl R)).length = SM.bl R := by simp; omega
        have hbb : ∀ x ∈ (b.drop (off + 4)).take (SM.bl R), x < 256 := fun x hx => Hby.out x (List.mem_of_mem_drop (List.mem_of_mem_take hx))
        generalize hB : (b.drop (off + 4)).take (SM.bl R) = body at *
        have finN : SM.un body = none → SM.units b = U0 ++ SM.hits (SM.its (b.drop nx) nx) ∧ SM.bads b = (D0 ++ [(off, off + 4 + SM.bl R)]) ++ SM.defs (SM.its (b.drop nx) nx) := by
          intro hun
          rw [HU.out, HDD.out, hstep, hit, SM.hits_none _ _ hun, SM.defs_none _ _ hun]
          simp
        have finS : ∀ p, SM.un body = some p → SM.units b = (U0 ++ [⟨(ty : Nat), p, off, off + 4 + SM.bl R, nx⟩]) ++ SM.hits (SM.its (b.drop nx) nx) ∧ SM.bads b = D0 ++ SM.defs (SM.its (b.drop nx) nx) := by
          intro p hun
          rw [HU.out, HDD.out, hstep, hit, SM.hits_some _ _ p hun, SM.defs_some _ _ p hun]
          simp
        have FinN := Lib.hid finN; have FinS := Lib.hid finS
        have hcR : ∀ k, off + 4 + k < nx → wr.cell? ⟨g, o + (off + 4 + k), none⟩ = some (.int .u8 ((R.getD k 0 : Nat) : Int)) := fun k hk => by
          rw [hRg k hk]
          exact hcell (off + 4 + k) (by omega)
        have HcR := Lib.hid hcR; have Hpart := Lib.hid hpart; have Hnext := Lib.hid hnext; have Hnd := Lib.hid hnd; have Hbl := Lib.hid hbl; have Hbb := Lib.hid hbb; have HRl := Lib.hid hRl
        clear finN finS hpart hnext hstep hit hnd hcode hch hsl hcell hT hbl hB hbb hcR hRg hRl hrl hR
        go_wp2_with fail
        refine Hnext.out.mono ?_
        rintro e w1 ⟨rfl, rfl⟩
        go_wp2_with fail
        obtain ⟨wp, rfl⟩ : ∃ wp : World, wp = wr := ⟨_, rfl⟩
        have hgw : g < wp.heap.size := hg
        go_loopw [36] (fun _ wr => ∃ (k : Nat) (y : Int), k ≤ R.length ∧ y = ((off + 4 + k : Nat) : Int) ∧ Cel wr wp.heap.size 36 #[.int .i64 0, .slice none 0 0, .int .i64 (off : Int), .int .i64 y, .int .i64 (nx : Int)] ∧ SM.bl R = SM.bl (R.take k) ∧ Touch wp wr (fun _ => False)) (fun _ wr => (match wr.cell? ⟨wp.heap.size, 3, none⟩ with | some (.int _ z) => z.toNat | _ => 0))
        case atStart => exact ⟨R.length, (nx : Int), Nat.le_refl _, by rw [HRl.out]; omega, Cel.made _ _ _, by rw [List.take_length], (Touch.refl _ _).alloc _⟩
        case round =>
          obtain ⟨k, y, hk, hy, hc, hblk, hTq⟩ := hrel
          have e3 := hc.cell 3
          have e4 := hc.cell 4
          have ef3 := hc.free 3
          simp at e3 e4
          have hlen := HRl.out
          have Hc := Lib.hid hc; have Hblk := Lib.hid hblk; have HTq := Lib.hid hTq
          subst hy
          cases k with
          | zero =>
            have hL2 : SM.bl R = 0 := by rw [Hblk.out]; rfl
            clear hc hblk hTq
            rcases Nat.lt_or_ge (off + 4) c with hcgt | hcge
            · have HL2 := Lib.hid hL2
              clear hL2
              have hpt := (Hpart.out.to HTq.out (fun _ _ _ h => h))
              rw [HL2.out] at hpt
              have hbn : body.length = 0 := by rw [Hbl.out, HL2.out]
              have huns := fun (v : Value) (hv : Sl wr v body) => runs_c wr v body hv (by omega) Hbb.out
              have empty : ∀ a c, 0 = 0 → Sl wr (.slice (some a) 0 c) body := fun a c h => .inr (.inl ⟨a, c, by rw [h], List.eq_nil_of_length_eq_zero (by omega)⟩)
              have hfN := FinN.out
              have hfS := FinS.out
              rw [HL2.out] at hfN hfS
              have HfN := Lib.hid hfN; have HfS := Lib.hid hfS
              have Hpt := Lib.hid hpt; have Huns := Lib.hid huns; have Hempty := Lib.hid empty
              have hsT := HT.out.size
              have hsq := HTq.out.size
              clear hpt huns empty hfN hfS hbn
              go_wp2_with fail
              all_goals
                refine (Huns.out _ (by first | exact Hpt.out | exact Hempty.out _ _ (by omega))).mono ?_
                rintro e w2 ⟨vp, rfl, hop, htp⟩
                have hc2 := Hc.out.kept htp (fun h => h)
                have f2 := hc2.cell 2; have f3 := hc2.cell 3; have f4 := hc2.cell 4
                simp at f2 f3 f4
                have d3' : w2.cell? ⟨g, o + (off + 3), none⟩ = some (.int .u8 (ty : Int)) := ((HTq.out.trans htp (fun i hi => .inl hi)).cell (p := ⟨g, o + (off + 3), none⟩) hgw (fun h => h)).trans d3
                have hs2 := htp.size
                have hlt2 : wp.heap.size < w2.heap.size := Nat.lt_of_lt_of_le Hc.out.lt hs2
                have Hop := Lib.hid hop; have Htp := Lib.hid (HTq.out.trans htp (fun i hi => .inl hi)); have Hc2 := Lib.hid hc2
                clear hop htp hc2 e3 e4 ef3
                cases hun : SM.un body with
                | none =>
                  have e0 : SM.unE body = 3 := by unfold SM.unE; rw [hun]; rfl
                  rw [e0]
                  have Hf := Lib.hid (HfN.out hun)
                  clear hun e0
                  go_wp2_with (at_builtin; refine wpl_row (by rfl) _ _ 28 39 (by rfl) w.heap.size 2 16 _ Tryd.infoRDefect Tryd.underlying28 (by rfl) (by decide) (by decide) _ D0.length (cells2 D0) (by rfl) (own_kept (own_kept HDR.out Htp.out (fun _ _ h => h)) ((Touch.refl _ (fun _ => False)).alloc _) (fun _ _ h => h)) w2.heap.size _ (by rfl) (news_of (Cel.made _ _ _)) (by rfl) ?a1 ?a2 ?a3 ?_)
                  case a1 => intro u hu; simp at hu; rcases hu with rfl | rfl <;> rfl
                  case a2 => omega
                  case a3 => first | omega | (simp; omega)
                  intro vd' w3 ho ht
                  have Hd3 : DRow w3 w.heap.size 39 vd' (D0 ++ [(off, off + 4 + 0)]) := DRow.snoc (by (first | exact ho | (push_cast; exact ho) | (push_cast; simpa using ho)))
                  have T3 : Touch wp w3 (fun k => w.heap.size ≤ k ∧ u5.ownBlock = some k) := (((Htp.out.wide (fun i hi => hi.elim)).alloc _).trans ht (fun i hi => .inl hi))
                  have g4 : w3.cell? ⟨wp.heap.size, 4, none⟩ = some (.int .i64 (nx : Int)) := by
                    refine (ht.cell (p := ⟨wp.heap.size, 4, none⟩) (Nat.lt_of_lt_of_le hlt2 (by simp)) (fun hS => by have h5 : wp.heap.size < wp.heap.size := (HDR.out.lt _ hS.2).2; omega)).trans ?_
                    exact (World.cell?_of_block (Below.heap_alloc w2 _ wp.heap.size hlt2)).trans f4
                  have Hfr := Lib.hid (HF.out.to T3 (fun i hi hS => by obtain ⟨qs, eqs, hoF, hpF⟩ := HF.out; exact rows_apart hoF HDR.out (by decide) i hi hS.2) (fun i cs hc hS => own_row_apart HDR.out hS.2 (by decide) cs hc) (fun i hi hS => by omega))
                  have Hd3 := Lib.hid Hd3
                  have Ht3 := Lib.hid (HT.out.trans T3 (fun i hi => .inr hi.1))
                  clear ho ht T3 f2 f3 f4
                  go_wp2_with fail
                  go_roundw
                  case rel => exact ⟨nx, U0, D0 ++ [(off, off + 4 + 0)], rfl, by omega, Hf.out.1, Hf.out.2, Hnd.out, by omega, by simp; omega, Hfr.out, Hd3.out, Ht3.out⟩
                  case measure => simp [intOf]; omega
                | some p =>
                  have e0 : SM.unE body = 0 := by unfold SM.unE; rw [hun]; rfl
                  have e1 : SM.unR body = p := by unfold SM.unR; rw [hun]; rfl
                  have hop := Hop.out
                  rw [e1] at hop
                  have Hop := Lib.hid hop
                  rw [e0]
                  have Hf := Lib.hid (HfS.out p hun)
                  have hpay := Pay.ow (base := w.heap.size) Hop.out
                  obtain ⟨A3, c3, rfl⟩ := Hop.out.sl.len
                  have f0 := Hc2.out.cell 0; have f1 := Hc2.out.cell 1
                  have ff0 := Hc2.out.free 0; have ff1 := Hc2.out.free 1
                  simp at f0 f1
                  have Hpay := Lib.hid hpay
                  clear hun e0 e1 hop hpay
                  go_upto_region 14 with fail
                  have c3f := (Hc2.out.store 0 (.int .i64 (ty : Int))).store 1 (.slice A3 p.length c3)
                  have t3 : Touch w2 ((w2.setCell ⟨wp.heap.size, 0, none⟩ (.int .i64 (ty : Int))).setCell ⟨wp.heap.size, 1, none⟩ (.slice A3 p.length c3)) (fun i => i = wp.heap.size) := Touch.store (S := fun i => i = wp.heap.size) (Touch.store (S := fun i => i = wp.heap.size) (Touch.refl _ _) (p := ⟨wp.heap.size, 0, none⟩) (.inl rfl) _) (p := ⟨wp.heap.size, 1, none⟩) (.inl rfl) _
                  have hpay3 := Hpay.out.to t3 (fun i cs hc e => by subst e; exact Cel.apart hc Hc2.out (by decide) rfl) (fun i hi e => by omega)
                  generalize (w2.setCell ⟨wp.heap.size, 0, none⟩ (.int .i64 (ty : Int))).setCell ⟨wp.heap.size, 1, none⟩ (.slice A3 p.length c3) = w3 at *
                  simp at c3f
                  clear f0 f1 f2 f3 f4 ff0 ff1
                  have f0 := c3f.cell 0; have f1 := c3f.cell 1; have f2 := c3f.cell 2; have f3 := c3f.cell 3; have f4 := c3f.cell 4
                  simp at f0 f1 f2 f3 f4
                  have T3 : Touch wp w3 (fun _ => False) := Htp.out.trans t3 (fun i hi => .inr (by omega))
                  have hs3 := t3.size
                  have hlt3 : wp.heap.size < w3.heap.size := Nat.lt_of_lt_of_le hlt2 hs3
                  have hlF : ∀ i, u4.ownBlock = some i → i < wp.heap.size := by
                    obtain ⟨qs0, e0, ho0, hp0⟩ := HF.out
                    exact fun i hi => (ho0.lt i hi).2
                  obtain ⟨qs, eqs, hoF, hpF⟩ := HF.out.to0 T3
                  have hdr3 : DRow w3 w.heap.size 39 u5 D0 := HDR.out.to T3 (fun _ _ h => h)
                  have HoF := Lib.hid hoF; have HT3 := Lib.hid T3; have HlF := Lib.hid hlF
                  have fr : ∀ (wz : World), Touch w3 wz (fun _ => False) → ∀ (v' : Value) (w4 : World) (tv y : Int), tv = (ty : Int) → y = ((off + 4 + 0 : Nat) : Int) →
                      w4.ownsRow w.heap.size 36 5 v' (U0.length + 1) (cells5 qs ++ [.int .i64 tv, .slice A3 p.length c3, .int .i64 (off : Int), .int .i64 y, .int .i64 (nx : Int)]) →
                      Touch wz w4 (fun k => w.heap.size ≤ k ∧ u4.ownBlock = some k) →
                      FRow w4 w.heap.size 36 v' (U0 ++ [⟨(ty : Nat), p, off, off + 4 + 0, nx⟩]) ∧ DRow w4 w.heap.size 39 u5 D0 ∧ Touch w w4 (fun _ => False) := by
                    intro wz hz v' w4 tv y htv hy ho ht
                    have hoz := own_kept HoF.out hz (fun _ _ h => h)
                    have hpz : ∀ q ∈ qs, Pay wz w.heap.size q.2 q.1.p := fun q hq => (hpF q hq).to hz (fun _ _ _ h => h) (fun _ _ h => h)
                    have hup := hpay3.to hz (fun _ _ _ h => h) (fun _ _ h => h)
                    subst hy htv
                    refine ⟨FRow.snoc (h := ⟨(ty : Nat), p, off, off + 4 + 0, nx⟩) (by decide) eqs hoz hpz hup ho ht, ?_, ?_⟩
                    · have hdz : DRow wz w.heap.size 39 u5 D0 := hdr3.to hz (fun _ _ h => h)
                      exact hdz.to ht (fun i hi hS => rows_apart hdz hoz (by decide) i hi hS.2)
                    · exact ((HT.out.trans T3 (fun i hi => .inl hi)).trans hz (fun i hi => .inl hi)).trans ht (fun i hi => .inr hi.1)
                  have Fr := Lib.hid fr
                  clear fr hoF hpF eqs hdr3 T3 t3 hpay3 c3f hlF d3'
                  go_wp2_with (at_builtin; refine wpl_row (by rfl) _ _ 27 36 (by rfl) w.heap.size 5 56 _ Tryd.infoRFound Tryd.underlying27 (by rfl) (by decide) (by decide) _ U0.length (cells5 qs) (by rfl) (own_kept HoF.out ((Touch.refl _ (fun _ => False)).alloc _) (fun _ _ h => h)) _ _ (by rfl) (news_of (Cel.made _ _ _)) (by rfl) ?a1 ?a2 ?a3 ?_)
                  case a1 => first | (intro u hu; simp at hu; rcases hu with rfl | rfl | rfl | rfl | rfl <;> rfl) | exact ⟨rfl, rfl, rfl, rfl, rfl⟩ | (refine ⟨?_, ?_, ?_, ?_, ?_⟩ <;> rfl)
                  case a2 => omega
                  case a3 => first | omega | (simp; omega)
                  intro vu' w4 ho ht
                  have hfr := Fr.out _ ((Touch.refl _ (fun _ => False)).alloc _) vu' w4 _ _ rfl (by first | rfl | omega | (simp; done)) ho ht
                  have g4 : w4.cell? ⟨wp.heap.size, 4, none⟩ = some (.int .i64 (nx : Int)) := by
                    refine (ht.cell (p := ⟨wp.heap.size, 4, none⟩) (Nat.lt_of_lt_of_le hlt3 (by simp)) (fun hS => by have h5 : wp.heap.size < wp.heap.size := HlF.out _ hS.2; omega)).trans ?_
                    exact (World.cell?_of_block (Below.heap_alloc w3 _ wp.heap.size hlt3)).trans f4
                  have Hfr := Lib.hid hfr
                  clear ho ht hfr f0 f1 f2 f3 f4
                  go_wp2_with fail
                  go_roundw
                  case rel => exact ⟨nx, U0 ++ [⟨(ty : Nat), p, off, off + 4 + 0, nx⟩], D0, rfl, by omega, Hf.out.1, Hf.out.2, Hnd.out, by simp; omega, by omega, Hfr.out.1, Hfr.out.2.1, Hfr.out.2.2⟩
                  case measure => simp [intOf]; omega
            · obtain rfl : c = off + 4 := by omega
              have HL2 := Lib.hid hL2
              clear hL2
              have hpt := (Hpart.out.to HTq.out (fun _ _ _ h => h))
              rw [HL2.out] at hpt
              have hbn : body.length = 0 := by rw [Hbl.out, HL2.out]
              have huns := fun (v : Value) (hv : Sl wr v body) => runs_c wr v body hv (by omega) Hbb.out
              have empty : ∀ a c, 0 = 0 → Sl wr (.slice (some a) 0 c) body := fun a c h => .inr (.inl ⟨a, c, by rw [h], List.eq_nil_of_length_eq_zero (by omega)⟩)
              have hfN := FinN.out
              have hfS := FinS.out
              rw [HL2.out] at hfN hfS
              have HfN := Lib.hid hfN; have HfS := Lib.hid hfS
              have Hpt := Lib.hid hpt; have Huns := Lib.hid huns; have Hempty := Lib.hid empty
              have hsT := HT.out.size
              have hsq := HTq.out.size
              clear hpt huns empty hfN hfS hbn
              go_wp2_with fail
              all_goals
                refine (Huns.out _ (by first | exact Hpt.out | exact Hempty.out _ _ (by omega))).mono ?_
                rintro e w2 ⟨vp, rfl, hop, htp⟩
                have hc2 := Hc.out.kept htp (fun h => h)
                have f2 := hc2.cell 2; have f3 := hc2.cell 3; have f4 := hc2.cell 4
                simp at f2 f3 f4
                have d3' : w2.cell? ⟨g, o + (off + 3), none⟩ = some (.int .u8 (ty : Int)) := ((HTq.out.trans htp (fun i hi => .inl hi)).cell (p := ⟨g, o + (off + 3), none⟩) hgw (fun h => h)).trans d3
                have hs2 := htp.size
                have hlt2 : wp.heap.size < w2.heap.size := Nat.lt_of_lt_of_le Hc.out.lt hs2
                have Hop := Lib.hid hop; have Htp := Lib.hid (HTq.out.trans htp (fun i hi => .inl hi)); have Hc2 := Lib.hid hc2
                clear hop htp hc2 e3 e4 ef3
                cases hun : SM.un body with
                | none =>
                  have e0 : SM.unE body = 3 := by unfold SM.unE; rw [hun]; rfl
                  rw [e0]
                  have Hf := Lib.hid (HfN.out hun)
                  clear hun e0
                  go_wp2_with (at_builtin; refine wpl_row (by rfl) _ _ 28 39 (by rfl) w.heap.size 2 16 _ Tryd.infoRDefect Tryd.underlying28 (by rfl) (by decide) (by decide) _ D0.length (cells2 D0) (by rfl) (own_kept (own_kept HDR.out Htp.out (fun _ _ h => h)) ((Touch.refl _ (fun _ => False)).alloc _) (fun _ _ h => h)) w2.heap.size _ (by rfl) (news_of (Cel.made _ _ _)) (by rfl) ?a1 ?a2 ?a3 ?_)
                  case a1 => intro u hu; simp at hu; rcases hu with rfl | rfl <;> rfl
                  case a2 => omega
                  case a3 => first | omega | (simp; omega)
                  intro vd' w3 ho ht
                  have Hd3 : DRow w3 w.heap.size 39 vd' (D0 ++ [(off, off + 4 + 0)]) := DRow.snoc (by (first | exact ho | (push_cast; exact ho) | (push_cast; simpa using ho)))
                  have T3 : Touch wp w3 (fun k => w.heap.size ≤ k ∧ u5.ownBlock = some k) := (((Htp.out.wide (fun i hi => hi.elim)).alloc _).trans ht (fun i hi => .inl hi))
                  have g4 : w3.cell? ⟨wp.heap.size, 4, none⟩ = some (.int .i64 (nx : Int)) := by
                    refine (ht.cell (p := ⟨wp.heap.size, 4, none⟩) (Nat.lt_of_lt_of_le hlt2 (by simp)) (fun hS => by have h5 : wp.heap.size < wp.heap.size := (HDR.out.lt _ hS.2).2; omega)).trans ?_
                    exact (World.cell?_of_block (Below.heap_alloc w2 _ wp.heap.size hlt2)).trans f4
                  have Hfr := Lib.hid (HF.out.to T3 (fun i hi hS => by obtain ⟨qs, eqs, hoF, hpF⟩ := HF.out; exact rows_apart hoF HDR.out (by decide) i hi hS.2) (fun i cs hc hS => own_row_apart HDR.out hS.2 (by decide) cs hc) (fun i hi hS => by omega))
                  have Hd3 := Lib.hid Hd3
                  have Ht3 := Lib.hid (HT.out.trans T3 (fun i hi => .inr hi.1))
                  clear ho ht T3 f2 f3 f4
                  go_wp2_with fail
                  go_roundw
                  case rel => exact ⟨nx, U0, D0 ++ [(off, off + 4 + 0)], rfl, by omega, Hf.out.1, Hf.out.2, Hnd.out, by omega, by simp; omega, Hfr.out, Hd3.out, Ht3.out⟩
                  case measure => simp [intOf]; omega
                | some p =>
                  have e0 : SM.unE body = 0 := by unfold SM.unE; rw [hun]; rfl
                  have e1 : SM.unR body = p := by unfold SM.unR; rw [hun]; rfl
                  have hop := Hop.out
                  rw [e1] at hop
                  have Hop := Lib.hid hop
                  rw [e0]
                  have Hf := Lib.hid (HfS.out p hun)
                  have hpay := Pay.ow (base := w.heap.size) Hop.out
                  obtain ⟨A3, c3, rfl⟩ := Hop.out.sl.len
                  have f0 := Hc2.out.cell 0; have f1 := Hc2.out.cell 1
                  have ff0 := Hc2.out.free 0; have ff1 := Hc2.out.free 1
                  simp at f0 f1
                  have Hpay := Lib.hid hpay
                  clear hun e0 e1 hop hpay
                  go_upto_region 14 with fail
                  have c3f := (Hc2.out.store 0 (.int .i64 (ty : Int))).store 1 (.slice A3 p.length c3)
                  have t3 : Touch w2 ((w2.setCell ⟨wp.heap.size, 0, none⟩ (.int .i64 (ty : Int))).setCell ⟨wp.heap.size, 1, none⟩ (.slice A3 p.length c3)) (fun i => i = wp.heap.size) := Touch.store (S := fun i => i = wp.heap.size) (Touch.store (S := fun i => i = wp.heap.size) (Touch.refl _ _) (p := ⟨wp.heap.size, 0, none⟩) (.inl rfl) _) (p := ⟨wp.heap.size, 1, none⟩) (.inl rfl) _
                  have hpay3 := Hpay.out.to t3 (fun i cs hc e => by subst e; exact Cel.apart hc Hc2.out (by decide) rfl) (fun i hi e => by omega)
                  generalize (w2.setCell ⟨wp.heap.size, 0, none⟩ (.int .i64 (ty : Int))).setCell ⟨wp.heap.size, 1, none⟩ (.slice A3 p.length c3) = w3 at *
                  simp at c3f
                  clear f0 f1 f2 f3 f4 ff0 ff1
                  have f0 := c3f.cell 0; have f1 := c3f.cell 1; have f2 := c3f.cell 2; have f3 := c3f.cell 3; have f4 := c3f.cell 4
                  simp at f0 f1 f2 f3 f4
                  have T3 : Touch wp w3 (fun _ => False) := Htp.out.trans t3 (fun i hi => .inr (by omega))
                  have hs3 := t3.size
                  have hlt3 : wp.heap.size < w3.heap.size := Nat.lt_of_lt_of_le hlt2 hs3
                  have hlF : ∀ i, u4.ownBlock = some i → i < wp.heap.size := by
                    obtain ⟨qs0, e0, ho0, hp0⟩ := HF.out
                    exact fun i hi => (ho0.lt i hi).2
                  obtain ⟨qs, eqs, hoF, hpF⟩ := HF.out.to0 T3
                  have hdr3 : DRow w3 w.heap.size 39 u5 D0 := HDR.out.to T3 (fun _ _ h => h)
                  have HoF := Lib.hid hoF; have HT3 := Lib.hid T3; have HlF := Lib.hid hlF
                  have fr : ∀ (wz : World), Touch w3 wz (fun _ => False) → ∀ (v' : Value) (w4 : World) (tv y : Int), tv = (ty : Int) → y = ((off + 4 + 0 : Nat) : Int) →
                      w4.ownsRow w.heap.size 36 5 v' (U0.length + 1) (cells5 qs ++ [.int .i64 tv, .slice A3 p.length c3, .int .i64 (off : Int), .int .i64 y, .int .i64 (nx : Int)]) →
                      Touch wz w4 (fun k => w.heap.size ≤ k ∧ u4.ownBlock = some k) →
                      FRow w4 w.heap.size 36 v' (U0 ++ [⟨(ty : Nat), p, off, off + 4 + 0, nx⟩]) ∧ DRow w4 w.heap.size 39 u5 D0 ∧ Touch w w4 (fun _ => False) := by
                    intro wz hz v' w4 tv y htv hy ho ht
                    have hoz := own_kept HoF.out hz (fun _ _ h => h)
                    have hpz : ∀ q ∈ qs, Pay wz w.heap.size q.2 q.1.p := fun q hq => (hpF q hq).to hz (fun _ _ _ h => h) (fun _ _ h => h)
                    have hup := hpay3.to hz (fun _ _ _ h => h) (fun _ _ h => h)
                    subst hy htv
                    refine ⟨FRow.snoc (h := ⟨(ty : Nat), p, off, off + 4 + 0, nx⟩) (by decide) eqs hoz hpz hup ho ht, ?_, ?_⟩
                    · have hdz : DRow wz w.heap.size 39 u5 D0 := hdr3.to hz (fun _ _ h => h)
                      exact hdz.to ht (fun i hi hS => rows_apart hdz hoz (by decide) i hi hS.2)
                    · exact ((HT.out.trans T3 (fun i hi => .inl hi)).trans hz (fun i hi => .inl hi)).trans ht (fun i hi => .inr hi.1)
                  have Fr := Lib.hid fr
                  clear fr hoF hpF eqs hdr3 T3 t3 hpay3 c3f hlF d3'
                  go_wp2_with (at_builtin; refine wpl_row (by rfl) _ _ 27 36 (by rfl) w.heap.size 5 56 _ Tryd.infoRFound Tryd.underlying27 (by rfl) (by decide) (by decide) _ U0.length (cells5 qs) (by rfl) (own_kept HoF.out ((Touch.refl _ (fun _ => False)).alloc _) (fun _ _ h => h)) _ _ (by rfl) (news_of (Cel.made _ _ _)) (by rfl) ?a1 ?a2 ?a3 ?_)
                  case a1 => first | (intro u hu; simp at hu; rcases hu with rfl | rfl | rfl | rfl | rfl <;> rfl) | exact ⟨rfl, rfl, rfl, rfl, rfl⟩ | (refine ⟨?_, ?_, ?_, ?_, ?_⟩ <;> rfl)
                  case a2 => omega
                  case a3 => first | omega | (simp; omega)
                  intro vu' w4 ho ht
                  have hfr := Fr.out _ ((Touch.refl _ (fun _ => False)).alloc _) vu' w4 _ _ rfl (by first | rfl | omega | (simp; done)) ho ht
                  have g4 : w4.cell? ⟨wp.heap.size, 4, none⟩ = some (.int .i64 (nx : Int)) := by
                    refine (ht.cell (p := ⟨wp.heap.size, 4, none⟩) (Nat.lt_of_lt_of_le hlt3 (by simp)) (fun hS => by have h5 : wp.heap.size < wp.heap.size := HlF.out _ hS.2; omega)).trans ?_
                    exact (World.cell?_of_block (Below.heap_alloc w3 _ wp.heap.size hlt3)).trans f4
                  have Hfr := Lib.hid hfr
                  clear ho ht hfr f0 f1 f2 f3 f4
                  go_wp2_with fail
                  go_roundw
                  case rel => exact ⟨nx, U0 ++ [⟨(ty : Nat), p, off, off + 4 + 0, nx⟩], D0, rfl, by omega, Hf.out.1, Hf.out.2, Hnd.out, by simp; omega, by omega, Hfr.out.1, Hfr.out.2.1, Hfr.out.2.2⟩
                  case measure => simp [intOf]; omega
          | succ k =>
            have hkn : off + 4 + k < nx := by omega
            have dk := (hTq.cell (p := ⟨g, o + (off + 4 + k), none⟩) hgw (fun h => h)).trans (HcR.out k hkn)
            have hsn := SM.bl_snoc (R.take k) (R.getD k 0)
            rw [← take_snoc R k (by omega)] at hsn
            have a0 := beq_k (R.getD k 0) 0
            have hlt2 : (R.take k).length = k := by simp; omega
            rw [hlt2] at hsn
            generalize R.getD k 0 = yv at *
            have Hsn := Lib.hid hsn
            clear hc hblk hTq hsn hlt2
            by_cases hyv : yv = 0
            · subst hyv
              clear a0
              go_wp2_with fail
              go_roundw
              case rel =>
                refine ⟨k, (off : Int) + 4 + ((k : Int) + 1) - 1, by omega, by omega, ?_, by rw [Hblk.out, Hsn.out, if_pos rfl], HTq.out.trans (Touch.store (S := fun i => i = wp.heap.size) (Touch.refl _ _) (p := ⟨wp.heap.size, 3, none⟩) (.inl rfl) _) (fun i hi => .inr (by omega))⟩
                have := Hc.out.store 3 (.int .i64 ((off : Int) + 4 + ((k : Int) + 1) - 1))
                simpa using this
              case measure => have e5 := Hc.out.cell 3; have e6 := (Hc.out.store 3 (.int .i64 ((off : Int) + 4 + ((k : Int) + 1) - 1))).cell 3; simp at e5 e6; simp [e5, e6]; omega
            · have hyb : (((yv : Nat) : Int) == 0) = false := a0.trans (beq_eq_false_iff_ne.2 hyv)
              have hL2 : SM.bl R = k + 1 := by rw [Hblk.out, Hsn.out, if_neg hyv]
              clear hyv a0
              have hcgt : off + 4 < c := by omega
              have HL2 := Lib.hid hL2
              clear hL2
              have hpt := (Hpart.out.to HTq.out (fun _ _ _ h => h))
              rw [HL2.out] at hpt
              have hbn : body.length = (k + 1) := by rw [Hbl.out, HL2.out]
              have huns := fun (v : Value) (hv : Sl wr v body) => runs_c wr v body hv (by omega) Hbb.out
              have empty : ∀ a c, (k + 1) = 0 → Sl wr (.slice (some a) (k + 1) c) body := fun a c h => .inr (.inl ⟨a, c, by rw [h], List.eq_nil_of_length_eq_zero (by omega)⟩)
              have hfN := FinN.out
              have hfS := FinS.out
              rw [HL2.out] at hfN hfS
              have HfN := Lib.hid hfN; have HfS := Lib.hid hfS
              have Hpt := Lib.hid hpt; have Huns := Lib.hid huns; have Hempty := Lib.hid empty
              have hsT := HT.out.size
              have hsq := HTq.out.size
              clear hpt huns empty hfN hfS hbn
              go_wp2_with fail
              all_goals
                refine (Huns.out _ (by first | exact Hpt.out | exact Hempty.out _ _ (by omega))).mono ?_
                rintro e w2 ⟨vp, rfl, hop, htp⟩
                have hc2 := Hc.out.kept htp (fun h => h)
                have f2 := hc2.cell 2; have f3 := hc2.cell 3; have f4 := hc2.cell 4
                simp at f2 f3 f4
                have d3' : w2.cell? ⟨g, o + (off + 3), none⟩ = some (.int .u8 (ty : Int)) := ((HTq.out.trans htp (fun i hi => .inl hi)).cell (p := ⟨g, o + (off + 3), none⟩) hgw (fun h => h)).trans d3
                have hs2 := htp.size
                have hlt2 : wp.heap.size < w2.heap.size := Nat.lt_of_lt_of_le Hc.out.lt hs2
                have Hop := Lib.hid hop; have Htp := Lib.hid (HTq.out.trans htp (fun i hi => .inl hi)); have Hc2 := Lib.hid hc2
                clear hop htp hc2 e3 e4 ef3
                cases hun : SM.un body with
                | none =>
                  have e0 : SM.unE body = 3 := by unfold SM.unE; rw [hun]; rfl
                  rw [e0]
                  have Hf := Lib.hid (HfN.out hun)
                  clear hun e0
                  go_wp2_with (at_builtin; refine wpl_row (by rfl) _ _ 28 39 (by rfl) w.heap.size 2 16 _ Tryd.infoRDefect Tryd.underlying28 (by rfl) (by decide) (by decide) _ D0.length (cells2 D0) (by rfl) (own_kept (own_kept HDR.out Htp.out (fun _ _ h => h)) ((Touch.refl _ (fun _ => False)).alloc _) (fun _ _ h => h)) w2.heap.size _ (by rfl) (news_of (Cel.made _ _ _)) (by rfl) ?a1 ?a2 ?a3 ?_)
                  case a1 => intro u hu; simp at hu; rcases hu with rfl | rfl <;> rfl
                  case a2 => omega
                  case a3 => first | omega | (simp; omega)
                  intro vd' w3 ho ht
                  have Hd3 : DRow w3 w.heap.size 39 vd' (D0 ++ [(off, off + 4 + (k + 1))]) := DRow.snoc (by (first | exact ho | (push_cast; exact ho) | (push_cast; simpa using ho)))
                  have T3 : Touch wp w3 (fun k => w.heap.size ≤ k ∧ u5.ownBlock = some k) := (((Htp.out.wide (fun i hi => hi.elim)).alloc _).trans ht (fun i hi => .inl hi))
                  have g4 : w3.cell? ⟨wp.heap.size, 4, none⟩ = some (.int .i64 (nx : Int)) := by
                    refine (ht.cell (p := ⟨wp.heap.size, 4, none⟩) (Nat.lt_of_lt_of_le hlt2 (by simp)) (fun hS => by have h5 : wp.heap.size < wp.heap.size := (HDR.out.lt _ hS.2).2; omega)).trans ?_
                    exact (World.cell?_of_block (Below.heap_alloc w2 _ wp.heap.size hlt2)).trans f4
                  have Hfr := Lib.hid (HF.out.to T3 (fun i hi hS => by obtain ⟨qs, eqs, hoF, hpF⟩ := HF.out; exact rows_apart hoF HDR.out (by decide) i hi hS.2) (fun i cs hc hS => own_row_apart HDR.out hS.2 (by decide) cs hc) (fun i hi hS => by omega))
                  have Hd3 := Lib.hid Hd3
                  have Ht3 := Lib.hid (HT.out.trans T3 (fun i hi => .inr hi.1))
                  clear ho ht T3 f2 f3 f4
                  go_wp2_with fail
                  go_roundw
                  case rel => exact ⟨nx, U0, D0 ++ [(off, off + 4 + (k + 1))], rfl, by omega, Hf.out.1, Hf.out.2, Hnd.out, by omega, by simp; omega, Hfr.out, Hd3.out, Ht3.out⟩
                  case measure => simp [intOf]; omega
                | some p =>
                  have e0 : SM.unE body = 0 := by unfold SM.unE; rw [hun]; rfl
                  have e1 : SM.unR body = p := by unfold SM.unR; rw [hun]; rfl
                  have hop := Hop.out
                  rw [e1] at hop
                  have Hop := Lib.hid hop
                  rw [e0]
                  have Hf := Lib.hid (HfS.out p hun)
                  have hpay := Pay.ow (base := w.heap.size) Hop.out
                  obtain ⟨A3, c3, rfl⟩ := Hop.out.sl.len
                  have f0 := Hc2.out.cell 0; have f1 := Hc2.out.cell 1
                  have ff0 := Hc2.out.free 0; have ff1 := Hc2.out.free 1
                  simp at f0 f1
                  have Hpay := Lib.hid hpay
                  clear hun e0 e1 hop hpay
                  go_upto_region 14 with fail
                  have c3f := (Hc2.out.store 0 (.int .i64 (ty : Int))).store 1 (.slice A3 p.length c3)
                  have t3 : Touch w2 ((w2.setCell ⟨wp.heap.size, 0, none⟩ (.int .i64 (ty : Int))).setCell ⟨wp.heap.size, 1, none⟩ (.slice A3 p.length c3)) (fun i => i = wp.heap.size) := Touch.store (S := fun i => i = wp.heap.size) (Touch.store (S := fun i => i = wp.heap.size) (Touch.refl _ _) (p := ⟨wp.heap.size, 0, none⟩) (.inl rfl) _) (p := ⟨wp.heap.size, 1, none⟩) (.inl rfl) _
                  have hpay3 := Hpay.out.to t3 (fun i cs hc e => by subst e; exact Cel.apart hc Hc2.out (by decide) rfl) (fun i hi e => by omega)
                  generalize (w2.setCell ⟨wp.heap.size, 0, none⟩ (.int .i64 (ty : Int))).setCell ⟨wp.heap.size, 1, none⟩ (.slice A3 p.length c3) = w3 at *
                  simp at c3f
                  clear f0 f1 f2 f3 f4 ff0 ff1
                  have f0 := c3f.cell 0; have f1 := c3f.cell 1; have f2 := c3f.cell 2; have f3 := c3f.cell 3; have f4 := c3f.cell 4
                  simp at f0 f1 f2 f3 f4
                  have T3 : Touch wp w3 (fun _ => False) := Htp.out.trans t3 (fun i hi => .inr (by omega))
                  have hs3 := t3.size
                  have hlt3 : wp.heap.size < w3.heap.size := Nat.lt_of_lt_of_le hlt2 hs3
                  have hlF : ∀ i, u4.ownBlock = some i → i < wp.heap.size := by
                    obtain ⟨qs0, e0, ho0, hp0⟩ := HF.out
                    exact fun i hi => (ho0.lt i hi).2
                  obtain ⟨qs, eqs, hoF, hpF⟩ := HF.out.to0 T3
                  have hdr3 : DRow w3 w.heap.size 39 u5 D0 := HDR.out.to T3 (fun _ _ h => h)
                  have HoF := Lib.hid hoF; have HT3 := Lib.hid T3; have HlF := Lib.hid hlF
                  have fr : ∀ (wz : World), Touch w3 wz (fun _ => False) → ∀ (v' : Value) (w4 : World) (tv y : Int), tv = (ty : Int) → y = ((off + 4 + (k + 1) : Nat) : Int) →
                      w4.ownsRow w.heap.size 36 5 v' (U0.length + 1) (cells5 qs ++ [.int .i64 tv, .slice A3 p.length c3, .int .i64 (off : Int), .int .i64 y, .int .i64 (nx : Int)]) →
                      Touch wz w4 (fun k => w.heap.size ≤ k ∧ u4.ownBlock = some k) →
                      FRow w4 w.heap.size 36 v' (U0 ++ [⟨(ty : Nat), p, off, off + 4 + (k + 1), nx⟩]) ∧ DRow w4 w.heap.size 39 u5 D0 ∧ Touch w w4 (fun _ => False) := by
                    intro wz hz v' w4 tv y htv hy ho ht
                    have hoz := own_kept HoF.out hz (fun _ _ h => h)
                    have hpz : ∀ q ∈ qs, Pay wz w.heap.size q.2 q.1.p := fun q hq => (hpF q hq).to hz (fun _ _ _ h => h) (fun _ _ h => h)
                    have hup := hpay3.to hz (fun _ _ _ h => h) (fun _ _ h => h)
                    subst hy htv
                    refine ⟨FRow.snoc (h := ⟨(ty : Nat), p, off, off + 4 + (k + 1), nx⟩) (by decide) eqs hoz hpz hup ho ht, ?_, ?_⟩
                    · have hdz : DRow wz w.heap.size 39 u5 D0 := hdr3.to hz (fun _ _ h => h)
                      exact hdz.to ht (fun i hi hS => rows_apart hdz hoz (by decide) i hi hS.2)
                    · exact ((HT.out.trans T3 (fun i hi => .inl hi)).trans hz (fun i hi => .inl hi)).trans ht (fun i hi => .inr hi.1)
                  have Fr := Lib.hid fr
                  clear fr hoF hpF eqs hdr3 T3 t3 hpay3 c3f hlF d3'
                  go_wp2_with (at_builtin; refine wpl_row (by rfl) _ _ 27 36 (by rfl) w.heap.size 5 56 _ Tryd.infoRFound Tryd.underlying27 (by rfl) (by decide) (by decide) _ U0.length (cells5 qs) (by rfl) (own_kept HoF.out ((Touch.refl _ (fun _ => False)).alloc _) (fun _ _ h => h)) _ _ (by rfl) (news_of (Cel.made _ _ _)) (by rfl) ?a1 ?a2 ?a3 ?_)
                  case a1 => first | (intro u hu; simp at hu; rcases hu with rfl | rfl | rfl | rfl | rfl <;> rfl) | exact ⟨rfl, rfl, rfl, rfl, rfl⟩ | (refine ⟨?_, ?_, ?_, ?_, ?_⟩ <;> rfl)
                  case a2 => omega
                  case a3 => first | omega | (simp; omega)
                  intro vu' w4 ho ht
                  have hfr := Fr.out _ ((Touch.refl _ (fun _ => False)).alloc _) vu' w4 _ _ rfl (by first | rfl | omega | (simp; done)) ho ht
                  have g4 : w4.cell? ⟨wp.heap.size, 4, none⟩ = some (.int .i64 (nx : Int)) := by
                    refine (ht.cell (p := ⟨wp.heap.size, 4, none⟩) (Nat.lt_of_lt_of_le hlt3 (by simp)) (fun hS => by have h5 : wp.heap.size < wp.heap.size := HlF.out _ hS.2; omega)).trans ?_
                    exact (World.cell?_of_block (Below.heap_alloc w3 _ wp.heap.size hlt3)).trans f4
                  have Hfr := Lib.hid hfr
                  clear ho ht hfr f0 f1 f2 f3 f4
                  go_wp2_with fail
                  go_roundw
                  case rel => exact ⟨nx, U0 ++ [⟨(ty : Nat), p, off, off + 4 + (k + 1), nx⟩], D0, rfl, by omega, Hf.out.1, Hf.out.2, Hnd.out, by simp; omega, by omega, Hfr.out.1, Hfr.out.2.1, Hfr.out.2.2⟩
                  case measure => simp [intOf]; omega
      · obtain rfl : off = b.length := by omega
        have hu := HU.out; have hd := HDD.out
        rw [List.drop_length, SM.its_nil] at hu hd
        have hu2 : SM.units b = U0 := by rw [hu]; simp [SM.hits]
        have hd2 : SM.bads b = D0 := by rw [hd]; simp [SM.defs]
        have Hu2 := Lib.hid hu2; have Hd2 := Lib.hid hd2
        clear hu hd hu2 hd2 hcode
        go_wp2_with fail
        go_ret2
        rw [Hu2.out, Hd2.out]
        exact ⟨_, _, rfl, HF.out, HDR.out, HT.out⟩
  · have hD := Hd.out
    rw [if_neg hL] at hD
    have HD := Lib.hid hD
    have hdec : decide (L = 0) = true := decide_eq_true (by omega)
    rw [hdec]
    have Dx : DRow w w.heap.size 39 (.slice none 0 0) [] := World.ownsRow_nil _ _ _ _
    have Tx : Touch w w (fun _ => False) := Touch.refl _ _
    have hlD : ([] : List (Nat × Nat)).length ≤ 1 := by simp
    clear hD hL hdec
    go_wp2_with fail
    go_loopw [4, 5, 6] (fun vu vd q wr => ∃ (off : Nat) (U0 : List SM.Hit) (D0 : List (Nat × Nat)), q = .int .i64 (off : Int) ∧ off ≤ b.length ∧ SM.units b = U0 ++ SM.hits (SM.its (b.drop off) off) ∧ SM.bads b = D0 ++ SM.defs (SM.its (b.drop off) off) ∧ (b.drop off = [] ∨ SM.codeH (b.drop off) = true) ∧ U0.length ≤ off ∧ D0.length ≤ off + 1 ∧ FRow wr w.heap.size 36 vu U0 ∧ DRow wr w.heap.size 39 vd D0 ∧ Touch w wr (fun _ => False)) (fun _ _ q _ => b.length - (intOf q).toNat)
    case atStart => exact ⟨N, [], _, rfl, hle, by rw [Hu.out, List.nil_append], HD.out, Hdrop.out, by simp, by omega, FRow.nil _ _ _, Dx, Tx⟩
    case round =>
      clear Dx Tx hlD HD
      obtain ⟨off, U0, D0, rfl, hoff, hU, hD, hcode, hlU, hlD, hF, hDR, hT⟩ := hrel
      have HF := Lib.hid hF; have HDR := Lib.hid hDR; have HT := Lib.hid hT
      have HU := Lib.hid hU; have HDD := Lib.hid hD
      clear hF hDR hU hD
      by_cases hlt : off < b.length
      · have hch : SM.codeH (b.drop off) = true := by
          rcases hcode with h0 | h0
          · have := congrArg List.length h0; simp at this; omega
          · exact h0
        have h4 := SM.codeH_long _ hch
        rw [List.length_drop] at h4
        have hstep := SM.its_step b off hch
        have hsl := H.out.to hT (fun _ _ _ h => h)
        have hsS : off + 4 ≤ b.length := by omega
        have hnb := SM.nx_le b (off + 4) hsS
        have hrl := reg_le b (off + 4) hsS
        have hnext := rnext_c wr _ b (off + 4) hsl hsS (by omega)
        have hnd : b.drop (SM.nx b (off + 4)) = [] ∨ SM.codeH (b.drop (SM.nx b (off + 4))) = true := by
          have := SM.nxL_drop (b.drop (off + 4))
          rw [List.drop_drop] at this
          exact this
        have hit : SM.itemAt b off = ⟨(b.getD (off + 3) 0 : Nat), (b.drop (off + 4)).take (SM.bl (reg b (off + 4) (SM.nx b (off + 4)))), off, off + 4 + SM.bl (reg b (off + 4) (SM.nx b (off + 4))), SM.nx b (off + 4)⟩ := rfl
        have hRl : (reg b (off + 4) (SM.nx b (off + 4))).length = SM.nx b (off + 4) - (off + 4) := by simp [reg]; omega
        have hRg := fun k => reg_get b (off + 4) (SM.nx b (off + 4)) k
        obtain ⟨g, o, cap, hv, hcap, hg, hcell⟩ := hsl.some_ (by omega)
        injection hv with hv _ hc2
        subst hv hc2
        have hty : b.getD (off + 3) 0 < 256 := by
          simp only [List.getD, List.getElem?_eq_getElem (show off + 3 < b.length by omega), Option.getD_some]
          exact Hby.out _ (List.getElem_mem _)
        have d3 := hcell (off + 3) (by omega)
        generalize SM.nx b (off + 4) = nx at *
        generalize hR : reg b (off + 4) nx = R at *
        generalize b.getD (off + 3) 0 = ty at *
        have hbl2 : SM.bl R ≤ nx - (off + 4) := hrl
        have hpart := hsl.part (off + 4) (SM.bl R) (c - (off + 4)) (by omega) (by omega)
        have hbl : ((b.drop (off + 4)).take (SM.bl R)).length = SM.bl R := by simp; omega
        have hbb : ∀ x ∈ (b.drop (off + 4)).take (SM.bl R), x < 256 := fun x hx => Hby.out x (List.mem_of_mem_drop (List.mem_of_mem_take hx))
        generalize hB : (b.drop (off + 4)).take (SM.bl R) = body at *
        have finN : SM.un body = none → SM.units b = U0 ++ SM.hits (SM.its (b.drop nx) nx) ∧ SM.bads b = (D0 ++ [(off, off + 4 + SM.bl R)]) ++ SM.defs (SM.its (b.drop nx) nx) := by
          intro hun
          rw [HU.out, HDD.out, hstep, hit, SM.hits_none _ _ hun, SM.defs_none _ _ hun]
          simp
        have finS : ∀ p, SM.un body = some p → SM.units b = (U0 ++ [⟨(ty : Nat), p, off, off + 4 + SM.bl R, nx⟩]) ++ SM.hits (SM.its (b.drop nx) nx) ∧ SM.bads b = D0 ++ SM.defs (SM.its (b.drop nx) nx) := by
          intro p hun
          rw [HU.out, HDD.out, hstep, hit, SM.hits_some _ _ p hun, SM.defs_some _ _ p hun]
          simp
        have FinN := Lib.hid finN; have FinS := Lib.hid finS
        have hcR : ∀ k, off + 4 + k < nx → wr.cell? ⟨g, o + (off + 4 + k), none⟩ = some (.int .u8 ((R.getD k 0 : Nat) : Int)) := fun k hk => by
          rw [hRg k hk]
          exact hcell (off + 4 + k) (by omega)
        have HcR := Lib.hid hcR; have Hpart := Lib.hid hpart; have Hnext := Lib.hid hnext; have Hnd := Lib.hid hnd; have Hbl := Lib.hid hbl; have Hbb := Lib.hid hbb; have HRl := Lib.hid hRl
        clear finN finS hpart hnext hstep hit hnd hcode hch hsl hcell hT hbl hB hbb hcR hRg hRl hrl hR
        go_wp2_with fail
        refine Hnext.out.mono ?_
        rintro e w1 ⟨rfl, rfl⟩
        go_wp2_with fail
        obtain ⟨wp, rfl⟩ : ∃ wp : World, wp = wr := ⟨_, rfl⟩
        have hgw : g < wp.heap.size := hg
        go_loopw [36] (fun _ wr => ∃ (k : Nat) (y : Int), k ≤ R.length ∧ y = ((off + 4 + k : Nat) : Int) ∧ Cel wr wp.heap.size 36 #[.int .i64 0, .slice none 0 0, .int .i64 (off : Int), .int .i64 y, .int .i64 (nx : Int)] ∧ SM.bl R = SM.bl (R.take k) ∧ Touch wp wr (fun _ => False)) (fun _ wr => (match wr.cell? ⟨wp.heap.size, 3, none⟩ with | some (.int _ z) => z.toNat | _ => 0))
        case atStart => exact ⟨R.length, (nx : Int), Nat.le_refl _, by rw [HRl.out]; omega, Cel.made _ _ _, by rw [List.take_length], (Touch.refl _ _).alloc _⟩
        case round =>
          obtain ⟨k, y, hk, hy, hc, hblk, hTq⟩ := hrel
          have e3 := hc.cell 3
          have e4 := hc.cell 4
          have ef3 := hc.free 3
          simp at e3 e4
          have hlen := HRl.out
          have Hc := Lib.hid hc; have Hblk := Lib.hid hblk; have HTq := Lib.hid hTq
          subst hy
          cases k with
          | zero =>
            have hL2 : SM.bl R = 0 := by rw [Hblk.out]; rfl
            clear hc hblk hTq
            rcases Nat.lt_or_ge (off + 4) c with hcgt | hcge
            · have HL2 := Lib.hid hL2
              clear hL2
              have hpt := (Hpart.out.to HTq.out (fun _ _ _ h => h))
              rw [HL2.out] at hpt
              have hbn : body.length = 0 := by rw [Hbl.out, HL2.out]
              have huns := fun (v : Value) (hv : Sl wr v body) => runs_c wr v body hv (by omega) Hbb.out
              have empty : ∀ a c, 0 = 0 → Sl wr (.slice (some a) 0 c) body := fun a c h => .inr (.inl ⟨a, c, by rw [h], List.eq_nil_of_length_eq_zero (by omega)⟩)
              have hfN := FinN.out
              have hfS := FinS.out
              rw [HL2.out] at hfN hfS
              have HfN := Lib.hid hfN; have HfS := Lib.hid hfS
              have Hpt := Lib.hid hpt; have Huns := Lib.hid huns; have Hempty := Lib.hid empty
              have hsT := HT.out.size
              have hsq := HTq.out.size
              clear hpt huns empty hfN hfS hbn
              go_wp2_with fail
              all_goals
                refine (Huns.out _ (by first | exact Hpt.out | exact Hempty.out _ _ (by omega))).mono ?_
                rintro e w2 ⟨vp, rfl, hop, htp⟩
                have hc2 := Hc.out.kept htp (fun h => h)
                have f2 := hc2.cell 2; have f3 := hc2.cell 3; have f4 := hc2.cell 4
                simp at f2 f3 f4
                have d3' : w2.cell? ⟨g, o + (off + 3), none⟩ = some (.int .u8 (ty : Int)) := ((HTq.out.trans htp (fun i hi => .inl hi)).cell (p := ⟨g, o + (off + 3), none⟩) hgw (fun h => h)).trans d3
                have hs2 := htp.size
                have hlt2 : wp.heap.size < w2.heap.size := Nat.lt_of_lt_of_le Hc.out.lt hs2
                have Hop := Lib.hid hop; have Htp := Lib.hid (HTq.out.trans htp (fun i hi => .inl hi)); have Hc2 := Lib.hid hc2
                clear hop htp hc2 e3 e4 ef3
                cases hun : SM.un body with
                | none =>
                  have e0 : SM.unE body = 3 := by unfold SM.unE; rw [hun]; rfl
                  rw [e0]
                  have Hf := Lib.hid (HfN.out hun)
                  clear hun e0
                  go_wp2_with (at_builtin; refine wpl_row (by rfl) _ _ 28 39 (by rfl) w.heap.size 2 16 _ Tryd.infoRDefect Tryd.underlying28 (by rfl) (by decide) (by decide) _ D0.length (cells2 D0) (by rfl) (own_kept (own_kept HDR.out Htp.out (fun _ _ h => h)) ((Touch.refl _ (fun _ => False)).alloc _) (fun _ _ h => h)) w2.heap.size _ (by rfl) (news_of (Cel.made _ _ _)) (by rfl) ?a1 ?a2 ?a3 ?_)
                  case a1 => intro u hu; simp at hu; rcases hu with rfl | rfl <;> rfl
                  case a2 => omega
                  case a3 => first | omega | (simp; omega)
                  intro vd' w3 ho ht
                  have Hd3 : DRow w3 w.heap.size 39 vd' (D0 ++ [(off, off + 4 + 0)]) := DRow.snoc (by (first | exact ho | (push_cast; exact ho) | (push_cast; simpa using ho)))
                  have T3 : Touch wp w3 (fun k => w.heap.size ≤ k ∧ u5.ownBlock = some k) := (((Htp.out.wide (fun i hi => hi.elim)).alloc _).trans ht (fun i hi => .inl hi))
                  have g4 : w3.cell? ⟨wp.heap.size, 4, none⟩ = some (.int .i64 (nx : Int)) := by
                    refine (ht.cell (p := ⟨wp.heap.size, 4, none⟩) (Nat.lt_of_lt_of_le hlt2 (by simp)) (fun hS => by have h5 : wp.heap.size < wp.heap.size := (HDR.out.lt _ hS.2).2; omega)).trans ?_
                    exact (World.cell?_of_block (Below.heap_alloc w2 _ wp.heap.size hlt2)).trans f4
                  have Hfr := Lib.hid (HF.out.to T3 (fun i hi hS => by obtain ⟨qs, eqs, hoF, hpF⟩ := HF.out; exact rows_apart hoF HDR.out (by decide) i hi hS.2) (fun i cs hc hS => own_row_apart HDR.out hS.2 (by decide) cs hc) (fun i hi hS => by omega))
                  have Hd3 := Lib.hid Hd3
                  have Ht3 := Lib.hid (HT.out.trans T3 (fun i hi => .inr hi.1))
                  clear ho ht T3 f2 f3 f4
                  go_wp2_with fail
                  go_roundw
                  case rel => exact ⟨nx, U0, D0 ++ [(off, off + 4 + 0)], rfl, by omega, Hf.out.1, Hf.out.2, Hnd.out, by omega, by simp; omega, Hfr.out, Hd3.out, Ht3.out⟩
                  case measure => simp [intOf]; omega
                | some p =>
                  have e0 : SM.unE body = 0 := by unfold SM.unE; rw [hun]; rfl
                  have e1 : SM.unR body = p := by unfold SM.unR; rw [hun]; rfl
                  have hop := Hop.out
                  rw [e1] at hop
                  have Hop := Lib.hid hop
                  rw [e0]
                  have Hf := Lib.hid (HfS.out p hun)
                  have hpay := Pay.ow (base := w.heap.size) Hop.out
                  obtain ⟨A3, c3, rfl⟩ := Hop.out.sl.len
                  have f0 := Hc2.out.cell 0; have f1 := Hc2.out.cell 1
                  have ff0 := Hc2.out.free 0; have ff1 := Hc2.out.free 1
                  simp at f0 f1
                  have Hpay := Lib.hid hpay
                  clear hun e0 e1 hop hpay
                  go_upto_region 14 with fail
                  have c3f := (Hc2.out.store 0 (.int .i64 (ty : Int))).store 1 (.slice A3 p.length c3)
                  have t3 : Touch w2 ((w2.setCell ⟨wp.heap.size, 0, none⟩ (.int .i64 (ty : Int))).setCell ⟨wp.heap.size, 1, none⟩ (.slice A3 p.length c3)) (fun i => i = wp.heap.size) := Touch.store (S := fun i => i = wp.heap.size) (Touch.store (S := fun i => i = wp.heap.size) (Touch.refl _ _) (p := ⟨wp.heap.size, 0, none⟩) (.inl rfl) _) (p := ⟨wp.heap.size, 1, none⟩) (.inl rfl) _
                  have hpay3 := Hpay.out.to t3 (fun i cs hc e => by subst e; exact Cel.apart hc Hc2.out (by decide) rfl) (fun i hi e => by omega)
                  generalize (w2.setCell ⟨wp.heap.size, 0, none⟩ (.int .i64 (ty : Int))).setCell ⟨wp.heap.size, 1, none⟩ (.slice A3 p.length c3) = w3 at *
                  simp at c3f
                  clear f0 f1 f2 f3 f4 ff0 ff1
                  have f0 := c3f.cell 0; have f1 := c3f.cell 1; have f2 := c3f.cell 2; have f3 := c3f.cell 3; have f4 := c3f.cell 4
                  simp at f0 f1 f2 f3 f4
                  have T3 : Touch wp w3 (fun _ => False) := Htp.out.trans t3 (fun i hi => .inr (by omega))
                  have hs3 := t3.size
                  have hlt3 : wp.heap.size < w3.heap.size := Nat.lt_of_lt_of_le hlt2 hs3
                  have hlF : ∀ i, u4.ownBlock = some i → i < wp.heap.size := by
                    obtain ⟨qs0, e0, ho0, hp0⟩ := HF.out
                    exact fun i hi => (ho0.lt i hi).2
                  obtain ⟨qs, eqs, hoF, hpF⟩ := HF.out.to0 T3
                  have hdr3 : DRow w3 w.heap.size 39 u5 D0 := HDR.out.to T3 (fun _ _ h => h)
                  have HoF := Lib.hid hoF; have HT3 := Lib.hid T3; have HlF := Lib.hid hlF
                  have fr : ∀ (wz : World), Touch w3 wz (fun _ => False) → ∀ (v' : Value) (w4 : World) (tv y : Int), tv = (ty : Int) → y = ((off + 4 + 0 : Nat) : Int) →
                      w4.ownsRow w.heap.size 36 5 v' (U0.length + 1) (cells5 qs ++ [.int .i64 tv, .slice A3 p.length c3, .int .i64 (off : Int), .int .i64 y, .int .i64 (nx : Int)]) →
                      Touch wz w4 (fun k => w.heap.size ≤ k ∧ u4.ownBlock = some k) →
                      FRow w4 w.heap.size 36 v' (U0 ++ [⟨(ty : Nat), p, off, off + 4 + 0, nx⟩]) ∧ DRow w4 w.heap.size 39 u5 D0 ∧ Touch w w4 (fun _ => False) := by
                    intro wz hz v' w4 tv y htv hy ho ht
                    have hoz := own_kept HoF.out hz (fun _ _ h => h)
                    have hpz : ∀ q ∈ qs, Pay wz w.heap.size q.2 q.1.p := fun q hq => (hpF q hq).to hz (fun _ _ _ h => h) (fun _ _ h => h)
                    have hup := hpay3.to hz (fun _ _ _ h => h) (fun _ _ h => h)
                    subst hy htv
                    refine ⟨FRow.snoc (h := ⟨(ty : Nat), p, off, off + 4 + 0, nx⟩) (by decide) eqs hoz hpz hup ho ht, ?_, ?_⟩
                    · have hdz : DRow wz w.heap.size 39 u5 D0 := hdr3.to hz (fun _ _ h => h)
                      exact hdz.to ht (fun i hi hS => rows_apart hdz hoz (by decide) i hi hS.2)
                    · exact ((HT.out.trans T3 (fun i hi => .inl hi)).trans hz (fun i hi => .inl hi)).trans ht (fun i hi => .inr hi.1)
                  have Fr := Lib.hid fr
                  clear fr hoF hpF eqs hdr3 T3 t3 hpay3 c3f hlF d3'
                  go_wp2_with (at_builtin; refine wpl_row (by rfl) _ _ 27 36 (by rfl) w.heap.size 5 56 _ Tryd.infoRFound Tryd.underlying27 (by rfl) (by decide) (by decide) _ U0.length (cells5 qs) (by rfl) (own_kept HoF.out ((Touch.refl _ (fun _ => False)).alloc _) (fun _ _ h => h)) _ _ (by rfl) (news_of (Cel.made _ _ _)) (by rfl) ?a1 ?a2 ?a3 ?_)
                  case a1 => first | (intro u hu; simp at hu; rcases hu with rfl | rfl | rfl | rfl | rfl <;> rfl) | exact ⟨rfl, rfl, rfl, rfl, rfl⟩ | (refine ⟨?_, ?_, ?_, ?_, ?_⟩ <;> rfl)
                  case a2 => omega
                  case a3 => first | omega | (simp; omega)
                  intro vu' w4 ho ht
                  have hfr := Fr.out _ ((Touch.refl _ (fun _ => False)).alloc _) vu' w4 _ _ rfl (by first | rfl | omega | (simp; done)) ho ht
                  have g4 : w4.cell? ⟨wp.heap.size, 4, none⟩ = some (.int .i64 (nx : Int)) := by
                    refine (ht.cell (p := ⟨wp.heap.size, 4, none⟩) (Nat.lt_of_lt_of_le hlt3 (by simp)) (fun hS => by have h5 : wp.heap.size < wp.heap.size := HlF.out _ hS.2; omega)).trans ?_
                    exact (World.cell?_of_block (Below.heap_alloc w3 _ wp.heap.size hlt3)).trans f4
                  have Hfr := Lib.hid hfr
                  clear ho ht hfr f0 f1 f2 f3 f4
                  go_wp2_with fail
                  go_roundw
                  case rel => exact ⟨nx, U0 ++ [⟨(ty : Nat), p, off, off + 4 + 0, nx⟩], D0, rfl, by omega, Hf.out.1, Hf.out.2, Hnd.out, by simp; omega, by omega, Hfr.out.1, Hfr.out.2.1, Hfr.out.2.2⟩
                  case measure => simp [intOf]; omega
            · obtain rfl : c = off + 4 := by omega
              have HL2 := Lib.hid hL2
              clear hL2
              have hpt := (Hpart.out.to HTq.out (fun _ _ _ h => h))
              rw [HL2.out] at hpt
              have hbn : body.length = 0 := by rw [Hbl.out, HL2.out]
              have huns := fun (v : Value) (hv : Sl wr v body) => runs_c wr v body hv (by omega) Hbb.out
              have empty : ∀ a c, 0 = 0 → Sl wr (.slice (some a) 0 c) body := fun a c h => .inr (.inl ⟨a, c, by rw [h], List.eq_nil_of_length_eq_zero (by omega)⟩)
              have hfN := FinN.out
              have hfS := FinS.out
              rw [HL2.out] at hfN hfS
              have HfN := Lib.hid hfN; have HfS := Lib.hid hfS
              have Hpt := Lib.hid hpt; have Huns := Lib.hid huns; have Hempty := Lib.hid empty
              have hsT := HT.out.size
              have hsq := HTq.out.size
              clear hpt huns empty hfN hfS hbn
              go_wp2_with fail
              all_goals
                refine (Huns.out _ (by first | exact Hpt.out | exact Hempty.out _ _ (by omega))).mono ?_
                rintro e w2 ⟨vp, rfl, hop, htp⟩
                have hc2 := Hc.out.kept htp (fun h => h)
                have f2 := hc2.cell 2; have f3 := hc2.cell 3; have f4 := hc2.cell 4
                simp at f2 f3 f4
                have d3' : w2.cell? ⟨g, o + (off + 3), none⟩ = some (.int .u8 (ty : Int)) := ((HTq.out.trans htp (fun i hi => .inl hi)).cell (p := ⟨g, o + (off + 3), none⟩) hgw (fun h => h)).trans d3
                have hs2 := htp.size
                have hlt2 : wp.heap.size < w2.heap.size := Nat.lt_of_lt_of_le Hc.out.lt hs2
                have Hop := Lib.hid hop; have Htp := Lib.hid (HTq.out.trans htp (fun i hi => .inl hi)); have Hc2 := Lib.hid hc2
                clear hop htp hc2 e3 e4 ef3
                cases hun : SM.un body with
                | none =>
                  have e0 : SM.unE body = 3 := by unfold SM.unE; rw [hun]; rfl
                  rw [e0]
                  have Hf := Lib.hid (HfN.out hun)
                  clear hun e0
                  go_wp2_with (at_builtin; refine wpl_row (by rfl) _ _ 28 39 (by rfl) w.heap.size 2 16 _ Tryd.infoRDefect Tryd.underlying28 (by rfl) (by decide) (by decide) _ D0.length (cells2 D0) (by rfl) (own_kept (own_kept HDR.out Htp.out (fun _ _ h => h)) ((Touch.refl _ (fun _ => False)).alloc _) (fun _ _ h => h)) w2.heap.size _ (by rfl) (news_of (Cel.made _ _ _)) (by rfl) ?a1 ?a2 ?a3 ?_)
                  case a1 => intro u hu; simp at hu; rcases hu with rfl | rfl <;> rfl
                  case a2 => omega
                  case a3 => first | omega | (simp; omega)
                  intro vd' w3 ho ht
                  have Hd3 : DRow w3 w.heap.size 39 vd' (D0 ++ [(off, off + 4 + 0)]) := DRow.snoc (by (first | exact ho | (push_cast; exact ho) | (push_cast; simpa using ho)))
                  have T3 : Touch wp w3 (fun k => w.heap.size ≤ k ∧ u5.ownBlock = some k) := (((Htp.out.wide (fun i hi => hi.elim)).alloc _).trans ht (fun i hi => .inl hi))
                  have g4 : w3.cell? ⟨wp.heap.size, 4, none⟩ = some (.int .i64 (nx : Int)) := by
                    refine (ht.cell (p := ⟨wp.heap.size, 4, none⟩) (Nat.lt_of_lt_of_le hlt2 (by simp)) (fun hS => by have h5 : wp.heap.size < wp.heap.size := (HDR.out.lt _ hS.2).2; omega)).trans ?_
                    exact (World.cell?_of_block (Below.heap_alloc w2 _ wp.heap.size hlt2)).trans f4
                  have Hfr := Lib.hid (HF.out.to T3 (fun i hi hS => by obtain ⟨qs, eqs, hoF, hpF⟩ := HF.out; exact rows_apart hoF HDR.out (by decide) i hi hS.2) (fun i cs hc hS => own_row_apart HDR.out hS.2 (by decide) cs hc) (fun i hi hS => by omega))
                  have Hd3 := Lib.hid Hd3
                  have Ht3 := Lib.hid (HT.out.trans T3 (fun i hi => .inr hi.1))
                  clear ho ht T3 f2 f3 f4
                  go_wp2_with fail
                  go_roundw
                  case rel => exact ⟨nx, U0, D0 ++ [(off, off + 4 + 0)], rfl, by omega, Hf.out.1, Hf.out.2, Hnd.out, by omega, by simp; omega, Hfr.out, Hd3.out, Ht3.out⟩
                  case measure => simp [intOf]; omega
                | some p =>
                  have e0 : SM.unE body = 0 := by unfold SM.unE; rw [hun]; rfl
                  have e1 : SM.unR body = p := by unfold SM.unR; rw [hun]; rfl
                  have hop := Hop.out
                  rw [e1] at hop
                  have Hop := Lib.hid hop
                  rw [e0]
                  have Hf := Lib.hid (HfS.out p hun)
                  have hpay := Pay.ow (base := w.heap.size) Hop.out
                  obtain ⟨A3, c3, rfl⟩ := Hop.out.sl.len
                  have f0 := Hc2.out.cell 0; have f1 := Hc2.out.cell 1
                  have ff0 := Hc2.out.free 0; have ff1 := Hc2.out.free 1
                  simp at f0 f1
                  have Hpay := Lib.hid hpay
                  clear hun e0 e1 hop hpay
                  go_upto_region 14 with fail
                  have c3f := (Hc2.out.store 0 (.int .i64 (ty : Int))).store 1 (.slice A3 p.length c3)
                  have t3 : Touch w2 ((w2.setCell ⟨wp.heap.size, 0, none⟩ (.int .i64 (ty : Int))).setCell ⟨wp.heap.size, 1, none⟩ (.slice A3 p.length c3)) (fun i => i = wp.heap.size) := Touch.store (S := fun i => i = wp.heap.size) (Touch.store (S := fun i => i = wp.heap.size) (Touch.refl _ _) (p := ⟨wp.heap.size, 0, none⟩) (.inl rfl) _) (p := ⟨wp.heap.size, 1, none⟩) (.inl rfl) _
                  have hpay3 := Hpay.out.to t3 (fun i cs hc e => by subst e; exact Cel.apart hc Hc2.out (by decide) rfl) (fun i hi e => by omega)
                  generalize (w2.setCell ⟨wp.heap.size, 0, none⟩ (.int .i64 (ty : Int))).setCell ⟨wp.heap.size, 1, none⟩ (.slice A3 p.length c3) = w3 at *
                  simp at c3f
                  clear f0 f1 f2 f3 f4 ff0 ff1
                  have f0 := c3f.cell 0; have f1 := c3f.cell 1; have f2 := c3f.cell 2; have f3 := c3f.cell 3; have f4 := c3f.cell 4
                  simp at f0 f1 f2 f3 f4
                  have T3 : Touch wp w3 (fun _ => False) := Htp.out.trans t3 (fun i hi => .inr (by omega))
                  have hs3 := t3.size
                  have hlt3 : wp.heap.size < w3.heap.size := Nat.lt_of_lt_of_le hlt2 hs3
                  have hlF : ∀ i, u4.ownBlock = some i → i < wp.heap.size := by
                    obtain ⟨qs0, e0, ho0, hp0⟩ := HF.out
                    exact fun i hi => (ho0.lt i hi).2
                  obtain ⟨qs, eqs, hoF, hpF⟩ := HF.out.to0 T3
                  have hdr3 : DRow w3 w.heap.size 39 u5 D0 := HDR.out.to T3 (fun _ _ h => h)
                  have HoF := Lib.hid hoF; have HT3 := Lib.hid T3; have HlF := Lib.hid hlF
                  have fr : ∀ (wz : World), Touch w3 wz (fun _ => False) → ∀ (v' : Value) (w4 : World) (tv y : Int), tv = (ty : Int) → y = ((off + 4 + 0 : Nat) : Int) →
                      w4.ownsRow w.heap.size 36 5 v' (U0.length + 1) (cells5 qs ++ [.int .i64 tv, .slice A3 p.length c3, .int .i64 (off : Int), .int .i64 y, .int .i64 (nx : Int)]) →
                      Touch wz w4 (fun k => w.heap.size ≤ k ∧ u4.ownBlock = some k) →
                      FRow w4 w.heap.size 36 v' (U0 ++ [⟨(ty : Nat), p, off, off + 4 + 0, nx⟩]) ∧ DRow w4 w.heap.size 39 u5 D0 ∧ Touch w w4 (fun _ => False) := by
                    intro wz hz v' w4 tv y htv hy ho ht
                    have hoz := own_kept HoF.out hz (fun _ _ h => h)
                    have hpz : ∀ q ∈ qs, Pay wz w.heap.size q.2 q.1.p := fun q hq => (hpF q hq).to hz (fun _ _ _ h => h) (fun _ _ h => h)
                    have hup := hpay3.to hz (fun _ _ _ h => h) (fun _ _ h => h)
                    subst hy htv
                    refine ⟨FRow.snoc (h := ⟨(ty : Nat), p, off, off + 4 + 0, nx⟩) (by decide) eqs hoz hpz hup ho ht, ?_, ?_⟩
                    · have hdz : DRow wz w.heap.size 39 u5 D0 := hdr3.to hz (fun _ _ h => h)
                      exact hdz.to ht (fun i hi hS => rows_apart hdz hoz (by decide) i hi hS.2)
                    · exact ((HT.out.trans T3 (fun i hi => .inl hi)).trans hz (fun i hi => .inl hi)).trans ht (fun i hi => .inr hi.1)
                  have Fr := Lib.hid fr
                  clear fr hoF hpF eqs hdr3 T3 t3 hpay3 c3f hlF d3'
                  go_wp2_with (at_builtin; refine wpl_row (by rfl) _ _ 27 36 (by rfl) w.heap.size 5 56 _ Tryd.infoRFound Tryd.underlying27 (by rfl) (by decide) (by decide) _ U0.length (cells5 qs) (by rfl) (own_kept HoF.out ((Touch.refl _ (fun _ => False)).alloc _) (fun _ _ h => h)) _ _ (by rfl) (news_of (Cel.made _ _ _)) (by rfl) ?a1 ?a2 ?a3 ?_)
                  case a1 => first | (intro u hu; simp at hu; rcases hu with rfl | rfl | rfl | rfl | rfl <;> rfl) | exact ⟨rfl, rfl, rfl, rfl, rfl⟩ | (refine ⟨?_, ?_, ?_, ?_, ?_⟩ <;> rfl)
                  case a2 => omega
                  case a3 => first | omega | (simp; omega)
                  intro vu' w4 ho ht
                  have hfr := Fr.out _ ((Touch.refl _ (fun _ => False)).alloc _) vu' w4 _ _ rfl (by first | rfl | omega | (simp; done)) ho ht
                  have g4 : w4.cell? ⟨wp.heap.size, 4, none⟩ = some (.int .i64 (nx : Int)) := by
                    refine (ht.cell (p := ⟨wp.heap.size, 4, none⟩) (Nat.lt_of_lt_of_le hlt3 (by simp)) (fun hS => by have h5 : wp.heap.size < wp.heap.size := HlF.out _ hS.2; omega)).trans ?_
                    exact (World.cell?_of_block (Below.heap_alloc w3 _ wp.heap.size hlt3)).trans f4
                  have Hfr := Lib.hid hfr
                  clear ho ht hfr f0 f1 f2 f3 f4
                  go_wp2_with fail
                  go_roundw
                  case rel => exact ⟨nx, U0 ++ [⟨(ty : Nat), p, off, off + 4 + 0, nx⟩], D0, rfl, by omega, Hf.out.1, Hf.out.2, Hnd.out, by simp; omega, by omega, Hfr.out.1, Hfr.out.2.1, Hfr.out.2.2⟩
                  case measure => simp [intOf]; omega
          | succ k =>
            have hkn : off + 4 + k < nx := by omega
            have dk := (hTq.cell (p := ⟨g, o + (off + 4 + k), none⟩) hgw (fun h => h)).trans (HcR.out k hkn)
            have hsn := SM.bl_snoc (R.take k) (R.getD k 0)
            rw [← take_snoc R k (by omega)] at hsn
            have a0 := beq_k (R.getD k 0) 0
            have hlt2 : (R.take k).length = k := by simp; omega
            rw [hlt2] at hsn
            generalize R.getD k 0 = yv at *
            have Hsn := Lib.hid hsn
            clear hc hblk hTq hsn hlt2
            by_cases hyv : yv = 0
            · subst hyv
              clear a0
              go_wp2_with fail
              go_roundw
              case rel =>
                refine ⟨k, (off : Int) + 4 + ((k : Int) + 1) - 1, by omega, by omega, ?_, by rw [Hblk.out, Hsn.out, if_pos rfl], HTq.out.trans (Touch.store (S := fun i => i = wp.heap.size) (Touch.refl _ _) (p := ⟨wp.heap.size, 3, none⟩) (.inl rfl) _) (fun i hi => .inr (by omega))⟩
                have := Hc.out.store 3 (.int .i64 ((off : Int) + 4 + ((k : Int) + 1) - 1))
                simpa using this
              case measure => have e5 := Hc.out.cell 3; have e6 := (Hc.out.store 3 (.int .i64 ((off : Int) + 4 + ((k : Int) + 1) - 1))).cell 3; simp at e5 e6; simp [e5, e6]; omega
            · have hyb : (((yv : Nat) : Int) == 0) = false := a0.trans (beq_eq_false_iff_ne.2 hyv)
              have hL2 : SM.bl R = k + 1 := by rw [Hblk.out, Hsn.out, if_neg hyv]
              clear hyv a0
              have hcgt : off + 4 < c := by omega
              have HL2 := Lib.hid hL2
              clear hL2
              have hpt := (Hpart.out.to HTq.out (fun _ _ _ h => h))
              rw [HL2.out] at hpt
              have hbn : body.length = (k + 1) := by rw [Hbl.out, HL2.out]
              have huns := fun (v : Value) (hv : Sl wr v body) => runs_c wr v body hv (by omega) Hbb.out
              have empty : ∀ a c, (k + 1) = 0 → Sl wr (.slice (some a) (k + 1) c) body := fun a c h => .inr (.inl ⟨a, c, by rw [h], List.eq_nil_of_length_eq_zero (by omega)⟩)
              have hfN := FinN.out
              have hfS := FinS.out
              rw [HL2.out] at hfN hfS
              have HfN := Lib.hid hfN; have HfS := Lib.hid hfS
              have Hpt := Lib.hid hpt; have Huns := Lib.hid huns; have Hempty := Lib.hid empty
              have hsT := HT.out.size
              have hsq := HTq.out.size
              clear hpt huns empty hfN hfS hbn
              go_wp2_with fail
              all_goals
                refine (Huns.out _ (by first | exact Hpt.out | exact Hempty.out _ _ (by omega))).mono ?_
                rintro e w2 ⟨vp, rfl, hop, htp⟩
                have hc2 := Hc.out.kept htp (fun h => h)
                have f2 := hc2.cell 2; have f3 := hc2.cell 3; have f4 := hc2.cell 4
                simp at f2 f3 f4
                have d3' : w2.cell? ⟨g, o + (off + 3), none⟩ = some (.int .u8 (ty : Int)) := ((HTq.out.trans htp (fun i hi => .inl hi)).cell (p := ⟨g, o + (off + 3), none⟩) hgw (fun h => h)).trans d3
                have hs2 := htp.size
                have hlt2 : wp.heap.size < w2.heap.size := Nat.lt_of_lt_of_le Hc.out.lt hs2
                have Hop := Lib.hid hop; have Htp := Lib.hid (HTq.out.trans htp (fun i hi => .inl hi)); have Hc2 := Lib.hid hc2
                clear hop htp hc2 e3 e4 ef3
                cases hun : SM.un body with
                | none =>
                  have e0 : SM.unE body = 3 := by unfold SM.unE; rw [hun]; rfl
                  rw [e0]
                  have Hf := Lib.hid (HfN.out hun)
                  clear hun e0
                  go_wp2_with (at_builtin; refine wpl_row (by rfl) _ _ 28 39 (by rfl) w.heap.size 2 16 _ Tryd.infoRDefect Tryd.underlying28 (by rfl) (by decide) (by decide) _ D0.length (cells2 D0) (by rfl) (own_kept (own_kept HDR.out Htp.out (fun _ _ h => h)) ((Touch.refl _ (fun _ => False)).alloc _) (fun _ _ h => h)) w2.heap.size _ (by rfl) (news_of (Cel.made _ _ _)) (by rfl) ?a1 ?a2 ?a3 ?_)
                  case a1 => intro u hu; simp at hu; rcases hu with rfl | rfl <;> rfl
                  case a2 => omega
                  case a3 => first | omega | (simp; omega)
                  intro vd' w3 ho ht
                  have Hd3 : DRow w3 w.heap.size 39 vd' (D0 ++ [(off, off + 4 + (k + 1))]) := DRow.snoc (by (first | exact ho | (push_cast; exact ho) | (push_cast; simpa using ho)))
                  have T3 : Touch wp w3 (fun k => w.heap.size ≤ k ∧ u5.ownBlock = some k) := (((Htp.out.wide (fun i hi => hi.elim)).alloc _).trans ht (fun i hi => .inl hi))
                  have g4 : w3.cell? ⟨wp.heap.size, 4, none⟩ = some (.int .i64 (nx : Int)) := by
                    refine (ht.cell (p := ⟨wp.heap.size, 4, none⟩) (Nat.lt_of_lt_of_le hlt2 (by simp)) (fun hS => by have h5 : wp.heap.size < wp.heap.size := (HDR.out.lt _ hS.2).2; omega)).trans ?_
                    exact (World.cell?_of_block (Below.heap_alloc w2 _ wp.heap.size hlt2)).trans f4
                  have Hfr := Lib.hid (HF.out.to T3 (fun i hi hS => by obtain ⟨qs, eqs, hoF, hpF⟩ := HF.out; exact rows_apart hoF HDR.out (by decide) i hi hS.2) (fun i cs hc hS => own_row_apart HDR.out hS.2 (by decide) cs hc) (fun i hi hS => by omega))
                  have Hd3 := Lib.hid Hd3
                  have Ht3 := Lib.hid (HT.out.trans T3 (fun i hi => .inr hi.1))
                  clear ho ht T3 f2 f3 f4
                  go_wp2_with fail
                  go_roundw
                  case rel => exact ⟨nx, U0, D0 ++ [(off, off + 4 + (k + 1))], rfl, by omega, Hf.out.1, Hf.out.2, Hnd.out, by omega, by simp; omega, Hfr.out, Hd3.out, Ht3.out⟩
                  case measure => simp [intOf]; omega
                | some p =>
                  have e0 : SM.unE body = 0 := by unfold SM.unE; rw [hun]; rfl
                  have e1 : SM.unR body = p := by unfold SM.unR; rw [hun]; rfl
                  have hop := Hop.out
                  rw [e1] at hop
                  have Hop := Lib.hid hop
                  rw [e0]
                  have Hf := Lib.hid (HfS.out p hun)
                  have hpay := Pay.ow (base := w.heap.size) Hop.out
                  obtain ⟨A3, c3, rfl⟩ := Hop.out.sl.len
                  have f0 := Hc2.out.cell 0; have f1 := Hc2.out.cell 1
                  have ff0 := Hc2.out.free 0; have ff1 := Hc2.out.free 1
                  simp at f0 f1
                  have Hpay := Lib.hid hpay
                  clear hun e0 e1 hop hpay
                  go_upto_region 14 with fail
                  have c3f := (Hc2.out.store 0 (.int .i64 (ty : Int))).store 1 (.slice A3 p.length c3)
                  have t3 : Touch w2 ((w2.setCell ⟨wp.heap.size, 0, none⟩ (.int .i64 (ty : Int))).setCell ⟨wp.heap.size, 1, none⟩ (.slice A3 p.length c3)) (fun i => i = wp.heap.size) := Touch.store (S := fun i => i = wp.heap.size) (Touch.store (S := fun i => i = wp.heap.size) (Touch.refl _ _) (p := ⟨wp.heap.size, 0, none⟩) (.inl rfl) _) (p := ⟨wp.heap.size, 1, none⟩) (.inl rfl) _
                  have hpay3 := Hpay.out.to t3 (fun i cs hc e => by subst e; exact Cel.apart hc Hc2.out (by decide) rfl) (fun i hi e => by omega)
                  generalize (w2.setCell ⟨wp.heap.size, 0, none⟩ (.int .i64 (ty : Int))).setCell ⟨wp.heap.size, 1, none⟩ (.slice A3 p.length c3) = w3 at *
                  simp at c3f
                  clear f0 f1 f2 f3 f4 ff0 ff1
                  have f0 := c3f.cell 0; have f1 := c3f.cell 1; have f2 := c3f.cell 2; have f3 := c3f.cell 3; have f4 := c3f.cell 4
                  simp at f0 f1 f2 f3 f4
                  have T3 : Touch wp w3 (fun _ => False) := Htp.out.trans t3 (fun i hi => .inr (by omega))
                  have hs3 := t3.size
                  have hlt3 : wp.heap.size < w3.heap.size := Nat.lt_of_lt_of_le hlt2 hs3
                  have hlF : ∀ i, u4.ownBlock = some i → i < wp.heap.size := by
                    obtain ⟨qs0, e0, ho0, hp0⟩ := HF.out
                    exact fun i hi => (ho0.lt i hi).2
                  obtain ⟨qs, eqs, hoF, hpF⟩ := HF.out.to0 T3
                  have hdr3 : DRow w3 w.heap.size 39 u5 D0 := HDR.out.to T3 (fun _ _ h => h)
                  have HoF := Lib.hid hoF; have HT3 := Lib.hid T3; have HlF := Lib.hid hlF
                  have fr : ∀ (wz : World), Touch w3 wz (fun _ => False) → ∀ (v' : Value) (w4 : World) (tv y : Int), tv = (ty : Int) → y = ((off + 4 + (k + 1) : Nat) : Int) →
                      w4.ownsRow w.heap.size 36 5 v' (U0.length + 1) (cells5 qs ++ [.int .i64 tv, .slice A3 p.length c3, .int .i64 (off : Int), .int .i64 y, .int .i64 (nx : Int)]) →
                      Touch wz w4 (fun k => w.heap.size ≤ k ∧ u4.ownBlock = some k) →
                      FRow w4 w.heap.size 36 v' (U0 ++ [⟨(ty : Nat), p, off, off + 4 + (k + 1), nx⟩]) ∧ DRow w4 w.heap.size 39 u5 D0 ∧ Touch w w4 (fun _ => False) := by
                    intro wz hz v' w4 tv y htv hy ho ht
                    have hoz := own_kept HoF.out hz (fun _ _ h => h)
                    have hpz : ∀ q ∈ qs, Pay wz w.heap.size q.2 q.1.p := fun q hq => (hpF q hq).to hz (fun _ _ _ h => h) (fun _ _ h => h)
                    have hup := hpay3.to hz (fun _ _ _ h => h) (fun _ _ h => h)
                    subst hy htv
                    refine ⟨FRow.snoc (h := ⟨(ty : Nat), p, off, off + 4 + (k + 1), nx⟩) (by decide) eqs hoz hpz hup ho ht, ?_, ?_⟩
                    · have hdz : DRow wz w.heap.size 39 u5 D0 := hdr3.to hz (fun _ _ h => h)
                      exact hdz.to ht (fun i hi hS => rows_apart hdz hoz (by decide) i hi hS.2)
                    · exact ((HT.out.trans T3 (fun i hi => .inl hi)).trans hz (fun i hi => .inl hi)).trans ht (fun i hi => .inr hi.1)
                  have Fr := Lib.hid fr
                  clear fr hoF hpF eqs hdr3 T3 t3 hpay3 c3f hlF d3'
                  go_wp2_with (at_builtin; refine wpl_row (by rfl) _ _ 27 36 (by rfl) w.heap.size 5 56 _ Tryd.infoRFound Tryd.underlying27 (by rfl) (by decide) (by decide) _ U0.length (cells5 qs) (by rfl) (own_kept HoF.out ((Touch.refl _ (fun _ => False)).alloc _) (fun _ _ h => h)) _ _ (by rfl) (news_of (Cel.made _ _ _)) (by rfl) ?a1 ?a2 ?a3 ?_)
                  case a1 => first | (intro u hu; simp at hu; rcases hu with rfl | rfl | rfl | rfl | rfl <;> rfl) | exact ⟨rfl, rfl, rfl, rfl, rfl⟩ | (refine ⟨?_, ?_, ?_, ?_, ?_⟩ <;> rfl)
                  case a2 => omega
                  case a3 => first | omega | (simp; omega)
                  intro vu' w4 ho ht
                  have hfr := Fr.out _ ((Touch.refl _ (fun _ => False)).alloc _) vu' w4 _ _ rfl (by first | rfl | omega | (simp; done)) ho ht
                  have g4 : w4.cell? ⟨wp.heap.size, 4, none⟩ = some (.int .i64 (nx : Int)) := by
                    refine (ht.cell (p := ⟨wp.heap.size, 4, none⟩) (Nat.lt_of_lt_of_le hlt3 (by simp)) (fun hS => by have h5 : wp.heap.size < wp.heap.size := HlF.out _ hS.2; omega)).trans ?_
                    exact (World.cell?_of_block (Below.heap_alloc w3 _ wp.heap.size hlt3)).trans f4
                  have Hfr := Lib.hid hfr
                  clear ho ht hfr f0 f1 f2 f3 f4
                  go_wp2_with fail
                  go_roundw
                  case rel => exact ⟨nx, U0 ++ [⟨(ty : Nat), p, off, off + 4 + (k + 1), nx⟩], D0, rfl, by omega, Hf.out.1, Hf.out.2, Hnd.out, by simp; omega, by omega, Hfr.out.1, Hfr.out.2.1, Hfr.out.2.2⟩
                  case measure => simp [intOf]; omega
      · obtain rfl : off = b.length := by omega
        have hu := HU.out; have hd := HDD.out
        rw [List.drop_length, SM.its_nil] at hu hd
        have hu2 : SM.units b = U0 := by rw [hu]; simp [SM.hits]
        have hd2 : SM.bads b = D0 := by rw [hd]; simp [SM.defs]
        have Hu2 := Lib.hid hu2; have Hd2 := Lib.hid hd2
        clear hu hd hu2 hd2 hcode
        go_wp2_with fail
        go_ret2
        rw [Hu2.out, Hd2.out]
        exact ⟨_, _, rfl, HF.out, HDR.out, HT.out⟩
end Go.Proofs.YtpkjogjdacogeaaDoor
