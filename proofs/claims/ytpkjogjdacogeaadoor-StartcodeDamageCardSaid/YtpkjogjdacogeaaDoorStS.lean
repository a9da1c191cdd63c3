/- The code's Split. -/
import Derived.Test.YtpkjogjdacogeaaDoorStW
namespace Go.Proofs.YtpkjogjdacogeaaDoor
open Go.RowKit
set_option linter.unusedVariables false
set_option linter.unusedSimpArgs false

namespace SM
/-- the item at a start code -/
def itemAt (b : List Nat) (off : Nat) : Item := ⟨(b.getD (off + 3) 0 : Nat), (b.drop (off + 4)).take (bl (reg b (off + 4) (nx b (off + 4)))), off, off + 4 + bl (reg b (off + 4) (nx b (off + 4))), nx b (off + 4)⟩
theorem its_step (b : List Nat) (off : Nat) (h : codeH (b.drop off) = true) : its (b.drop off) off = itemAt b off :: its (b.drop (nx b (off + 4))) (nx b (off + 4)) := by
  have h4 := codeH_long _ h
  have e4 : b.drop (off + 4) = (b.drop off).drop 4 := by rw [List.drop_drop]
  have e3 : b.getD (off + 3) 0 = (b.drop off).getD 3 0 := by simp [List.getD]
  have en : nx b (off + 4) = off + 4 + nxL ((b.drop off).drop 4) := by unfold nx; rw [e4]
  have er : reg b (off + 4) (nx b (off + 4)) = ((b.drop off).drop 4).take (nxL ((b.drop off).drop 4)) := by
    unfold reg
    rw [en, e4]
    congr 1
    try omega
  have ed : b.drop (nx b (off + 4)) = ((b.drop off).drop 4).drop (nxL ((b.drop off).drop 4)) := by
    rw [en, List.drop_drop, List.drop_drop]
    try (congr 1; omega)
  unfold itemAt
  rw [er, ed, e3, en, e4]
  generalize b.drop off = l at *
  match l, h4 with
  | a :: b' :: c :: t :: r, _ =>
    rw [its_cons]
    simp only [List.drop_succ_cons, List.drop_zero]
    have e5 : (r.take (nxL r)).take (bl (r.take (nxL r))) = r.take (bl (r.take (nxL r))) := by
      rw [List.take_take, Nat.min_eq_left]
      have := bl_le (r.take (nxL r))
      simp at this
      omega
    rw [e5]
    rfl
theorem hits_some (i : Item) (r : List Item) (p : List Nat) (h : un i.body = some p) : hits (i :: r) = ⟨i.t, p, i.f, i.o, i.x⟩ :: hits r := by
  unfold hits
  rw [List.filterMap_cons_some (b := ⟨i.t, p, i.f, i.o, i.x⟩)]
  unfold hitOf
  rw [h]
  rfl
theorem hits_none (i : Item) (r : List Item) (h : un i.body = none) : hits (i :: r) = hits r := by
  unfold hits
  rw [List.filterMap_cons_none]
  unfold hitOf
  rw [h]
  rfl
theorem defs_some (i : Item) (r : List Item) (p : List Nat) (h : un i.body = some p) : defs (i :: r) = defs r := by
  unfold defs
  rw [List.filterMap_cons_none]
  unfold defOf
  rw [h]
  rfl
theorem defs_none (i : Item) (r : List Item) (h : un i.body = none) : defs (i :: r) = (i.f, i.o) :: defs r := by
  unfold defs
  rw [List.filterMap_cons_some (b := (i.f, i.o))]
  unfold defOf
  rw [h]
  rfl
end SM

theorem own_cel {w : World} {base : Nat} {e : TypeId} {size n i : Nat} {v : Value} {xs : List Value} (h : w.ownsRow base e size v n xs) (hv : v.ownBlock = some i) : ∃ cs, Cel w i e cs := by
  rcases h.2 with ⟨rfl, _⟩ | ⟨g, cap, cur, rfl, hb, hg, _⟩
  · simp [Value.ownBlock] at hv
  · simp [Value.ownBlock] at hv
    subst hv
    exact ⟨cur, hg⟩
theorem rows_apart {w : World} {base base' : Nat} {e e' : TypeId} {size size' n n' : Nat} {v v' : Value} {xs xs' : List Value} (h : w.ownsRow base e size v n xs) (h' : w.ownsRow base' e' size' v' n' xs') (hne : e' ≠ e) : ∀ i, v.ownBlock = some i → v'.ownBlock ≠ some i := by
  intro i hv hv'
  obtain ⟨cs, hc⟩ := own_cel h hv
  exact own_row_apart h' hv' hne cs hc

theorem cel_made2 (w : World) (o : Obj) (t : TypeId) (cs : Array Value) : Cel ((w.alloc o).alloc (.cells cs t)) (w.heap.size + 1) t cs := by
  have := Cel.made (w.alloc o) t cs
  rwa [World.size_alloc] at this

/-- the answer of Split -/
def SplitAns (w w' : World) (e : Ending) (TF TD : TypeId) (us : List SM.Hit) (ds : List (Nat × Nat)) : Prop :=
  ∃ vu vd, e = .returned (.tuple #[vu, vd]) ∧ FRow w' w.heap.size TF vu us ∧ DRow w' w.heap.size TD vd ds ∧ Touch w w' (fun _ => False)

theorem reg_zero (b : List Nat) (n : Nat) : reg b 0 n = b.take n := by simp [reg]
theorem reg_le (b : List Nat) (i : Nat) (hi : i ≤ b.length) : SM.bl (reg b i (SM.nx b i)) ≤ SM.nx b i - i := by
  have h1 := SM.bl_le (reg b i (SM.nx b i))
  have h2 := SM.nx_le b i hi
  have h3 : (reg b i (SM.nx b i)).length = SM.nx b i - i := by simp [reg]; omega
  omega

set_option maxHeartbeats 1600000 in
theorem split_c (w : World) (v : Value) (b : List Nat) (h : Sl w v b) (hb : b.length ≤ 1000000) (hby : ∀ x ∈ b, x < 256) :
    Calls Tryd.prog 7 #[v] w fun e w' => SplitAns w w' e 35 38 (SM.units b) (SM.bads b) := by
  obtain ⟨A, c, rfl⟩ := h.len
  have H := Lib.hid h
  have Hby := Lib.hid hby
  have hn0 := SM.nx_le b 0 (Nat.zero_le _)
  have hn0' : SM.nx b 0 = SM.nxL b := by simp [SM.nx]
  have hnext := next_c w _ b 0 h (Nat.zero_le _) (by omega)
  have hend := endb_c w _ b 0 (SM.nx b 0) h (Nat.zero_le _) hn0.2 (by omega)
  have hu : SM.units b = SM.hits (SM.its (b.drop (SM.nx b 0)) (SM.nx b 0)) := by rw [hn0']; rfl
  have hd : SM.bads b = (if 0 < SM.bl (reg b 0 (SM.nx b 0)) then [(0, SM.nx b 0)] else []) ++ SM.defs (SM.its (b.drop (SM.nx b 0)) (SM.nx b 0)) := by rw [reg_zero, hn0']; rfl
  have hdrop : b.drop (SM.nx b 0) = [] ∨ SM.codeH (b.drop (SM.nx b 0)) = true := by rw [hn0']; exact SM.nxL_drop b
  rw [Nat.zero_add] at hend
  have Hnext := Lib.hid hnext
  have Hend := Lib.hid hend
  have Hu := Lib.hid hu
  have Hd := Lib.hid hd
  have Hdrop := Lib.hid hdrop
  have hle := hn0.2
  generalize hN : SM.nx b 0 = N at *
  generalize hL : SM.bl (reg b 0 N) = L at *
  clear h hby hnext hend hu hd hdrop hn0 hn0' hN hL
  go_enter Tryd.func7, Tryd.ntmps7
  go_wp2_with fail
  refine Hnext.out.mono ?_
  rintro e w1 ⟨rfl, rfl⟩
  go_wp2_with fail
  refine Hend.out.mono ?_
  rintro e w1 ⟨rfl, rfl⟩
  by_cases hL : 0 < L
  · have hD := Hd.out
    rw [if_pos hL] at hD
    have HD := Lib.hid hD
    clear hD
    have cx := Cel.made w 38 #[.int .i64 0, .int .i64 (N : Int)]
    go_wp2_with (at_builtin; refine wpl_row (by rfl) _ _ 24 38 (by rfl) w.heap.size 2 16 _ Tryd.infoDefect Tryd.underlying24 (by rfl) (by decide) (by decide) _ 0 [] (by rfl) (World.ownsRow_nil _ _ _ _) w.heap.size [.int .i64 ((0 : Nat) : Int), .int .i64 (N : Int)] (by rfl) (news_of cx) (by rfl) ?a1 (by omega) ?a2 ?_)
    case a1 => intro u hu; simp at hu; rcases hu with rfl | rfl <;> rfl
    case a2 => first | omega | (simp; done)
    intro vd wx ho ht
    have Dx : DRow wx w.heap.size 38 vd [(0, N)] := DRow.snoc (ds := []) ho
    have Tx : Touch w wx (fun _ => False) := ((Touch.refl w _).alloc _).trans ht (fun i hi => .inr hi.1)
    have hlD : [(0, N)].length ≤ 1 := by simp
    clear ho ht cx hL
    generalize [(0, N)] = D0 at *
    go_wp2_with fail
    go_loopw [4, 5, 6] (fun vu vd q wr => ∃ (off : Nat) (U0 : List SM.Hit) (D0 : List (Nat × Nat)), q = .int .i64 (off : Int) ∧ off ≤ b.length ∧ SM.units b = U0 ++ SM.hits (SM.its (b.drop off) off) ∧ SM.bads b = D0 ++ SM.defs (SM.its (b.drop off) off) ∧ (b.drop off = [] ∨ SM.codeH (b.drop off) = true) ∧ U0.length ≤ off ∧ D0.length ≤ off + 1 ∧ FRow wr w.heap.size 35 vu U0 ∧ DRow wr w.heap.size 38 vd D0 ∧ Touch w wr (fun _ => False)) (fun _ _ q _ => b.length - (intOf q).toNat)
    case atStart => exact ⟨N, [], _, rfl, hle, by rw [Hu.out, List.nil_append], HD.out, Hdrop.out, by simp, by omega, FRow.nil _ _ _, Dx, Tx⟩
    case round =>
      clear Dx Tx hlD HD
      obtain ⟨off, U0, D0, rfl, hoff, hU, hD, hcode, hlU, hlD, hF, hDR, hT⟩ := hrel
      have HF := Lib.hid hF; have HDR := Lib.hid hDR; have HT := Lib.hid hT
      have HU := Lib.hid hU; have HDD := Lib.hid hD
      clear hF hDR hU hD
      by_cases hlt : off < b.length
      · have hch : SM.codeH (b.drop off) = true := by
          rcases hcode with h0 | h0
          · have := congrArg List.length h0; simp at this; omega
          · exact h0
        have h4 := SM.codeH_long _ hch
        rw [List.length_drop] at h4
        have hstep := SM.its_step b off hch
        have hsl := H.out.to hT (fun _ _ _ h => h)
        have hsS : off + 4 ≤ b.length := by omega
        have hnb := SM.nx_le b (off + 4) hsS
        have hrl := reg_le b (off + 4) hsS
        have hnext := next_c wr _ b (off + 4) hsl hsS (by omega)
        have hend := endb_c wr _ b (off + 4) (SM.nx b (off + 4)) hsl hnb.1 hnb.2 (by omega)
        have hnd : b.drop (SM.nx b (off + 4)) = [] ∨ SM.codeH (b.drop (SM.nx b (off + 4))) = true := by
          have := SM.nxL_drop (b.drop (off + 4))
          rw [List.drop_drop] at this
          exact this
        have hit : SM.itemAt b off = ⟨(b.getD (off + 3) 0 : Nat), (b.drop (off + 4)).take (SM.bl (reg b (off + 4) (SM.nx b (off + 4)))), off, off + 4 + SM.bl (reg b (off + 4) (SM.nx b (off + 4))), SM.nx b (off + 4)⟩ := rfl
        obtain ⟨g, o, cap, hv, hcap, hg, hcell⟩ := hsl.some_ (by omega)
        injection hv with hv _ hc2
        subst hv hc2
        have d3 := hcell (off + 3) (by omega)
        generalize SM.nx b (off + 4) = nx at *
        generalize SM.bl (reg b (off + 4) nx) = L2 at *
        have hty : b.getD (off + 3) 0 < 256 := by
          simp only [List.getD, List.getElem?_eq_getElem (show off + 3 < b.length by omega), Option.getD_some]
          exact Hby.out _ (List.getElem_mem _)
        generalize b.getD (off + 3) 0 = ty at *
        have hwr : wrap64 (ty : Int) = (ty : Int) := by unfold wrap64; omega
        have Hwr := Lib.hid hwr
        clear hwr
        have hpart := hsl.part (off + 4) L2 L2 (by omega) (Nat.le_refl _)
        have hbl : ((b.drop (off + 4)).take L2).length = L2 := by simp; omega
        generalize hB : (b.drop (off + 4)).take L2 = body at *
        have huns := fun (v : Value) (hv : Sl wr v body) => uns_c wr v body hv (by omega)
        have empty : ∀ a, L2 = 0 → Sl wr (.slice (some a) 0 0) body := fun a h => .inr (.inl ⟨a, 0, rfl, List.eq_nil_of_length_eq_zero (by omega)⟩)
        have finN : SM.un body = none → SM.units b = U0 ++ SM.hits (SM.its (b.drop nx) nx) ∧ SM.bads b = (D0 ++ [(off, off + 4 + L2)]) ++ SM.defs (SM.its (b.drop nx) nx) := by
          intro hun
          rw [HU.out, HDD.out, hstep, hit, SM.hits_none _ _ hun, SM.defs_none _ _ hun]
          simp
        have finS : ∀ p, SM.un body = some p → SM.units b = (U0 ++ [⟨(ty : Nat), p, off, off + 4 + L2, nx⟩]) ++ SM.hits (SM.its (b.drop nx) nx) ∧ SM.bads b = D0 ++ SM.defs (SM.its (b.drop nx) nx) := by
          intro p hun
          rw [HU.out, HDD.out, hstep, hit, SM.hits_some _ _ p hun, SM.defs_some _ _ p hun]
          simp
        have FinN := Lib.hid finN; have FinS := Lib.hid finS
        have Huns := Lib.hid huns; have Hpart := Lib.hid hpart; have Hempty := Lib.hid empty
        have Hnext := Lib.hid hnext; have Hend := Lib.hid hend; have Hstep := Lib.hid hstep; have Hit := Lib.hid hit; have Hnd := Lib.hid hnd
        have Hbl := Lib.hid hbl; have HB := Lib.hid hB
        clear finN finS huns hpart empty hnext hend hstep hit hnd hcode hch hsl hcell hT hbl hB
        go_wp2_with fail
        refine Hnext.out.mono ?_
        rintro e w1 ⟨rfl, rfl⟩
        go_wp2_with fail
        refine Hend.out.mono ?_
        rintro e w1 ⟨rfl, rfl⟩
        go_wp2_with fail
        all_goals
          refine (Huns.out _ (by first | exact Hpart.out | exact Hempty.out _ (by first | assumption | rfl | omega))).mono ?_
          rintro e w2 ⟨vp, rfl, hop, htp⟩
          have d3' : w2.cell? ⟨g, o + (off + 3), none⟩ = some (.int .u8 (ty : Int)) := (htp.cell (p := ⟨g, o + (off + 3), none⟩) hg (fun h => h)).trans d3
          have hs2 := htp.size
          have hsT := HT.out.size
          have Hop := Lib.hid hop; have Htp := Lib.hid htp
          clear hop htp d3
          cases hun : SM.un body with
          | none =>
            have e0 : SM.unE body = 3 := by unfold SM.unE; rw [hun]; rfl
            rw [e0]
            have Hf := Lib.hid (FinN.out hun)
            clear hun e0
            go_wp2_with (at_builtin; refine wpl_row (by rfl) _ _ 24 38 (by rfl) w.heap.size 2 16 _ Tryd.infoDefect Tryd.underlying24 (by rfl) (by decide) (by decide) _ D0.length (cells2 D0) (by rfl) (own_kept (own_kept HDR.out Htp.out (fun _ _ h => h)) ((Touch.refl _ (fun _ => False)).alloc _) (fun _ _ h => h)) w2.heap.size _ (by rfl) (news_of (Cel.made _ _ _)) (by rfl) ?a1 ?a2 ?a3 ?_)
            case a1 => intro u hu; simp at hu; rcases hu with rfl | rfl <;> rfl
            case a2 => omega
            case a3 => first | omega | (simp; omega)
            intro vd' w3 ho ht
            have Hd3 : DRow w3 w.heap.size 38 vd' (D0 ++ [(off, off + 4 + L2)]) := DRow.snoc (by (first | exact ho | (rw [show (((off, off + 4 + L2) : Nat × Nat).2 : Int) = (off : Int) + 4 by (show ((off + 4 + L2 : Nat) : Int) = _; omega)]; exact ho) | (rw [show (((off, off + 4 + L2) : Nat × Nat).2 : Int) = (off : Int) + 4 + (L2 : Int) by (show ((off + 4 + L2 : Nat) : Int) = _; omega)]; exact ho)))
            have T3 : Touch wr w3 (fun k => w.heap.size ≤ k ∧ u5.ownBlock = some k) := (((Htp.out.wide (fun i hi => hi.elim)).alloc _).trans ht (fun i hi => .inl hi))
            have Hfr := Lib.hid (HF.out.to T3 (fun i hi hS => by obtain ⟨qs, eqs, hoF, hpF⟩ := HF.out; exact rows_apart hoF HDR.out (by decide) i hi hS.2) (fun i cs hc hS => own_row_apart HDR.out hS.2 (by decide) cs hc) (fun i hi hS => by omega))
            have Hd3 := Lib.hid Hd3
            have Ht3 := Lib.hid (HT.out.trans T3 (fun i hi => .inr hi.1))
            clear ho ht T3
            go_wp2_with fail
            go_roundw
            case rel => exact ⟨nx, U0, D0 ++ [(off, off + 4 + L2)], rfl, by omega, Hf.out.1, Hf.out.2, Hnd.out, by omega, by simp; omega, Hfr.out, Hd3.out, Ht3.out⟩
            case measure => simp [intOf]; omega
          | some p =>
            have e0 : SM.unE body = 0 := by unfold SM.unE; rw [hun]; rfl
            have e1 : SM.unR body = p := by unfold SM.unR; rw [hun]; rfl
            have hop := Hop.out
            rw [e1] at hop
            have Hop := Lib.hid hop
            rw [e0]
            have Hf := Lib.hid (FinS.out p hun)
            have hpay := Pay.ow (base := w.heap.size) Hop.out
            obtain ⟨A3, c3, rfl⟩ := Hop.out.sl.len
            have Hpay := Lib.hid hpay
            have hex := HF.out
            obtain ⟨qs, eqs, hoF, hpF⟩ := hex
            have HoF := Lib.hid hoF
            have fr : ∀ (wz : World), Touch w2 wz (fun _ => False) → ∀ (v' : Value) (w3 : World) (tv y : Int), tv = (ty : Int) → y = ((off + 4 + L2 : Nat) : Int) →
                w3.ownsRow w.heap.size 35 5 v' (U0.length + 1) (cells5 qs ++ [.int .i64 tv, .slice A3 p.length c3, .int .i64 (off : Int), .int .i64 y, .int .i64 (nx : Int)]) →
                Touch wz w3 (fun k => w.heap.size ≤ k ∧ u4.ownBlock = some k) →
                FRow w3 w.heap.size 35 v' (U0 ++ [⟨(ty : Nat), p, off, off + 4 + L2, nx⟩]) ∧ DRow w3 w.heap.size 38 u5 D0 ∧ Touch w w3 (fun _ => False) := by
              intro wz hz v' w3 tv y htv hy ho ht
              have hz2 : Touch wr wz (fun _ => False) := Htp.out.trans hz (fun i hi => .inl hi)
              have hoz := own_kept HoF.out hz2 (fun _ _ h => h)
              have hpz : ∀ q ∈ qs, Pay wz w.heap.size q.2 q.1.p := fun q hq => (hpF q hq).to hz2 (fun _ _ _ h => h) (fun _ _ h => h)
              have hup := Hpay.out.to hz (fun _ _ _ h => h) (fun _ _ h => h)
              subst hy htv
              refine ⟨FRow.snoc (h := ⟨(ty : Nat), p, off, off + 4 + L2, nx⟩) (by decide) eqs hoz hpz hup ho ht, ?_, ?_⟩
              · have hdz : DRow wz w.heap.size 38 u5 D0 := HDR.out.to hz2 (fun _ _ h => h)
                exact hdz.to ht (fun i hi hS => rows_apart hdz hoz (by decide) i hi hS.2)
              · exact (HT.out.trans hz2 (fun i hi => .inl hi)).trans ht (fun i hi => .inr hi.1)
            have Fr := Lib.hid fr
            clear hun e0 e1 hop hpay hoF hpF eqs fr
            go_wp2_with (at_builtin; refine wpl_row (by rfl) _ _ 23 35 (by rfl) w.heap.size 5 56 _ Tryd.infoFound Tryd.underlying23 (by rfl) (by decide) (by decide) _ U0.length (cells5 qs) (by rfl) (own_kept (own_kept HoF.out Htp.out (fun _ _ h => h)) (((Touch.refl _ (fun _ => False)).alloc _).alloc _) (fun _ _ h => h)) _ _ (by rfl) (news_of (cel_made2 _ _ _ _)) (by rfl) ?a1 ?a2 ?a3 ?_)
            case a1 => intro u hu; simp at hu; rcases hu with rfl | rfl | rfl | rfl | rfl <;> rfl
            case a2 => omega
            case a3 => first | omega | (simp; omega)
            intro vu' w3 ho ht
            have hfr := Fr.out _ (((Touch.refl _ (fun _ => False)).alloc _).alloc _) vu' w3 _ _ rfl (by first | rfl | omega) ho ht
            have Hfr := Lib.hid hfr
            clear ho ht hfr
            go_wp2_with fail
            go_roundw
            case rel => exact ⟨nx, U0 ++ [⟨(ty : Nat), p, off, off + 4 + L2, nx⟩], D0, rfl, by omega, Hf.out.1, Hf.out.2, Hnd.out, by simp; omega, by omega, Hfr.out.1, Hfr.out.2.1, Hfr.out.2.2⟩
            case measure => simp [intOf]; omega

      · obtain rfl : off = b.length := by omega
        have hu := HU.out; have hd := HDD.out
        rw [List.drop_length, SM.its_nil] at hu hd
        have hu2 : SM.units b = U0 := by rw [hu]; simp [SM.hits]
        have hd2 : SM.bads b = D0 := by rw [hd]; simp [SM.defs]
        have Hu2 := Lib.hid hu2; have Hd2 := Lib.hid hd2
        clear hu hd hu2 hd2 hcode
        go_wp2_with fail
        go_ret2
        rw [Hu2.out, Hd2.out]
        exact ⟨_, _, rfl, HF.out, HDR.out, HT.out⟩
  · have hD := Hd.out
    rw [if_neg hL] at hD
    have HD := Lib.hid hD
    have Dx : DRow w w.heap.size 38 (.slice none 0 0) [] := World.ownsRow_nil _ _ _ _
    have Tx : Touch w w (fun _ => False) := Touch.refl _ _
    have hlD : ([] : List (Nat × Nat)).length ≤ 1 := by simp
    obtain rfl : L = 0 := by omega
    clear hD hL
    go_wp2_with fail
    go_loopw [4, 5, 6] (fun vu vd q wr => ∃ (off : Nat) (U0 : List SM.Hit) (D0 : List (Nat × Nat)), q = .int .i64 (off : Int) ∧ off ≤ b.length ∧ SM.units b = U0 ++ SM.hits (SM.its (b.drop off) off) ∧ SM.bads b = D0 ++ SM.defs (SM.its (b.drop off) off) ∧ (b.drop off = [] ∨ SM.codeH (b.drop off) = true) ∧ U0.length ≤ off ∧ D0.length ≤ off + 1 ∧ FRow wr w.heap.size 35 vu U0 ∧ DRow wr w.heap.size 38 vd D0 ∧ Touch w wr (fun _ => False)) (fun _ _ q _ => b.length - (intOf q).toNat)
    case atStart => exact ⟨N, [], _, rfl, hle, by rw [Hu.out, List.nil_append], HD.out, Hdrop.out, by simp, by omega, FRow.nil _ _ _, Dx, Tx⟩
    case round =>
      clear Dx Tx hlD HD
      obtain ⟨off, U0, D0, rfl, hoff, hU, hD, hcode, hlU, hlD, hF, hDR, hT⟩ := hrel
      have HF := Lib.hid hF; have HDR := Lib.hid hDR; have HT := Lib.hid hT
      have HU := Lib.hid hU; have HDD := Lib.hid hD
      clear hF hDR hU hD
      by_cases hlt : off < b.length
      · have hch : SM.codeH (b.drop off) = true := by
          rcases hcode with h0 | h0
          · have := congrArg List.length h0; simp at this; omega
          · exact h0
        have h4 := SM.codeH_long _ hch
        rw [List.length_drop] at h4
        have hstep := SM.its_step b off hch
        have hsl := H.out.to hT (fun _ _ _ h => h)
        have hsS : off + 4 ≤ b.length := by omega
        have hnb := SM.nx_le b (off + 4) hsS
        have hrl := reg_le b (off + 4) hsS
        have hnext := next_c wr _ b (off + 4) hsl hsS (by omega)
        have hend := endb_c wr _ b (off + 4) (SM.nx b (off + 4)) hsl hnb.1 hnb.2 (by omega)
        have hnd : b.drop (SM.nx b (off + 4)) = [] ∨ SM.codeH (b.drop (SM.nx b (off + 4))) = true := by
          have := SM.nxL_drop (b.drop (off + 4))
          rw [List.drop_drop] at this
          exact this
        have hit : SM.itemAt b off = ⟨(b.getD (off + 3) 0 : Nat), (b.drop (off + 4)).take (SM.bl (reg b (off + 4) (SM.nx b (off + 4)))), off, off + 4 + SM.bl (reg b (off + 4) (SM.nx b (off + 4))), SM.nx b (off + 4)⟩ := rfl
        obtain ⟨g, o, cap, hv, hcap, hg, hcell⟩ := hsl.some_ (by omega)
        injection hv with hv _ hc2
        subst hv hc2
        have d3 := hcell (off + 3) (by omega)
        generalize SM.nx b (off + 4) = nx at *
        generalize SM.bl (reg b (off + 4) nx) = L2 at *
        have hty : b.getD (off + 3) 0 < 256 := by
          simp only [List.getD, List.getElem?_eq_getElem (show off + 3 < b.length by omega), Option.getD_some]
          exact Hby.out _ (List.getElem_mem _)
        generalize b.getD (off + 3) 0 = ty at *
        have hwr : wrap64 (ty : Int) = (ty : Int) := by unfold wrap64; omega
        have Hwr := Lib.hid hwr
        clear hwr
        have hpart := hsl.part (off + 4) L2 L2 (by omega) (Nat.le_refl _)
        have hbl : ((b.drop (off + 4)).take L2).length = L2 := by simp; omega
        generalize hB : (b.drop (off + 4)).take L2 = body at *
        have huns := fun (v : Value) (hv : Sl wr v body) => uns_c wr v body hv (by omega)
        have empty : ∀ a, L2 = 0 → Sl wr (.slice (some a) 0 0) body := fun a h => .inr (.inl ⟨a, 0, rfl, List.eq_nil_of_length_eq_zero (by omega)⟩)
        have finN : SM.un body = none → SM.units b = U0 ++ SM.hits (SM.its (b.drop nx) nx) ∧ SM.bads b = (D0 ++ [(off, off + 4 + L2)]) ++ SM.defs (SM.its (b.drop nx) nx) := by
          intro hun
          rw [HU.out, HDD.out, hstep, hit, SM.hits_none _ _ hun, SM.defs_none _ _ hun]
          simp
        have finS : ∀ p, SM.un body = some p → SM.units b = (U0 ++ [⟨(ty : Nat), p, off, off + 4 + L2, nx⟩]) ++ SM.hits (SM.its (b.drop nx) nx) ∧ SM.bads b = D0 ++ SM.defs (SM.its (b.drop nx) nx) := by
          intro p hun
          rw [HU.out, HDD.out, hstep, hit, SM.hits_some _ _ p hun, SM.defs_some _ _ p hun]
          simp
        have FinN := Lib.hid finN; have FinS := Lib.hid finS
        have Huns := Lib.hid huns; have Hpart := Lib.hid hpart; have Hempty := Lib.hid empty
        have Hnext := Lib.hid hnext; have Hend := Lib.hid hend; have Hstep := Lib.hid hstep; have Hit := Lib.hid hit; have Hnd := Lib.hid hnd
        have Hbl := Lib.hid hbl; have HB := Lib.hid hB
        clear finN finS huns hpart empty hnext hend hstep hit hnd hcode hch hsl hcell hT hbl hB
        go_wp2_with fail
        refine Hnext.out.mono ?_
        rintro e w1 ⟨rfl, rfl⟩
        go_wp2_with fail
        refine Hend.out.mono ?_
        rintro e w1 ⟨rfl, rfl⟩
        go_wp2_with fail
        all_goals
          refine (Huns.out _ (by first | exact Hpart.out | exact Hempty.out _ (by first | assumption | rfl | omega))).mono ?_
          rintro e w2 ⟨vp, rfl, hop, htp⟩
          have d3' : w2.cell? ⟨g, o + (off + 3), none⟩ = some (.int .u8 (ty : Int)) := (htp.cell (p := ⟨g, o + (off + 3), none⟩) hg (fun h => h)).trans d3
          have hs2 := htp.size
          have hsT := HT.out.size
          have Hop := Lib.hid hop; have Htp := Lib.hid htp
          clear hop htp d3
          cases hun : SM.un body with
          | none =>
            have e0 : SM.unE body = 3 := by unfold SM.unE; rw [hun]; rfl
            rw [e0]
            have Hf := Lib.hid (FinN.out hun)
            clear hun e0
            go_wp2_with (at_builtin; refine wpl_row (by rfl) _ _ 24 38 (by rfl) w.heap.size 2 16 _ Tryd.infoDefect Tryd.underlying24 (by rfl) (by decide) (by decide) _ D0.length (cells2 D0) (by rfl) (own_kept (own_kept HDR.out Htp.out (fun _ _ h => h)) ((Touch.refl _ (fun _ => False)).alloc _) (fun _ _ h => h)) w2.heap.size _ (by rfl) (news_of (Cel.made _ _ _)) (by rfl) ?a1 ?a2 ?a3 ?_)
            case a1 => intro u hu; simp at hu; rcases hu with rfl | rfl <;> rfl
            case a2 => omega
            case a3 => first | omega | (simp; omega)
            intro vd' w3 ho ht
            have Hd3 : DRow w3 w.heap.size 38 vd' (D0 ++ [(off, off + 4 + L2)]) := DRow.snoc (by (first | exact ho | (rw [show (((off, off + 4 + L2) : Nat × Nat).2 : Int) = (off : Int) + 4 by (show ((off + 4 + L2 : Nat) : Int) = _; omega)]; exact ho) | (rw [show (((off, off + 4 + L2) : Nat × Nat).2 : Int) = (off : Int) + 4 + (L2 : Int) by (show ((off + 4 + L2 : Nat) : Int) = _; omega)]; exact ho)))
            have T3 : Touch wr w3 (fun k => w.heap.size ≤ k ∧ u5.ownBlock = some k) := (((Htp.out.wide (fun i hi => hi.elim)).alloc _).trans ht (fun i hi => .inl hi))
            have Hfr := Lib.hid (HF.out.to T3 (fun i hi hS => by obtain ⟨qs, eqs, hoF, hpF⟩ := HF.out; exact rows_apart hoF HDR.out (by decide) i hi hS.2) (fun i cs hc hS => own_row_apart HDR.out hS.2 (by decide) cs hc) (fun i hi hS => by omega))
            have Hd3 := Lib.hid Hd3
            have Ht3 := Lib.hid (HT.out.trans T3 (fun i hi => .inr hi.1))
            clear ho ht T3
            go_wp2_with fail
            go_roundw
            case rel => exact ⟨nx, U0, D0 ++ [(off, off + 4 + L2)], rfl, by omega, Hf.out.1, Hf.out.2, Hnd.out, by omega, by simp; omega, Hfr.out, Hd3.out, Ht3.out⟩
            case measure => simp [intOf]; omega
          | some p =>
            have e0 : SM.unE body = 0 := by unfold SM.unE; rw [hun]; rfl
            have e1 : SM.unR body = p := by unfold SM.unR; rw [hun]; rfl
            have hop := Hop.out
            rw [e1] at hop
            have Hop := Lib.hid hop
            rw [e0]
            have Hf := Lib.hid (FinS.out p hun)
            have hpay := Pay.ow (base := w.heap.size) Hop.out
            obtain ⟨A3, c3, rfl⟩ := Hop.out.sl.len
            have Hpay := Lib.hid hpay
            have hex := HF.out
            obtain ⟨qs, eqs, hoF, hpF⟩ := hex
            have HoF := Lib.hid hoF
            have fr : ∀ (wz : World), Touch w2 wz (fun _ => False) → ∀ (v' : Value) (w3 : World) (tv y : Int), tv = (ty : Int) → y = ((off + 4 + L2 : Nat) : Int) →
                w3.ownsRow w.heap.size 35 5 v' (U0.length + 1) (cells5 qs ++ [.int .i64 tv, .slice A3 p.length c3, .int .i64 (off : Int), .int .i64 y, .int .i64 (nx : Int)]) →
                Touch wz w3 (fun k => w.heap.size ≤ k ∧ u4.ownBlock = some k) →
                FRow w3 w.heap.size 35 v' (U0 ++ [⟨(ty : Nat), p, off, off + 4 + L2, nx⟩]) ∧ DRow w3 w.heap.size 38 u5 D0 ∧ Touch w w3 (fun _ => False) := by
              intro wz hz v' w3 tv y htv hy ho ht
              have hz2 : Touch wr wz (fun _ => False) := Htp.out.trans hz (fun i hi => .inl hi)
              have hoz := own_kept HoF.out hz2 (fun _ _ h => h)
              have hpz : ∀ q ∈ qs, Pay wz w.heap.size q.2 q.1.p := fun q hq => (hpF q hq).to hz2 (fun _ _ _ h => h) (fun _ _ h => h)
              have hup := Hpay.out.to hz (fun _ _ _ h => h) (fun _ _ h => h)
              subst hy htv
              refine ⟨FRow.snoc (h := ⟨(ty : Nat), p, off, off + 4 + L2, nx⟩) (by decide) eqs hoz hpz hup ho ht, ?_, ?_⟩
              · have hdz : DRow wz w.heap.size 38 u5 D0 := HDR.out.to hz2 (fun _ _ h => h)
                exact hdz.to ht (fun i hi hS => rows_apart hdz hoz (by decide) i hi hS.2)
              · exact (HT.out.trans hz2 (fun i hi => .inl hi)).trans ht (fun i hi => .inr hi.1)
            have Fr := Lib.hid fr
            clear hun e0 e1 hop hpay hoF hpF eqs fr
            go_wp2_with (at_builtin; refine wpl_row (by rfl) _ _ 23 35 (by rfl) w.heap.size 5 56 _ Tryd.infoFound Tryd.underlying23 (by rfl) (by decide) (by decide) _ U0.length (cells5 qs) (by rfl) (own_kept (own_kept HoF.out Htp.out (fun _ _ h => h)) (((Touch.refl _ (fun _ => False)).alloc _).alloc _) (fun _ _ h => h)) _ _ (by rfl) (news_of (cel_made2 _ _ _ _)) (by rfl) ?a1 ?a2 ?a3 ?_)
            case a1 => intro u hu; simp at hu; rcases hu with rfl | rfl | rfl | rfl | rfl <;> rfl
            case a2 => omega
            case a3 => first | omega | (simp; omega)
            intro vu' w3 ho ht
            have hfr := Fr.out _ (((Touch.refl _ (fun _ => False)).alloc _).alloc _) vu' w3 _ _ rfl (by first | rfl | omega) ho ht
            have Hfr := Lib.hid hfr
            clear ho ht hfr
            go_wp2_with fail
            go_roundw
            case rel => exact ⟨nx, U0 ++ [⟨(ty : Nat), p, off, off + 4 + L2, nx⟩], D0, rfl, by omega, Hf.out.1, Hf.out.2, Hnd.out, by simp; omega, by omega, Hfr.out.1, Hfr.out.2.1, Hfr.out.2.2⟩
            case measure => simp [intOf]; omega

      · obtain rfl : off = b.length := by omega
        have hu := HU.out; have hd := HDD.out
        rw [List.drop_length, SM.its_nil] at hu hd
        have hu2 : SM.units b = U0 := by rw [hu]; simp [SM.hits]
        have hd2 : SM.bads b = D0 := by rw [hd]; simp [SM.defs]
        have Hu2 := Lib.hid hu2; have Hd2 := Lib.hid hd2
        clear hu hd hu2 hd2 hcode
        go_wp2_with fail
        go_ret2
        rw [Hu2.out, Hd2.out]
        exact ⟨_, _, rfl, HF.out, HDR.out, HT.out⟩
end Go.Proofs.YtpkjogjdacogeaaDoor
