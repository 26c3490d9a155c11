/- The reference's encoder: a sign. -/
import Derived.Test.YtdgkeghgfibolaaDoorMqRo
import Derived.Test.YtdgkeghgfibolaaDoorStAll
import Derived.Test.YtdgkeghgfibolaaDoorAnyRk
import Derived.Test.YtdgkeghgfibolaaDoorMqW
set_option linter.unusedVariables false
set_option linter.unusedSimpArgs false
namespace Go.Proofs.YtdgkeghgfibolaaDoor
open Go.RowKit
theorem rput_any {P : Nat → Prop} {w : World} {p : Nat} {e : E} (h : RW P w p e) (hc : e.c < 268435456) (hl : e.last ≤ 255) (hml : e.pre.length ≤ 90000) (hP : ∀ k, w.heap.size ≤ k → P k) :
    Calls Tryd.prog 37 #[.pointer (some ⟨p, 0, none⟩)] w fun x w' => x = .returned (.tuple #[]) ∧ RW P w' p (mPut e) ∧ Only P w w' := by
  obtain ⟨hp, V, hb, hv, hV⟩ := h
  obtain ⟨g, cap, rfl, _⟩ := own_form hv (by omega)
  exact rout_cut (a := e.a) (ct := e.ct) ⟨hb, hv, Only.refl _ _⟩ rfl hp (hV g rfl) hc hl hml hP
theorem RW.c0 {P : Nat → Prop} {w : World} {p : Nat} {e : E} (h : RW P w p e) : w.cell? ⟨p, 0, none⟩ = some (.int .i64 (e.a : Int)) := by obtain ⟨_, V, hb, _⟩ := h; exact hb.c0
theorem RW.c1 {P : Nat → Prop} {w : World} {p : Nat} {e : E} (h : RW P w p e) : w.cell? ⟨p, 1, none⟩ = some (.int .i64 (e.c : Int)) := by obtain ⟨_, V, hb, _⟩ := h; exact hb.c1
theorem RW.c2 {P : Nat → Prop} {w : World} {p : Nat} {e : E} (h : RW P w p e) : w.cell? ⟨p, 2, none⟩ = some (.int .i64 (e.ct : Int)) := by obtain ⟨_, V, hb, _⟩ := h; exact hb.c2
theorem RW.setT {P : Nat → Prop} {w : World} {p : Nat} {e : E} (h : RW P w p e) (x : Nat) : RW P (w.setCell ⟨p, 2, none⟩ (.int .i64 (x : Int))) p ⟨e.a, e.c, x, e.pre, e.last⟩ := by
  obtain ⟨hp, V, hb, hv, hV⟩ := h
  exact ⟨hp, V, hb.st x, ownsRow_setCell_other hv (a := ⟨p, 2, none⟩) (blk_not_row hb (by decide) hv) _, hV⟩
def rOf (p : Nat) (w : World) : Nat := match w.cell? ⟨p, 0, none⟩ with | some (.int _ v) => 65536 - v.toNat | _ => 0
theorem RW.rOf {P : Nat → Prop} {w : World} {p : Nat} {e : E} (h : RW P w p e) : rOf p w = 65536 - e.a := by
  unfold Proofs.YtdgkeghgfibolaaDoor.rOf
  rw [h.c0]
  simp
/-- The encoder, its contexts, the state that was looked up, each with blocks of its own. -/
structure Rs (P : Nat → Prop) (w0 w : World) (p q s : Nat) (e : E) (cx : List Nat) (Q mp lp : Nat) (sw : Bool) : Prop where
  rw_ : RW P w p e
  cb : Rc w q cx
  bx : w.heap[s]? = some (.cells #[.int .i64 (Q : Int), .int .i64 (mp : Int), .int .i64 (lp : Int), .bool sw] 54 (0, 0))
  pq : p ≠ q
  ps : p ≠ s
  qs : q ≠ s
  only : Only (EC P q) w0 w
  gq : ¬ P q
section
variable {P : Nat → Prop} {w0 w : World} {p q s : Nat} {e : E} {cx : List Nat} {Q mp lp : Nat} {sw : Bool}
theorem Rs.drew (h : Rs P w0 w p q s e cx Q mp lp sw) : Rs P w0 w.drew p q s e cx Q mp lp sw := ⟨h.rw_, h.cb, h.bx, h.pq, h.ps, h.qs, only_drewN h.only 1, h.gq⟩
theorem Rs.setA (h : Rs P w0 w p q s e cx Q mp lp sw) (x : Nat) : Rs P w0 (w.setCell ⟨p, 0, none⟩ (.int .i64 (x : Int))) p q s ⟨x, e.c, e.ct, e.pre, e.last⟩ cx Q mp lp sw :=
  ⟨h.rw_.setA x, h.cb.keep (Below.heap_setCell _ _ _ _ (Ne.symm h.pq)), (Below.heap_setCell _ _ _ _ (Ne.symm h.ps)).trans h.bx, h.pq, h.ps, h.qs, h.only.setCell (p := ⟨p, 0, none⟩) (.inl h.rw_.p) _, h.gq⟩
theorem Rs.setC (h : Rs P w0 w p q s e cx Q mp lp sw) (x : Nat) : Rs P w0 (w.setCell ⟨p, 1, none⟩ (.int .i64 (x : Int))) p q s ⟨e.a, x, e.ct, e.pre, e.last⟩ cx Q mp lp sw :=
  ⟨h.rw_.setC x, h.cb.keep (Below.heap_setCell _ _ _ _ (Ne.symm h.pq)), (Below.heap_setCell _ _ _ _ (Ne.symm h.ps)).trans h.bx, h.pq, h.ps, h.qs, h.only.setCell (p := ⟨p, 1, none⟩) (.inl h.rw_.p) _, h.gq⟩
theorem Rs.setX (h : Rs P w0 w p q s e cx Q mp lp sw) (j x : Nat) : Rs P w0 (w.setCell ⟨q, j, none⟩ (.int .i64 (x : Int))) p q s e (cx.set j x) Q mp lp sw := by
  obtain ⟨hp, V, hb, hv, hV⟩ := h.rw_
  refine ⟨⟨hp, V, hb.other (Ne.symm h.pq) _, ownsRow_setCell_other hv (a := ⟨q, j, none⟩) (fun e => h.gq (hV q e)) _, hV⟩, h.cb.set j x, (Below.heap_setCell _ _ _ _ (Ne.symm h.qs)).trans h.bx, h.pq, h.ps, h.qs, h.only.setCell (p := ⟨q, j, none⟩) (.inr rfl) _, h.gq⟩
theorem Rs.x (h : Rs P w0 w p q s e cx Q mp lp sw) : w.cell? ⟨s, 0, none⟩ = some (.int .i64 (Q : Int)) ∧ w.cell? ⟨s, 1, none⟩ = some (.int .i64 (mp : Int)) ∧ w.cell? ⟨s, 2, none⟩ = some (.int .i64 (lp : Int)) ∧ w.cell? ⟨s, 3, none⟩ = some (.bool sw) :=
  ⟨blk_cell h.bx 0, blk_cell h.bx 1, blk_cell h.bx 2, blk_cell h.bx 3⟩
end
set_option maxRecDepth 100000 in
theorem rencode_none {w : World} {p q : Nat} {k b : Int} (hk : k < 0 ∨ 19 ≤ k) : Calls Tryd.prog 20 #[.pointer (some ⟨p, 0, none⟩), .pointer (some ⟨q, 0, none⟩), .int .i64 k, .int .i64 b] w fun e w' => e = .returned (.tuple #[]) ∧ w = w' := by
  by_cases h0 : k < 0
  · clear hk
    go_enter Tryd.func20, Tryd.ntmps20
    go_wp2
    refine bodyPost_ret (v := .tuple #[]) (by simp [results, Tryd.results20, go_sem]) rfl ⟨rfl, rfl⟩
  · have h1 : 19 ≤ k := by omega
    clear hk
    go_enter Tryd.func20, Tryd.ntmps20
    go_wp2
    refine bodyPost_ret (v := .tuple #[]) (by simp [results, Tryd.results20, go_sem]) rfl ⟨rfl, rfl⟩
set_option maxRecDepth 100000 in
set_option maxHeartbeats 8000000 in
set_option pp.deepTerms true in
set_option pp.maxSteps 10000000 in
theorem rencode_any {P : Nat → Prop} {w : World} {p q k b : Nat} {bit : Int} {cx : List Nat} {e : E} (h : RW P w p e) (hc : Rc w q cx) (hq : ¬ P q) (ok : COk cx) (f : Fine e) (hk : k < 19) (hb : bit % 2 = (b : Int)) (hml : e.pre.length ≤ 70000) (hP : ∀ k, w.heap.size ≤ k → P k) :
    Calls Tryd.prog 20 #[.pointer (some ⟨p, 0, none⟩), .pointer (some ⟨q, 0, none⟩), .int .i64 (k : Int), .int .i64 bit] w fun x w' => x = .returned (.tuple #[]) ∧ RW P w' p (sE e cx k b) ∧ Rc w' q (sC e cx k b) ∧ Only (EC P q) w w' := by
  have hmp := ok.m k hk
  have hi := ok.i k hk
  have hband := and_bit bit
  rw [hb] at hband
  have hbl : b ≤ 1 := by omega
  obtain ⟨i, hi'⟩ : ∃ i, cx.getD (k * 2) 0 = i := ⟨_, rfl⟩
  obtain ⟨m, hm'⟩ : ∃ m, cx.getD (k * 2 + 1) 0 = m := ⟨_, rfl⟩
  rw [hi'] at hi
  rw [hm'] at hmp
  obtain ⟨q1, q2, _, _⟩ := qe_bd i hi
  obtain ⟨Q, hQ⟩ : ∃ Q, qe i = Q := ⟨_, rfl⟩
  rw [hQ] at q1 q2
  have AT := Lib.hid (fun u : World => ref_in (w := u) hi)
  have h1 : (0 : Int) ≤ (k : Int) := by omega
  have h2 : (k : Int) < 19 := by omega
  have a2 := f.a2
  have a3 := f.a3
  have cc := f.toInv.c28
  have hsE : sE e cx k b = if b = m then mSame e i else mOther e i := by unfold sE; rw [hi', hm']
  have hsC : sC e cx k b = if b = m then (if 32768 ≤ e.a - Q then cx else cx.set (k * 2) (mps i)) else mUn cx k (lps i) (swp i) := by unfold sC; rw [hi', hm', hQ]
  have hmUn : mUn cx k (lps i) (swp i) = (if swp i then cx.set (k * 2 + 1) (1 - m) else cx).set (k * 2) (lps i) := by unfold mUn; rw [hm']
  have HG := Lib.hid f.toGood
  obtain ⟨a, c, ct, pre, last⟩ := e
  simp only at a2 a3 cc hml hsE hsC
  obtain ⟨SC, hSC⟩ : ∃ SC, sC ⟨a, c, ct, pre, last⟩ cx k b = SC := ⟨_, rfl⟩
  obtain ⟨SE, hSE⟩ : ∃ SE, sE ⟨a, c, ct, pre, last⟩ cx k b = SE := ⟨_, rfl⟩
  rw [hSC] at hsC
  rw [hSE] at hsE
  rw [hSC, hSE]
  clear hSC hSE
  have HSE := Lib.hid hsE
  have HSC := Lib.hid hsC
  have hd := hc.cell (k * 2) (by omega)
  rw [hi'] at hd
  have HALL := Lib.hid (And.intro h (And.intro hc (And.intro hq hP)))
  have HML := Lib.hid hml
  have HI := Lib.hid (And.intro hi' hm')
  have HUN := Lib.hid hmUn
  have HQ := Lib.hid hQ
  clear h hc hq hP hi' hm' hQ hml hsE hsC hmUn ok f hb
  go_enter Tryd.func20, Tryd.ntmps20
  go_wp2_with fail
  refine (AT.out w).mono ?_
  rintro x w1 ⟨rfl, b1⟩
  rw [HQ.out]
  obtain ⟨mp, hmpp⟩ : ∃ mp, mps i = mp := ⟨_, rfl⟩
  obtain ⟨lp, hlp⟩ : ∃ lp, lps i = lp := ⟨_, rfl⟩
  obtain ⟨sw, hsw⟩ : ∃ sw, swp i = sw := ⟨_, rfl⟩
  rw [hmpp, hlp, hsw]
  have HMP := Lib.hid hmpp
  have HLP := Lib.hid hlp
  have HSW := Lib.hid hsw
  clear hmpp hlp hsw
  obtain ⟨s, hs⟩ : ∃ s, w1.heap.size = s := ⟨_, rfl⟩
  have HX : Hid (Rs P w (w1.alloc (Obj.cells #[.int .i64 (Q : Int), .int .i64 (mp : Int), .int .i64 (lp : Int), .bool sw] 54)) p q s ⟨a, c, ct, pre, last⟩ cx Q mp lp sw) := Lib.hid (by
    have b2 := (Below.refl _ w1).alloc (Nat.le_refl _) (Obj.cells #[.int .i64 (Q : Int), .int .i64 (mp : Int), .int .i64 (lp : Int), .bool sw] 54)
    have hr := (HALL.out.1.below b1)
    have hcq := (HALL.out.2.1.below b1)
    refine ⟨hr.below b2, hcq.below b2, by rw [← hs]; exact heap_alloc_new w1 _, fun e => HALL.out.2.2.1 (e ▸ HALL.out.1.p), by have := hr.lt; omega, by have := hcq.lt; omega, ?_, HALL.out.2.2.1⟩
    have hPn := HALL.out.2.2.2
    exact ((Only.of_below b1 hPn).trans (Only.of_below b2 (fun k hk => hPn k (Nat.le_trans b1.size hk)))).mono fun k hk => .inl hk)
  go_wp2_with fail
  obtain ⟨W3, hW3⟩ : ∃ W3, w1.alloc (Obj.cells #[.int .i64 (Q : Int), .int .i64 (mp : Int), .int .i64 (lp : Int), .bool sw] 54) = W3 := ⟨_, rfl⟩
  rw [hW3] at HX ⊢
  clear hW3
  have HW3 := HX
  clear HX b1 hd
  obtain ⟨x0, x1, x2, x3⟩ := HW3.out.x
  have p0 := HW3.out.rw_.c0
  have p1 := HW3.out.rw_.c1
  have z0 := HW3.out.rw_.z 0
  have z1 := HW3.out.rw_.z 1
  simp only at p0 p1
  refine wp_region_still_tail 10 (by kernel_rfl) (by kernel_rfl) ?_
  simp only [List.take_succ_cons, List.take_zero, List.drop_succ_cons, List.drop_zero]
  repeat still_step
  refine wpStill_nil ?_
  change wpList _ _ _ _ _ W3.drew
  obtain ⟨W4, hW4⟩ : ∃ W4, W3.drew = W4 := ⟨_, rfl⟩
  have HW4 := Lib.hid HW3.out.drew
  rw [hW4] at HW4 ⊢
  clear hW4 HW3
  clear x0 x1 x2 x3 p0 p1 z0 z1
  obtain ⟨x0, x1, x2, x3⟩ := HW4.out.x
  have p0 := HW4.out.rw_.c0
  have p1 := HW4.out.rw_.c1
  have z0 := HW4.out.rw_.z 0
  have z1 := HW4.out.rw_.z 1
  simp only at p0 p1
  have hsub : (a : Int) - (Q : Int) = ((a - Q : Nat) : Int) := by omega
  obtain ⟨A, hA⟩ : ∃ A, a - Q = A := ⟨_, rfl⟩
  rw [hA] at hsub
  have HA := Lib.hid hA
  have hsw : IntKind.i64.wrap ((a : Int) - (Q : Int)) = (A : Int) := by rw [hsub]; exact IntWalk.i64_in _ (by omega)
  have hAb : 1 ≤ A ∧ A < 65536 ∧ A + Q ≤ a := by omega
  clear hA
  obtain ⟨W5, hW5⟩ : ∃ W5, W4.setCell ⟨p, 0, none⟩ (.int .i64 (A : Int)) = W5 := ⟨_, rfl⟩
  have HW5 := Lib.hid (HW4.out.setA A)
  rw [hW5] at HW5
  go_upto_region 3 with fail
  try rw [hW5]
  clear hW5
  clear x0 x1 x2 x3 p0 p1 z0 z1
  clear HW4 hsub hsw
  simp only at HW5
  have d0 := HW5.out.cb.cell (k * 2) (by omega)
  have d1 := HW5.out.cb.cell (k * 2 + 1) (by omega)
  rw [HI.out.1] at d0
  rw [HI.out.2] at d1
  have y0 := HW5.out.cb.z (k * 2)
  have y1 := HW5.out.cb.z (k * 2 + 1)
  go_cut [40] from 32 to 40 (fun t wx => wx = W5 ∧ t = .bool (decide (b = m)))
  case first =>
    by_cases hbm : b = m
    · have em : ((b : Int) == (m : Int)) = true := by simp; omega
      have HBM := Lib.hid hbm
      clear hbm
      go_wp2
      go_meet
      exact ⟨rfl, by simp [HBM.out]⟩
    · have em : ((b : Int) == (m : Int)) = false := by simp; omega
      have HBM := Lib.hid hbm
      clear hbm
      go_wp2
      go_meet
      exact ⟨rfl, by simp [HBM.out]⟩
  case rest =>
   obtain ⟨hwc, rfl⟩ := hcut
   rw [hwc]
   clear hwc
   clear d0 d1 y0 y1
   obtain ⟨B, hB⟩ : ∃ B, decide (b = m) = B := ⟨_, rfl⟩
   rw [hB]
   have HBB := Lib.hid hB
   clear hB
   go_upto_if 40 with fail
   go_cut [] from 41 to 128 (fun wx => ∃ e2, Hid (Rs P w wx p q s e2 (SC) Q mp lp sw ∧ Good e2 ∧ e2.a < 32768 ∧ e2.pre.length ≤ 70000 ∧ mNorm 16 e2 = SE))
   case first =>
    cases B with
    | true =>
      have HBM : Hid (b = m) := Lib.hid (by simpa using HBB.out)
      by_cases hA3 : 32768 ≤ A
      · have e5 : (32768 : Int) ≤ (A : Int) := by omega
        obtain ⟨x0, x1, x2, x3⟩ := HW5.out.x
        have p0 := HW5.out.rw_.c0
        have p1 := HW5.out.rw_.c1
        have z0 := HW5.out.rw_.z 0
        have z1 := HW5.out.rw_.z 1
        simp only at p0 p1
        have d0 := HW5.out.cb.cell (k * 2) (by omega)
        have d1 := HW5.out.cb.cell (k * 2 + 1) (by omega)
        rw [HI.out.1] at d0
        rw [HI.out.2] at d1
        have y0 := HW5.out.cb.z (k * 2)
        have y1 := HW5.out.cb.z (k * 2 + 1)
        go_wp2_with fail
        refine wp_region_still_tail 10 (by kernel_rfl) (by kernel_rfl) ?_
        simp only [List.take_succ_cons, List.take_zero, List.drop_succ_cons, List.drop_zero]
        repeat still_step
        refine wpStill_nil ?_
        change wpList _ _ _ _ _ W5.drew
        obtain ⟨W6, hW6⟩ : ∃ W6, W5.drew = W6 := ⟨_, rfl⟩
        have HW6 := Lib.hid HW5.out.drew
        rw [hW6] at HW6 ⊢
        clear hW6 HW5
        clear d0 d1 y0 y1 x0 x1 x2 x3 p0 p1 z0 z1
        have hcs : (c : Int) + (Q : Int) = ((c + Q : Nat) : Int) := by omega
        obtain ⟨C, hC⟩ : ∃ C, c + Q = C := ⟨_, rfl⟩
        rw [hC] at hcs
        have HC := Lib.hid hC
        have hcw : IntKind.i64.wrap ((c : Int) + (Q : Int)) = (C : Int) := by rw [hcs]; exact IntWalk.i64_in _ (by omega)
        have hCb : C = c + Q := hC.symm
        have HCB := Lib.hid hCb
        have hC9 : C ≤ 300000000 := by omega
        clear hC hCb
        obtain ⟨x0, x1, x2, x3⟩ := HW6.out.x
        have p0 := HW6.out.rw_.c0
        have p1 := HW6.out.rw_.c1
        have z0 := HW6.out.rw_.z 0
        have z1 := HW6.out.rw_.z 1
        simp only at p0 p1
        have d0 := HW6.out.cb.cell (k * 2) (by omega)
        have d1 := HW6.out.cb.cell (k * 2 + 1) (by omega)
        rw [HI.out.1] at d0
        rw [HI.out.2] at d1
        have y0 := HW6.out.cb.z (k * 2)
        have y1 := HW6.out.cb.z (k * 2 + 1)
        obtain ⟨W7, hW7⟩ : ∃ W7, W6.setCell ⟨p, 1, none⟩ (.int .i64 (C : Int)) = W7 := ⟨_, rfl⟩
        have HW7 := Lib.hid (HW6.out.setC C)
        rw [hW7] at HW7
        go_wp2
        refine bodyPost_ret (v := .tuple #[]) (by simp [results, Tryd.results20, go_sem]) rfl ?_
        have hE : SE = ⟨A, C, ct, pre, last⟩ := by
          rw [HSE.out, if_pos HBM.out]; unfold mSame; rw [HQ.out]; simp only; rw [HA.out, if_pos hA3, HC.out]
        have hX : SC = cx := by rw [HSC.out, if_pos HBM.out, HA.out, if_pos hA3]
        rw [hE, hX]
        exact ⟨rfl, HW7.out.rw_, HW7.out.cb, HW7.out.only⟩
      · have e5 : ¬ (32768 : Int) ≤ (A : Int) := by omega
        obtain ⟨x0, x1, x2, x3⟩ := HW5.out.x
        have p0 := HW5.out.rw_.c0
        have p1 := HW5.out.rw_.c1
        have z0 := HW5.out.rw_.z 0
        have z1 := HW5.out.rw_.z 1
        simp only at p0 p1
        have d0 := HW5.out.cb.cell (k * 2) (by omega)
        have d1 := HW5.out.cb.cell (k * 2 + 1) (by omega)
        rw [HI.out.1] at d0
        rw [HI.out.2] at d1
        have y0 := HW5.out.cb.z (k * 2)
        have y1 := HW5.out.cb.z (k * 2 + 1)
        go_wp2_with fail
        refine wp_region_still_lit (by kernel_rfl) (by kernel_rfl) ?_
        repeat still_step
        refine wpStill_nil ?_
        change Exit.then _ _ _ _ W5.drew
        obtain ⟨W6, hW6⟩ : ∃ W6, W5.drew = W6 := ⟨_, rfl⟩
        have HW6 := Lib.hid HW5.out.drew
        rw [hW6] at HW6 ⊢
        clear hW6 HW5
        clear d0 d1 y0 y1 x0 x1 x2 x3 p0 p1 z0 z1
        have HA3 := Lib.hid hA3
        clear hA3 e5
        by_cases hAQ : A < Q
        · have e6 : (A : Int) < (Q : Int) := by omega
          have HAQ := Lib.hid hAQ
          clear hAQ
          obtain ⟨x0, x1, x2, x3⟩ := HW6.out.x
          have p0 := HW6.out.rw_.c0
          have p1 := HW6.out.rw_.c1
          have z0 := HW6.out.rw_.z 0
          have z1 := HW6.out.rw_.z 1
          simp only at p0 p1
          have d0 := HW6.out.cb.cell (k * 2) (by omega)
          have d1 := HW6.out.cb.cell (k * 2 + 1) (by omega)
          rw [HI.out.1] at d0
          rw [HI.out.2] at d1
          have y0 := HW6.out.cb.z (k * 2)
          have y1 := HW6.out.cb.z (k * 2 + 1)
          obtain ⟨W7, hW7⟩ : ∃ W7, W6.setCell ⟨p, 0, none⟩ (.int .i64 (Q : Int)) = W7 := ⟨_, rfl⟩
          have HW7 := Lib.hid (HW6.out.setA Q)
          rw [hW7] at HW7
          go_wp2_with fail
          try rw [hW7]
          clear hW7
          clear d0 d1 y0 y1 x0 x1 x2 x3 p0 p1 z0 z1
          clear HW6
          obtain ⟨x0, x1, x2, x3⟩ := HW7.out.x
          have p0 := HW7.out.rw_.c0
          have p1 := HW7.out.rw_.c1
          have z0 := HW7.out.rw_.z 0
          have z1 := HW7.out.rw_.z 1
          simp only at p0 p1
          have d0 := HW7.out.cb.cell (k * 2) (by omega)
          have d1 := HW7.out.cb.cell (k * 2 + 1) (by omega)
          rw [HI.out.1] at d0
          rw [HI.out.2] at d1
          have y0 := HW7.out.cb.z (k * 2)
          have y1 := HW7.out.cb.z (k * 2 + 1)
          refine wp_region_still_tail 7 (by kernel_rfl) (by kernel_rfl) ?_
          simp only [List.take_succ_cons, List.take_zero, List.drop_succ_cons, List.drop_zero]
          repeat still_step
          refine wpStill_nil ?_
          change wpList _ _ _ _ _ W7.drew
          obtain ⟨W8, hW8⟩ : ∃ W8, W7.drew = W8 := ⟨_, rfl⟩
          have HW8 := Lib.hid HW7.out.drew
          rw [hW8] at HW8 ⊢
          clear hW8 HW7
          clear d0 d1 y0 y1 x0 x1 x2 x3 p0 p1 z0 z1
          obtain ⟨x0, x1, x2, x3⟩ := HW8.out.x
          have p0 := HW8.out.rw_.c0
          have p1 := HW8.out.rw_.c1
          have z0 := HW8.out.rw_.z 0
          have z1 := HW8.out.rw_.z 1
          simp only at p0 p1
          have d0 := HW8.out.cb.cell (k * 2) (by omega)
          have d1 := HW8.out.cb.cell (k * 2 + 1) (by omega)
          rw [HI.out.1] at d0
          rw [HI.out.2] at d1
          have y0 := HW8.out.cb.z (k * 2)
          have y1 := HW8.out.cb.z (k * 2 + 1)
          obtain ⟨W9, hW9⟩ : ∃ W9, W8.setCell ⟨q, k * 2, none⟩ (.int .i64 (mp : Int)) = W9 := ⟨_, rfl⟩
          have HW9 := Lib.hid (HW8.out.setX (k * 2) mp)
          rw [hW9] at HW9
          go_wp2
          go_meet
          have hE : mNorm 16 ⟨Q, c, ct, pre, last⟩ = SE := by
            rw [HSE.out, if_pos HBM.out]; unfold mSame; rw [HQ.out]; simp only; rw [HA.out, if_neg HA3.out, if_pos HAQ.out]
          have hX : SC = cx.set (k * 2) mp := by rw [HSC.out, if_pos HBM.out, HA.out, if_neg HA3.out, HMP.out]
          refine ⟨⟨Q, c, ct, pre, last⟩, Lib.hid ⟨by rw [hX]; exact HW9.out, ⟨HG.out.toInv.narrow (by omega) (by omega) (by simp only; omega), HG.out.ct0⟩, by (try have := HA3.out); simp only; omega, by have := HML.out; exact this, hE⟩⟩
        · have e6 : decide ((A : Int) < (Q : Int)) = false := by simp; omega
          have HAQ := Lib.hid hAQ
          clear hAQ
          obtain ⟨x0, x1, x2, x3⟩ := HW6.out.x
          have p0 := HW6.out.rw_.c0
          have p1 := HW6.out.rw_.c1
          have z0 := HW6.out.rw_.z 0
          have z1 := HW6.out.rw_.z 1
          simp only at p0 p1
          have d0 := HW6.out.cb.cell (k * 2) (by omega)
          have d1 := HW6.out.cb.cell (k * 2 + 1) (by omega)
          rw [HI.out.1] at d0
          rw [HI.out.2] at d1
          have y0 := HW6.out.cb.z (k * 2)
          have y1 := HW6.out.cb.z (k * 2 + 1)
          go_wp2_with fail
          refine wp_region_still_tail 10 (by kernel_rfl) (by kernel_rfl) ?_
          simp only [List.take_succ_cons, List.take_zero, List.drop_succ_cons, List.drop_zero]
          repeat still_step
          refine wpStill_nil ?_
          change wpList _ _ _ _ _ W6.drew
          obtain ⟨W7, hW7⟩ : ∃ W7, W6.drew = W7 := ⟨_, rfl⟩
          have HW7 := Lib.hid HW6.out.drew
          rw [hW7] at HW7 ⊢
          clear hW7 HW6
          clear d0 d1 y0 y1 x0 x1 x2 x3 p0 p1 z0 z1
          have hcs : (c : Int) + (Q : Int) = ((c + Q : Nat) : Int) := by omega
          obtain ⟨C, hC⟩ : ∃ C, c + Q = C := ⟨_, rfl⟩
          rw [hC] at hcs
          have HC := Lib.hid hC
          have hcw : IntKind.i64.wrap ((c : Int) + (Q : Int)) = (C : Int) := by rw [hcs]; exact IntWalk.i64_in _ (by omega)
          have hCb : C = c + Q := hC.symm
          have HCB := Lib.hid hCb
          have hC9 : C ≤ 300000000 := by omega
          clear hC hCb
          obtain ⟨x0, x1, x2, x3⟩ := HW7.out.x
          have p0 := HW7.out.rw_.c0
          have p1 := HW7.out.rw_.c1
          have z0 := HW7.out.rw_.z 0
          have z1 := HW7.out.rw_.z 1
          simp only at p0 p1
          have d0 := HW7.out.cb.cell (k * 2) (by omega)
          have d1 := HW7.out.cb.cell (k * 2 + 1) (by omega)
          rw [HI.out.1] at d0
          rw [HI.out.2] at d1
          have y0 := HW7.out.cb.z (k * 2)
          have y1 := HW7.out.cb.z (k * 2 + 1)
          obtain ⟨W8, hW8⟩ : ∃ W8, W7.setCell ⟨p, 1, none⟩ (.int .i64 (C : Int)) = W8 := ⟨_, rfl⟩
          have HW8 := Lib.hid (HW7.out.setC C)
          rw [hW8] at HW8
          go_wp2_with fail
          try rw [hW8]
          clear hW8
          clear d0 d1 y0 y1 x0 x1 x2 x3 p0 p1 z0 z1
          clear HW7
          obtain ⟨x0, x1, x2, x3⟩ := HW8.out.x
          have p0 := HW8.out.rw_.c0
          have p1 := HW8.out.rw_.c1
          have z0 := HW8.out.rw_.z 0
          have z1 := HW8.out.rw_.z 1
          simp only at p0 p1
          have d0 := HW8.out.cb.cell (k * 2) (by omega)
          have d1 := HW8.out.cb.cell (k * 2 + 1) (by omega)
          rw [HI.out.1] at d0
          rw [HI.out.2] at d1
          have y0 := HW8.out.cb.z (k * 2)
          have y1 := HW8.out.cb.z (k * 2 + 1)
          refine wp_region_still_tail 7 (by kernel_rfl) (by kernel_rfl) ?_
          simp only [List.take_succ_cons, List.take_zero, List.drop_succ_cons, List.drop_zero]
          repeat still_step
          refine wpStill_nil ?_
          change wpList _ _ _ _ _ W8.drew
          obtain ⟨W9, hW9⟩ : ∃ W9, W8.drew = W9 := ⟨_, rfl⟩
          have HW9 := Lib.hid HW8.out.drew
          rw [hW9] at HW9 ⊢
          clear hW9 HW8
          clear d0 d1 y0 y1 x0 x1 x2 x3 p0 p1 z0 z1
          obtain ⟨x0, x1, x2, x3⟩ := HW9.out.x
          have p0 := HW9.out.rw_.c0
          have p1 := HW9.out.rw_.c1
          have z0 := HW9.out.rw_.z 0
          have z1 := HW9.out.rw_.z 1
          simp only at p0 p1
          have d0 := HW9.out.cb.cell (k * 2) (by omega)
          have d1 := HW9.out.cb.cell (k * 2 + 1) (by omega)
          rw [HI.out.1] at d0
          rw [HI.out.2] at d1
          have y0 := HW9.out.cb.z (k * 2)
          have y1 := HW9.out.cb.z (k * 2 + 1)
          obtain ⟨W10, hW10⟩ : ∃ W10, W9.setCell ⟨q, k * 2, none⟩ (.int .i64 (mp : Int)) = W10 := ⟨_, rfl⟩
          have HW10 := Lib.hid (HW9.out.setX (k * 2) mp)
          rw [hW10] at HW10
          go_wp2
          go_meet
          have hE : mNorm 16 ⟨A, C, ct, pre, last⟩ = SE := by
            rw [HSE.out, if_pos HBM.out]; unfold mSame; rw [HQ.out]; simp only; rw [HA.out, if_neg HA3.out, if_neg HAQ.out, HC.out]
          have hX : SC = cx.set (k * 2) mp := by rw [HSC.out, if_pos HBM.out, HA.out, if_neg HA3.out, HMP.out]
          refine ⟨⟨A, C, ct, pre, last⟩, Lib.hid ⟨by rw [hX]; exact HW10.out, ⟨HG.out.toInv.narrow (by omega) (by omega) (by simp only; omega), HG.out.ct0⟩, by (try have := HA3.out); simp only; omega, by have := HML.out; exact this, hE⟩⟩
    | false =>
      have HBM : Hid (¬ b = m) := Lib.hid (by simpa using HBB.out)
      obtain ⟨x0, x1, x2, x3⟩ := HW5.out.x
      have p0 := HW5.out.rw_.c0
      have p1 := HW5.out.rw_.c1
      have z0 := HW5.out.rw_.z 0
      have z1 := HW5.out.rw_.z 1
      simp only at p0 p1
      have d0 := HW5.out.cb.cell (k * 2) (by omega)
      have d1 := HW5.out.cb.cell (k * 2 + 1) (by omega)
      rw [HI.out.1] at d0
      rw [HI.out.2] at d1
      have y0 := HW5.out.cb.z (k * 2)
      have y1 := HW5.out.cb.z (k * 2 + 1)
      go_wp2_with fail
      refine wp_region_still_lit (by kernel_rfl) (by kernel_rfl) ?_
      repeat still_step
      refine wpStill_nil ?_
      change Exit.then _ _ _ _ W5.drew
      obtain ⟨W6, hW6⟩ : ∃ W6, W5.drew = W6 := ⟨_, rfl⟩
      have HW6 := Lib.hid HW5.out.drew
      rw [hW6] at HW6 ⊢
      clear hW6 HW5
      clear d0 d1 y0 y1 x0 x1 x2 x3 p0 p1 z0 z1
      by_cases hAQ : A < Q
      · have e6 : (A : Int) < (Q : Int) := by omega
        obtain ⟨x0, x1, x2, x3⟩ := HW6.out.x
        have p0 := HW6.out.rw_.c0
        have p1 := HW6.out.rw_.c1
        have z0 := HW6.out.rw_.z 0
        have z1 := HW6.out.rw_.z 1
        simp only at p0 p1
        have d0 := HW6.out.cb.cell (k * 2) (by omega)
        have d1 := HW6.out.cb.cell (k * 2 + 1) (by omega)
        rw [HI.out.1] at d0
        rw [HI.out.2] at d1
        have y0 := HW6.out.cb.z (k * 2)
        have y1 := HW6.out.cb.z (k * 2 + 1)
        go_wp2_with fail
        refine wp_region_still_tail 10 (by kernel_rfl) (by kernel_rfl) ?_
        simp only [List.take_succ_cons, List.take_zero, List.drop_succ_cons, List.drop_zero]
        repeat still_step
        refine wpStill_nil ?_
        change wpList _ _ _ _ _ W6.drew
        obtain ⟨W7, hW7⟩ : ∃ W7, W6.drew = W7 := ⟨_, rfl⟩
        have HW7 := Lib.hid HW6.out.drew
        rw [hW7] at HW7 ⊢
        clear hW7 HW6
        clear d0 d1 y0 y1 x0 x1 x2 x3 p0 p1 z0 z1
        have hcs : (c : Int) + (Q : Int) = ((c + Q : Nat) : Int) := by omega
        obtain ⟨C, hC⟩ : ∃ C, c + Q = C := ⟨_, rfl⟩
        rw [hC] at hcs
        have HC := Lib.hid hC
        have hcw : IntKind.i64.wrap ((c : Int) + (Q : Int)) = (C : Int) := by rw [hcs]; exact IntWalk.i64_in _ (by omega)
        have hCb : C = c + Q := hC.symm
        have HCB := Lib.hid hCb
        have hC9 : C ≤ 300000000 := by omega
        clear hC hCb
        obtain ⟨x0, x1, x2, x3⟩ := HW7.out.x
        have p0 := HW7.out.rw_.c0
        have p1 := HW7.out.rw_.c1
        have z0 := HW7.out.rw_.z 0
        have z1 := HW7.out.rw_.z 1
        simp only at p0 p1
        have d0 := HW7.out.cb.cell (k * 2) (by omega)
        have d1 := HW7.out.cb.cell (k * 2 + 1) (by omega)
        rw [HI.out.1] at d0
        rw [HI.out.2] at d1
        have y0 := HW7.out.cb.z (k * 2)
        have y1 := HW7.out.cb.z (k * 2 + 1)
        obtain ⟨W8, hW8⟩ : ∃ W8, W7.setCell ⟨p, 1, none⟩ (.int .i64 (C : Int)) = W8 := ⟨_, rfl⟩
        have HW8 := Lib.hid (HW7.out.setC C)
        rw [hW8] at HW8
        go_upto_region 13 with fail
        try rw [hW8]
        clear hW8
        clear d0 d1 y0 y1 x0 x1 x2 x3 p0 p1 z0 z1
        clear HW7
        have h1m : (1 : Int) - (m : Int) = ((1 - m : Nat) : Int) := by omega
        have h1w : IntKind.i64.wrap ((1 : Int) - (m : Int)) = ((1 - m : Nat) : Int) := by rw [h1m]; exact IntWalk.i64_in _ (by omega)
        obtain ⟨m1, hm1⟩ : ∃ m1, 1 - m = m1 := ⟨_, rfl⟩
        rw [hm1] at h1m h1w
        have HM1 := Lib.hid hm1
        clear hm1
        by_cases hsv : sw = true
        · have HSV := Lib.hid hsv
          clear hsv
          obtain ⟨x0, x1, x2, x3⟩ := HW8.out.x
          have p0 := HW8.out.rw_.c0
          have p1 := HW8.out.rw_.c1
          have z0 := HW8.out.rw_.z 0
          have z1 := HW8.out.rw_.z 1
          simp only at p0 p1
          have d0 := HW8.out.cb.cell (k * 2) (by omega)
          have d1 := HW8.out.cb.cell (k * 2 + 1) (by omega)
          rw [HI.out.1] at d0
          rw [HI.out.2] at d1
          have y0 := HW8.out.cb.z (k * 2)
          have y1 := HW8.out.cb.z (k * 2 + 1)
          rw [HSV.out] at x3
          go_wp2_with fail
          refine wp_region_still_tail 12 (by kernel_rfl) (by kernel_rfl) ?_
          simp only [List.take_succ_cons, List.take_zero, List.drop_succ_cons, List.drop_zero]
          repeat still_step
          refine wpStill_nil ?_
          change wpList _ _ _ _ _ W8.drew
          obtain ⟨Wa, hWa⟩ : ∃ Wa, W8.drew = Wa := ⟨_, rfl⟩
          have HWa := Lib.hid HW8.out.drew
          rw [hWa] at HWa ⊢
          clear hWa HW8
          clear d0 d1 y0 y1 x0 x1 x2 x3 p0 p1 z0 z1
          obtain ⟨x0, x1, x2, x3⟩ := HWa.out.x
          have p0 := HWa.out.rw_.c0
          have p1 := HWa.out.rw_.c1
          have z0 := HWa.out.rw_.z 0
          have z1 := HWa.out.rw_.z 1
          simp only at p0 p1
          have d0 := HWa.out.cb.cell (k * 2) (by omega)
          have d1 := HWa.out.cb.cell (k * 2 + 1) (by omega)
          rw [HI.out.1] at d0
          rw [HI.out.2] at d1
          have y0 := HWa.out.cb.z (k * 2)
          have y1 := HWa.out.cb.z (k * 2 + 1)
          obtain ⟨Wb, hWb⟩ : ∃ Wb, Wa.setCell ⟨q, k * 2 + 1, none⟩ (.int .i64 (m1 : Int)) = Wb := ⟨_, rfl⟩
          have HWb := Lib.hid (HWa.out.setX (k * 2 + 1) m1)
          rw [hWb] at HWb
          go_wp2_with fail
          try rw [hWb]
          clear hWb
          clear d0 d1 y0 y1 x0 x1 x2 x3 p0 p1 z0 z1
          clear HWa
          obtain ⟨x0, x1, x2, x3⟩ := HWb.out.x
          have p0 := HWb.out.rw_.c0
          have p1 := HWb.out.rw_.c1
          have z0 := HWb.out.rw_.z 0
          have z1 := HWb.out.rw_.z 1
          simp only at p0 p1
          refine wp_region_still_tail 7 (by kernel_rfl) (by kernel_rfl) ?_
          simp only [List.take_succ_cons, List.take_zero, List.drop_succ_cons, List.drop_zero]
          repeat still_step
          refine wpStill_nil ?_
          change wpList _ _ _ _ _ Wb.drew
          obtain ⟨Wc, hWc⟩ : ∃ Wc, Wb.drew = Wc := ⟨_, rfl⟩
          have HWc := Lib.hid HWb.out.drew
          rw [hWc] at HWc ⊢
          clear hWc HWb
          clear x0 x1 x2 x3 p0 p1 z0 z1
          obtain ⟨x0, x1, x2, x3⟩ := HWc.out.x
          have p0 := HWc.out.rw_.c0
          have p1 := HWc.out.rw_.c1
          have z0 := HWc.out.rw_.z 0
          have z1 := HWc.out.rw_.z 1
          simp only at p0 p1
          have y0 := HWc.out.cb.z (k * 2)
          have dd := HWc.out.cb.cell (k * 2) (by omega)
          obtain ⟨Wd, hWd⟩ : ∃ Wd, Wc.setCell ⟨q, k * 2, none⟩ (.int .i64 (lp : Int)) = Wd := ⟨_, rfl⟩
          have HWd := Lib.hid (HWc.out.setX (k * 2) lp)
          rw [hWd] at HWd
          go_wp2
          go_meet
          have hE : mNorm 16 ⟨A, C, ct, pre, last⟩ = SE := by
            rw [HSE.out, if_neg HBM.out]; unfold mOther; rw [HQ.out]; simp only; rw [HA.out, if_pos hAQ, HC.out]
          have hX : SC = (cx.set (k * 2 + 1) m1).set (k * 2) lp := by rw [HSC.out, if_neg HBM.out, HUN.out, HSW.out, if_pos HSV.out, HM1.out, HLP.out]
          refine ⟨⟨A, C, ct, pre, last⟩, Lib.hid ⟨by rw [hX]; exact HWd.out, ⟨HG.out.toInv.narrow (by omega) (by omega) (by simp only; omega), HG.out.ct0⟩, by (try have := HA3.out); simp only; omega, by have := HML.out; exact this, hE⟩⟩
        · have HSV : Hid (sw = false) := Lib.hid (by simpa using hsv)
          clear hsv
          obtain ⟨x0, x1, x2, x3⟩ := HW8.out.x
          have p0 := HW8.out.rw_.c0
          have p1 := HW8.out.rw_.c1
          have z0 := HW8.out.rw_.z 0
          have z1 := HW8.out.rw_.z 1
          simp only at p0 p1
          have d0 := HW8.out.cb.cell (k * 2) (by omega)
          have d1 := HW8.out.cb.cell (k * 2 + 1) (by omega)
          rw [HI.out.1] at d0
          rw [HI.out.2] at d1
          have y0 := HW8.out.cb.z (k * 2)
          have y1 := HW8.out.cb.z (k * 2 + 1)
          rw [HSV.out] at x3
          go_wp2_with fail
          refine wp_region_still_tail 7 (by kernel_rfl) (by kernel_rfl) ?_
          simp only [List.take_succ_cons, List.take_zero, List.drop_succ_cons, List.drop_zero]
          repeat still_step
          refine wpStill_nil ?_
          change wpList _ _ _ _ _ W8.drew
          obtain ⟨Wc, hWc⟩ : ∃ Wc, W8.drew = Wc := ⟨_, rfl⟩
          have HWc := Lib.hid HW8.out.drew
          rw [hWc] at HWc ⊢
          clear hWc HW8
          clear d0 d1 y0 y1 x0 x1 x2 x3 p0 p1 z0 z1
          obtain ⟨x0, x1, x2, x3⟩ := HWc.out.x
          have p0 := HWc.out.rw_.c0
          have p1 := HWc.out.rw_.c1
          have z0 := HWc.out.rw_.z 0
          have z1 := HWc.out.rw_.z 1
          simp only at p0 p1
          have d0 := HWc.out.cb.cell (k * 2) (by omega)
          have d1 := HWc.out.cb.cell (k * 2 + 1) (by omega)
          rw [HI.out.1] at d0
          rw [HI.out.2] at d1
          have y0 := HWc.out.cb.z (k * 2)
          have y1 := HWc.out.cb.z (k * 2 + 1)
          obtain ⟨Wd, hWd⟩ : ∃ Wd, Wc.setCell ⟨q, k * 2, none⟩ (.int .i64 (lp : Int)) = Wd := ⟨_, rfl⟩
          have HWd := Lib.hid (HWc.out.setX (k * 2) lp)
          rw [hWd] at HWd
          go_wp2
          go_meet
          have hE : mNorm 16 ⟨A, C, ct, pre, last⟩ = SE := by
            rw [HSE.out, if_neg HBM.out]; unfold mOther; rw [HQ.out]; simp only; rw [HA.out, if_pos hAQ, HC.out]
          have hX : SC = cx.set (k * 2) lp := by rw [HSC.out, if_neg HBM.out, HUN.out, HSW.out, if_neg (by rw [HSV.out]; simp), HLP.out]
          refine ⟨⟨A, C, ct, pre, last⟩, Lib.hid ⟨by rw [hX]; exact HWd.out, ⟨HG.out.toInv.narrow (by omega) (by omega) (by simp only; omega), HG.out.ct0⟩, by (try have := HA3.out); simp only; omega, by have := HML.out; exact this, hE⟩⟩
      · have e6 : decide ((A : Int) < (Q : Int)) = false := by simp; omega
        obtain ⟨x0, x1, x2, x3⟩ := HW6.out.x
        have p0 := HW6.out.rw_.c0
        have p1 := HW6.out.rw_.c1
        have z0 := HW6.out.rw_.z 0
        have z1 := HW6.out.rw_.z 1
        simp only at p0 p1
        have d0 := HW6.out.cb.cell (k * 2) (by omega)
        have d1 := HW6.out.cb.cell (k * 2 + 1) (by omega)
        rw [HI.out.1] at d0
        rw [HI.out.2] at d1
        have y0 := HW6.out.cb.z (k * 2)
        have y1 := HW6.out.cb.z (k * 2 + 1)
        obtain ⟨W7, hW7⟩ : ∃ W7, W6.setCell ⟨p, 0, none⟩ (.int .i64 (Q : Int)) = W7 := ⟨_, rfl⟩
        have HW7 := Lib.hid (HW6.out.setA Q)
        rw [hW7] at HW7
        go_upto_region 13 with fail
        try rw [hW7]
        clear hW7
        clear d0 d1 y0 y1 x0 x1 x2 x3 p0 p1 z0 z1
        clear HW6
        have h1m : (1 : Int) - (m : Int) = ((1 - m : Nat) : Int) := by omega
        have h1w : IntKind.i64.wrap ((1 : Int) - (m : Int)) = ((1 - m : Nat) : Int) := by rw [h1m]; exact IntWalk.i64_in _ (by omega)
        obtain ⟨m1, hm1⟩ : ∃ m1, 1 - m = m1 := ⟨_, rfl⟩
        rw [hm1] at h1m h1w
        have HM1 := Lib.hid hm1
        clear hm1
        by_cases hsv : sw = true
        · have HSV := Lib.hid hsv
          clear hsv
          obtain ⟨x0, x1, x2, x3⟩ := HW7.out.x
          have p0 := HW7.out.rw_.c0
          have p1 := HW7.out.rw_.c1
          have z0 := HW7.out.rw_.z 0
          have z1 := HW7.out.rw_.z 1
          simp only at p0 p1
          have d0 := HW7.out.cb.cell (k * 2) (by omega)
          have d1 := HW7.out.cb.cell (k * 2 + 1) (by omega)
          rw [HI.out.1] at d0
          rw [HI.out.2] at d1
          have y0 := HW7.out.cb.z (k * 2)
          have y1 := HW7.out.cb.z (k * 2 + 1)
          rw [HSV.out] at x3
          go_wp2_with fail
          refine wp_region_still_tail 12 (by kernel_rfl) (by kernel_rfl) ?_
          simp only [List.take_succ_cons, List.take_zero, List.drop_succ_cons, List.drop_zero]
          repeat still_step
          refine wpStill_nil ?_
          change wpList _ _ _ _ _ W7.drew
          obtain ⟨Wa, hWa⟩ : ∃ Wa, W7.drew = Wa := ⟨_, rfl⟩
          have HWa := Lib.hid HW7.out.drew
          rw [hWa] at HWa ⊢
          clear hWa HW7
          clear d0 d1 y0 y1 x0 x1 x2 x3 p0 p1 z0 z1
          obtain ⟨x0, x1, x2, x3⟩ := HWa.out.x
          have p0 := HWa.out.rw_.c0
          have p1 := HWa.out.rw_.c1
          have z0 := HWa.out.rw_.z 0
          have z1 := HWa.out.rw_.z 1
          simp only at p0 p1
          have d0 := HWa.out.cb.cell (k * 2) (by omega)
          have d1 := HWa.out.cb.cell (k * 2 + 1) (by omega)
          rw [HI.out.1] at d0
          rw [HI.out.2] at d1
          have y0 := HWa.out.cb.z (k * 2)
          have y1 := HWa.out.cb.z (k * 2 + 1)
          obtain ⟨Wb, hWb⟩ : ∃ Wb, Wa.setCell ⟨q, k * 2 + 1, none⟩ (.int .i64 (m1 : Int)) = Wb := ⟨_, rfl⟩
          have HWb := Lib.hid (HWa.out.setX (k * 2 + 1) m1)
          rw [hWb] at HWb
          go_wp2_with fail
          try rw [hWb]
          clear hWb
          clear d0 d1 y0 y1 x0 x1 x2 x3 p0 p1 z0 z1
          clear HWa
          obtain ⟨x0, x1, x2, x3⟩ := HWb.out.x
          have p0 := HWb.out.rw_.c0
          have p1 := HWb.out.rw_.c1
          have z0 := HWb.out.rw_.z 0
          have z1 := HWb.out.rw_.z 1
          simp only at p0 p1
          refine wp_region_still_tail 7 (by kernel_rfl) (by kernel_rfl) ?_
          simp only [List.take_succ_cons, List.take_zero, List.drop_succ_cons, List.drop_zero]
          repeat still_step
          refine wpStill_nil ?_
          change wpList _ _ _ _ _ Wb.drew
          obtain ⟨Wc, hWc⟩ : ∃ Wc, Wb.drew = Wc := ⟨_, rfl⟩
          have HWc := Lib.hid HWb.out.drew
          rw [hWc] at HWc ⊢
          clear hWc HWb
          clear x0 x1 x2 x3 p0 p1 z0 z1
          obtain ⟨x0, x1, x2, x3⟩ := HWc.out.x
          have p0 := HWc.out.rw_.c0
          have p1 := HWc.out.rw_.c1
          have z0 := HWc.out.rw_.z 0
          have z1 := HWc.out.rw_.z 1
          simp only at p0 p1
          have y0 := HWc.out.cb.z (k * 2)
          have dd := HWc.out.cb.cell (k * 2) (by omega)
          obtain ⟨Wd, hWd⟩ : ∃ Wd, Wc.setCell ⟨q, k * 2, none⟩ (.int .i64 (lp : Int)) = Wd := ⟨_, rfl⟩
          have HWd := Lib.hid (HWc.out.setX (k * 2) lp)
          rw [hWd] at HWd
          go_wp2
          go_meet
          have hE : mNorm 16 ⟨Q, c, ct, pre, last⟩ = SE := by
            rw [HSE.out, if_neg HBM.out]; unfold mOther; rw [HQ.out]; simp only; rw [HA.out, if_neg hAQ]
          have hX : SC = (cx.set (k * 2 + 1) m1).set (k * 2) lp := by rw [HSC.out, if_neg HBM.out, HUN.out, HSW.out, if_pos HSV.out, HM1.out, HLP.out]
          refine ⟨⟨Q, c, ct, pre, last⟩, Lib.hid ⟨by rw [hX]; exact HWd.out, ⟨HG.out.toInv.narrow (by omega) (by omega) (by simp only; omega), HG.out.ct0⟩, by (try have := HA3.out); simp only; omega, by have := HML.out; exact this, hE⟩⟩
        · have HSV : Hid (sw = false) := Lib.hid (by simpa using hsv)
          clear hsv
          obtain ⟨x0, x1, x2, x3⟩ := HW7.out.x
          have p0 := HW7.out.rw_.c0
          have p1 := HW7.out.rw_.c1
          have z0 := HW7.out.rw_.z 0
          have z1 := HW7.out.rw_.z 1
          simp only at p0 p1
          have d0 := HW7.out.cb.cell (k * 2) (by omega)
          have d1 := HW7.out.cb.cell (k * 2 + 1) (by omega)
          rw [HI.out.1] at d0
          rw [HI.out.2] at d1
          have y0 := HW7.out.cb.z (k * 2)
          have y1 := HW7.out.cb.z (k * 2 + 1)
          rw [HSV.out] at x3
          go_wp2_with fail
          refine wp_region_still_tail 7 (by kernel_rfl) (by kernel_rfl) ?_
          simp only [List.take_succ_cons, List.take_zero, List.drop_succ_cons, List.drop_zero]
          repeat still_step
          refine wpStill_nil ?_
          change wpList _ _ _ _ _ W7.drew
          obtain ⟨Wc, hWc⟩ : ∃ Wc, W7.drew = Wc := ⟨_, rfl⟩
          have HWc := Lib.hid HW7.out.drew
          rw [hWc] at HWc ⊢
          clear hWc HW7
          clear d0 d1 y0 y1 x0 x1 x2 x3 p0 p1 z0 z1
          obtain ⟨x0, x1, x2, x3⟩ := HWc.out.x
          have p0 := HWc.out.rw_.c0
          have p1 := HWc.out.rw_.c1
          have z0 := HWc.out.rw_.z 0
          have z1 := HWc.out.rw_.z 1
          simp only at p0 p1
          have d0 := HWc.out.cb.cell (k * 2) (by omega)
          have d1 := HWc.out.cb.cell (k * 2 + 1) (by omega)
          rw [HI.out.1] at d0
          rw [HI.out.2] at d1
          have y0 := HWc.out.cb.z (k * 2)
          have y1 := HWc.out.cb.z (k * 2 + 1)
          obtain ⟨Wd, hWd⟩ : ∃ Wd, Wc.setCell ⟨q, k * 2, none⟩ (.int .i64 (lp : Int)) = Wd := ⟨_, rfl⟩
          have HWd := Lib.hid (HWc.out.setX (k * 2) lp)
          rw [hWd] at HWd
          go_wp2
          go_meet
          have hE : mNorm 16 ⟨Q, c, ct, pre, last⟩ = SE := by
            rw [HSE.out, if_neg HBM.out]; unfold mOther; rw [HQ.out]; simp only; rw [HA.out, if_neg hAQ]
          have hX : SC = cx.set (k * 2) lp := by rw [HSC.out, if_neg HBM.out, HUN.out, HSW.out, if_neg (by rw [HSV.out]; simp), HLP.out]
          refine ⟨⟨Q, c, ct, pre, last⟩, Lib.hid ⟨by rw [hX]; exact HWd.out, ⟨HG.out.toInv.narrow (by omega) (by omega) (by simp only; omega), HG.out.ct0⟩, by (try have := HA3.out); simp only; omega, by have := HML.out; exact this, hE⟩⟩
   case rest =>
    obtain ⟨e2, HR⟩ := hcut
    clear HW5
    clear HSE HSC HUN HI HA hband hAb
    go_wp2_with fail
    go_loopw [] (fun wr => ∃ e, Hid (RW P wr p e ∧ Rc wr q SC ∧ Only (EC P q) w wr) ∧ Hid ((e.a < 32768 ∧ ∃ n, Good e ∧ 32768 ≤ e.a * 2 ^ n ∧ mNorm n e = SE ∧ e.pre.length + n ≤ 90000) ∨ (32768 ≤ e.a ∧ e = SE))) (fun wr => rOf p wr)
    case atStart => exact ⟨e2, Lib.hid ⟨HR.out.1.rw_, HR.out.1.cb, HR.out.1.only⟩, Lib.hid (.inl ⟨HR.out.2.2.1, 16, HR.out.2.1, by have := HR.out.2.1.a1; omega, HR.out.2.2.2.2, by have := HR.out.2.2.2.1; omega⟩)⟩
    case round =>
      obtain ⟨⟨a9, c9, ct9, pre9, last9⟩, HX, HD⟩ := hrel
      clear HR
      have p0 := HX.out.1.c0
      have p1 := HX.out.1.c1
      have p2 := HX.out.1.c2
      have z0 := HX.out.1.z 0
      have z1 := HX.out.1.z 1
      have z2 := HX.out.1.z 2
      simp only at p0 p1 p2
      by_cases h32 : 32768 ≤ a9
      · have e1 : ¬ (a9 : Int) < 32768 := by omega
        go_wp2
        go_end0
        obtain rfl : (⟨a9, c9, ct9, pre9, last9⟩ : E) = SE := by
          rcases HD.out with ⟨h, _⟩ | ⟨_, h⟩
          · exact absurd h (by show ¬ a9 < 32768; omega)
          · exact h
        exact ⟨rfl, HX.out.1, HX.out.2.1, HX.out.2.2⟩
      · have e1 : (a9 : Int) < 32768 := by omega
        have hD : ∃ n, Good ⟨a9, c9, ct9, pre9, last9⟩ ∧ 32768 ≤ a9 * 2 ^ n ∧ mNorm n ⟨a9, c9, ct9, pre9, last9⟩ = SE ∧ pre9.length + n ≤ 90000 := by
          rcases HD.out with ⟨_, h⟩ | ⟨h, _⟩
          · exact h
          · exact absurd h (by show ¬ 32768 ≤ a9; omega)
        obtain ⟨n9, hgd, hn9, hnm, hln⟩ := hD
        have HGD := Lib.hid hgd
        have HNM := Lib.hid (And.intro hn9 hnm)
        have c28 := hgd.c28
        have ct1 := hgd.ct0
        have ct2 := hgd.ct1
        have a91 := hgd.a1
        simp only at c28 ct1 ct2 a91
        clear hgd hn9 hnm HD h32
        go_wp2_with fail
        obtain ⟨A2, hA2⟩ : ∃ A2, 2 * a9 = A2 := ⟨_, rfl⟩
        obtain ⟨C2, hC2⟩ : ∃ C2, 2 * c9 = C2 := ⟨_, rfl⟩
        have ha2 : IntKind.i64.wrap (2 * (a9 : Int)) = (A2 : Int) := by rw [show 2 * (a9 : Int) = (A2 : Int) by omega]; exact IntWalk.i64_in _ (by omega)
        have hc2 : IntKind.i64.wrap (2 * (c9 : Int)) = (C2 : Int) := by rw [show 2 * (c9 : Int) = (C2 : Int) by omega]; exact IntWalk.i64_in _ (by omega)
        have HA2 := Lib.hid (And.intro hA2 hC2)
        obtain ⟨WD, hWD⟩ : ∃ WD, wr.drew = WD := ⟨_, rfl⟩
        have HWD : Hid (RW P WD p ⟨a9, c9, ct9, pre9, last9⟩ ∧ Rc WD q SC ∧ Only (EC P q) w WD) := Lib.hid (by rw [← hWD]; exact ⟨HX.out.1, HX.out.2.1, only_drewN HX.out.2.2 1⟩)
        have hqp : q ≠ p := fun e => HALL.out.2.2.1 (e ▸ HALL.out.1.p)
        obtain ⟨WA, hWA⟩ : ∃ WA, WD.setCell ⟨p, 0, none⟩ (.int .i64 (A2 : Int)) = WA := ⟨_, rfl⟩
        have HWA : Hid (RW P WA p ⟨A2, c9, ct9, pre9, last9⟩ ∧ Rc WA q SC ∧ Only (EC P q) w WA) := Lib.hid (by rw [← hWA]; exact ⟨HWD.out.1.setA A2, HWD.out.2.1.keep (Below.heap_setCell _ _ _ _ hqp), HWD.out.2.2.setCell (p := ⟨p, 0, none⟩) (.inl HWD.out.1.p) _⟩)
        obtain ⟨WC, hWC⟩ : ∃ WC, WA.setCell ⟨p, 1, none⟩ (.int .i64 (C2 : Int)) = WC := ⟨_, rfl⟩
        have HWC : Hid (RW P WC p ⟨A2, C2, ct9, pre9, last9⟩ ∧ Rc WC q SC ∧ Only (EC P q) w WC) := Lib.hid (by rw [← hWC]; exact ⟨HWA.out.1.setC C2, HWA.out.2.1.keep (Below.heap_setCell _ _ _ _ hqp), HWA.out.2.2.setCell (p := ⟨p, 1, none⟩) (.inl HWA.out.1.p) _⟩)
        clear p0 p1 p2 z0 z1 z2
        have p0 := HWD.out.1.c0
        have p1 := HWD.out.1.c1
        have z0 := HWD.out.1.z 0
        have p1a := HWA.out.1.c1
        have z1a := HWA.out.1.z 1
        simp only at p0 p1 p1a
        have HMES := Lib.hid HX.out.1.rOf
        clear HX hA2 hC2
        refine (wpIn_wide (n := 9)).1 (regionIn_a (Inv := fun L a' w' => a' = { tmps := #[.pointer (some ⟨p, 0, none⟩), .pointer (some ⟨q, 0, none⟩), .int .i64 (k : Int), .int .i64 bit, undef, undef, undef, undef, .pointer (some ⟨s, 0, none⟩), .int .i64 (k : Int), .bool (decide ((k : Int) < 0)), .bool (decide ((k : Int) < 0)), .int .i64 (k : Int), .bool (decide (19 ≤ (k : Int))), .bool (decide ((k : Int) < 0) || decide (19 ≤ (k : Int))), .pointer (some ⟨q, 0, none⟩), .int .i64 (k : Int), .pointer (some ⟨q, 0, none⟩), .pointer (some ⟨q, k * 2, none⟩), .pointer (some ⟨q, k * 2, none⟩), .int .i64 (i : Int), .agg #[.int .i64 (Q : Int), .int .i64 (mp : Int), .int .i64 (lp : Int), .bool sw], .pointer (some ⟨p, 0, none⟩), .pointer (some ⟨p, 0, none⟩), .pointer (some ⟨p, 0, none⟩), .pointer (some ⟨p, 0, none⟩), .int .i64 (a : Int), .pointer (some ⟨s, 0, none⟩), .int .i64 (Q : Int), .int .i64 (IntKind.i64.wrap ((a : Int) - (Q : Int))), .pointer (some ⟨p, 0, none⟩), .pointer (some ⟨p, 0, none⟩), u32, u33, u34, u35, u36, u37, u38, u39, .bool B, u41, u42, u43, u44, u45, u46, u47, u48, u49, u50, u51, u52, u53, u54, u55, u56, u57, u58, u59, u60, u61, u62, u63, u64, u65, u66, u67, u68, u69, u70, u71, u72, u73, u74, u75, u76, u77, u78, u79, u80, u81, u82, u83, u84, u85, u86, u87, u88, u89, u90, u91, u92, u93, u94, u95, u96, u97, u98, u99, u100, u101, u102, u103, u104, u105, u106, u107, u108, u109, u110, u111, u112, u113, u114, u115, u116, u117, u118, u119, u120, u121, u122, u123, u124, u125, u126, u127, .pointer (some ⟨p, 0, none⟩), .pointer (some ⟨p, 0, none⟩), .pointer (some ⟨p, 0, none⟩), .int .i64 (a9 : Int), .bool true, bif L 0 then .pointer (some ⟨p, 0, none⟩) else u133, bif L 1 then .pointer (some ⟨p, 0, none⟩) else u134, bif L 2 then .pointer (some ⟨p, 0, none⟩) else u135, bif L 3 then .pointer (some ⟨p, 0, none⟩) else u136, bif L 4 then .pointer (some ⟨p, 0, none⟩) else u137, bif L 5 then .int .i64 (a9 : Int) else u138, bif L 6 then .int .i64 (A2 : Int) else u139, bif L 7 then .pointer (some ⟨p, 0, none⟩) else u140, bif L 8 then .pointer (some ⟨p, 0, none⟩) else u141, bif L 9 then .pointer (some ⟨p, 1, none⟩) else u142, bif L 10 then .int .i64 (c9 : Int) else u143, bif L 11 then .int .i64 (C2 : Int) else u144, bif L 12 then .pointer (some ⟨p, 0, none⟩) else u145, bif L 13 then .pointer (some ⟨p, 0, none⟩) else u146, bif L 15 then .pointer (some ⟨p, 0, none⟩) else u147, bif L 16 then .pointer (some ⟨p, 1, none⟩) else u148, u149, u150, u151, u152, u153, u154, u155, u156, u157, u158, u159, u160, u161, u162], defers := [] } ∧ w' = (bif L 17 then WC else (bif L 14 then WA else (WD)))) (by kernel_rfl) (by kernel_rfl) ⟨rfl, hWD⟩ ?stepl17 ?finl17)
        case stepl17 =>
          intro i hi L a' w' hI hs hu
          obtain ⟨rfl, rfl⟩ := hI
          have hL := hu.1
          have hi : i < 18 := hi
          obtain rfl | rfl | rfl | rfl | rfl | rfl | rfl | rfl | rfl | rfl | rfl | rfl | rfl | rfl | rfl | rfl | rfl | rfl := (by omega : i = 0 ∨ i = 1 ∨ i = 2 ∨ i = 3 ∨ i = 4 ∨ i = 5 ∨ i = 6 ∨ i = 7 ∨ i = 8 ∨ i = 9 ∨ i = 10 ∨ i = 11 ∨ i = 12 ∨ i = 13 ∨ i = 14 ∨ i = 15 ∨ i = 16 ∨ i = 17)
          · skip
            have n14 : L 14 = false := not_yet hL fun h => shut_at hs 14 0 (by kernel_rfl) (h)
            have n17 : L 17 = false := not_yet hL fun h => shut_at hs 17 0 (by kernel_rfl) (h)
            refine opIn_run (v := .pointer (some ⟨p, 0, none⟩)) (w' := WD) rfl rfl (fun c h => by cases h) (fun _ => trivial) ?_ ⟨by simp [Act.put, upd, n14, n17, hL], by simp [upd, n14, n17, hL]⟩
            simp only [n14, n17, hL, cond_true, cond_false]
            go_simp
          · skip
            have n17 : L 17 = false := not_yet hL fun h => shut_at hs 17 1 (by kernel_rfl) (h)
            cases h14 : L 14
            · skip
              refine opIn_run (v := .pointer (some ⟨p, 0, none⟩)) (w' := WD) rfl rfl (fun c h => by cases h) (fun _ => trivial) ?_ ⟨by simp [Act.put, upd, n17, h14, hL], by simp [upd, n17, h14, hL]⟩
              simp only [n17, h14, hL, cond_true, cond_false]
              go_simp
            · skip
              refine opIn_run (v := .pointer (some ⟨p, 0, none⟩)) (w' := WA) rfl rfl (fun c h => by cases h) (fun _ => trivial) ?_ ⟨by simp [Act.put, upd, n17, h14, hL], by simp [upd, n17, h14, hL]⟩
              simp only [n17, h14, hL, cond_true, cond_false]
              go_simp
          · skip
            have n14 : L 14 = false := not_yet hL fun h => shut_at hs 14 2 (by kernel_rfl) (h)
            have n17 : L 17 = false := not_yet hL fun h => shut_at hs 17 2 (by kernel_rfl) (h)
            refine opIn_run (v := .pointer (some ⟨p, 0, none⟩)) (w' := WD) rfl rfl (fun c h => by cases h) (fun _ => trivial) ?_ ⟨by simp [Act.put, upd, n14, n17, hL], by simp [upd, n14, n17, hL]⟩
            simp only [n14, n17, hL, cond_true, cond_false]
            go_simp
          · skip
            have y2 : L 2 = true := up_at hu 2 (by kernel_rfl)
            have n14 : L 14 = false := not_yet hL fun h => shut_at hs 14 3 (by kernel_rfl) (h)
            have n17 : L 17 = false := not_yet hL fun h => shut_at hs 17 3 (by kernel_rfl) (h)
            refine opIn_run (v := .pointer (some ⟨p, 0, none⟩)) (w' := WD) rfl rfl (fun c h => by cases h) (fun _ => trivial) ?_ ⟨by simp [Act.put, upd, y2, n14, n17, hL], by simp [upd, y2, n14, n17, hL]⟩
            simp only [y2, n14, n17, hL, cond_true, cond_false]
            go_simp
          · skip
            have y2 : L 2 = true := shut_at hs 3 2 (by kernel_rfl) (up_at hu 3 (by kernel_rfl))
            have y3 : L 3 = true := up_at hu 3 (by kernel_rfl)
            have n14 : L 14 = false := not_yet hL fun h => shut_at hs 14 4 (by kernel_rfl) (h)
            have n17 : L 17 = false := not_yet hL fun h => shut_at hs 17 4 (by kernel_rfl) (h)
            refine opIn_run (v := .pointer (some ⟨p, 0, none⟩)) (w' := WD) rfl rfl (fun c h => by cases h) (fun _ => trivial) ?_ ⟨by simp [Act.put, upd, y2, y3, n14, n17, hL], by simp [upd, y2, y3, n14, n17, hL]⟩
            simp only [y2, y3, n14, n17, hL, cond_true, cond_false]
            go_simp
          · skip
            have y2 : L 2 = true := shut_at hs 3 2 (by kernel_rfl) (shut_at hs 4 3 (by kernel_rfl) (up_at hu 4 (by kernel_rfl)))
            have y3 : L 3 = true := shut_at hs 4 3 (by kernel_rfl) (up_at hu 4 (by kernel_rfl))
            have y4 : L 4 = true := up_at hu 4 (by kernel_rfl)
            have n14 : L 14 = false := not_yet hL fun h => shut_at hs 14 5 (by kernel_rfl) (h)
            have n17 : L 17 = false := not_yet hL fun h => shut_at hs 17 5 (by kernel_rfl) (h)
            refine opIn_run (v := .int .i64 (a9 : Int)) (w' := WD) rfl rfl (fun c h => by cases h) (fun _ => trivial) ?_ ⟨by simp [Act.put, upd, y2, y3, y4, n14, n17, hL], by simp [upd, y2, y3, y4, n14, n17, hL]⟩
            simp only [y2, y3, y4, n14, n17, hL, cond_true, cond_false]
            go_simp
          · skip
            have y2 : L 2 = true := shut_at hs 3 2 (by kernel_rfl) (shut_at hs 4 3 (by kernel_rfl) (shut_at hs 5 4 (by kernel_rfl) (up_at hu 5 (by kernel_rfl))))
            have y3 : L 3 = true := shut_at hs 4 3 (by kernel_rfl) (shut_at hs 5 4 (by kernel_rfl) (up_at hu 5 (by kernel_rfl)))
            have y4 : L 4 = true := shut_at hs 5 4 (by kernel_rfl) (up_at hu 5 (by kernel_rfl))
            have y5 : L 5 = true := up_at hu 5 (by kernel_rfl)
            have n14 : L 14 = false := not_yet hL fun h => shut_at hs 14 6 (by kernel_rfl) (h)
            have n17 : L 17 = false := not_yet hL fun h => shut_at hs 17 6 (by kernel_rfl) (h)
            refine opIn_run (v := .int .i64 (A2 : Int)) (w' := WD) rfl rfl (fun c h => by cases h) (fun _ => trivial) ?_ ⟨by simp [Act.put, upd, y2, y3, y4, y5, n14, n17, hL], by simp [upd, y2, y3, y4, y5, n14, n17, hL]⟩
            simp only [y2, y3, y4, y5, n14, n17, hL, cond_true, cond_false]
            go_simp
          · skip
            have n14 : L 14 = false := not_yet hL fun h => shut_at hs 8 7 (by kernel_rfl) (shut_at hs 9 8 (by kernel_rfl) (shut_at hs 10 9 (by kernel_rfl) (shut_at hs 14 10 (by kernel_rfl) (h))))
            have n17 : L 17 = false := not_yet hL fun h => shut_at hs 17 7 (by kernel_rfl) (h)
            refine opIn_run (v := .pointer (some ⟨p, 0, none⟩)) (w' := WD) rfl rfl (fun c h => by cases h) (fun _ => trivial) ?_ ⟨by simp [Act.put, upd, n14, n17, hL], by simp [upd, n14, n17, hL]⟩
            simp only [n14, n17, hL, cond_true, cond_false]
            go_simp
          · skip
            have y7 : L 7 = true := up_at hu 7 (by kernel_rfl)
            have n14 : L 14 = false := not_yet hL fun h => shut_at hs 9 8 (by kernel_rfl) (shut_at hs 10 9 (by kernel_rfl) (shut_at hs 14 10 (by kernel_rfl) (h)))
            have n17 : L 17 = false := not_yet hL fun h => shut_at hs 17 8 (by kernel_rfl) (h)
            refine opIn_run (v := .pointer (some ⟨p, 0, none⟩)) (w' := WD) rfl rfl (fun c h => by cases h) (fun _ => trivial) ?_ ⟨by simp [Act.put, upd, y7, n14, n17, hL], by simp [upd, y7, n14, n17, hL]⟩
            simp only [y7, n14, n17, hL, cond_true, cond_false]
            go_simp
          · skip
            have y7 : L 7 = true := shut_at hs 8 7 (by kernel_rfl) (up_at hu 8 (by kernel_rfl))
            have y8 : L 8 = true := up_at hu 8 (by kernel_rfl)
            have n14 : L 14 = false := not_yet hL fun h => shut_at hs 10 9 (by kernel_rfl) (shut_at hs 14 10 (by kernel_rfl) (h))
            have n17 : L 17 = false := not_yet hL fun h => shut_at hs 17 9 (by kernel_rfl) (h)
            refine opIn_run (v := .pointer (some ⟨p, 1, none⟩)) (w' := WD) rfl rfl (fun c h => by cases h) (fun _ => trivial) ?_ ⟨by simp [Act.put, upd, y7, y8, n14, n17, hL], by simp [upd, y7, y8, n14, n17, hL]⟩
            simp only [y7, y8, n14, n17, hL, cond_true, cond_false]
            go_simp
          · skip
            have y7 : L 7 = true := shut_at hs 8 7 (by kernel_rfl) (shut_at hs 9 8 (by kernel_rfl) (up_at hu 9 (by kernel_rfl)))
            have y8 : L 8 = true := shut_at hs 9 8 (by kernel_rfl) (up_at hu 9 (by kernel_rfl))
            have y9 : L 9 = true := up_at hu 9 (by kernel_rfl)
            have n14 : L 14 = false := not_yet hL fun h => shut_at hs 14 10 (by kernel_rfl) (h)
            have n17 : L 17 = false := not_yet hL fun h => shut_at hs 17 10 (by kernel_rfl) (h)
            refine opIn_run (v := .int .i64 (c9 : Int)) (w' := WD) rfl rfl (fun c h => by cases h) (fun _ => trivial) ?_ ⟨by simp [Act.put, upd, y7, y8, y9, n14, n17, hL], by simp [upd, y7, y8, y9, n14, n17, hL]⟩
            simp only [y7, y8, y9, n14, n17, hL, cond_true, cond_false]
            go_simp
          · skip
            have y7 : L 7 = true := shut_at hs 8 7 (by kernel_rfl) (shut_at hs 9 8 (by kernel_rfl) (shut_at hs 10 9 (by kernel_rfl) (up_at hu 10 (by kernel_rfl))))
            have y8 : L 8 = true := shut_at hs 9 8 (by kernel_rfl) (shut_at hs 10 9 (by kernel_rfl) (up_at hu 10 (by kernel_rfl)))
            have y9 : L 9 = true := shut_at hs 10 9 (by kernel_rfl) (up_at hu 10 (by kernel_rfl))
            have y10 : L 10 = true := up_at hu 10 (by kernel_rfl)
            have n17 : L 17 = false := not_yet hL fun h => shut_at hs 17 11 (by kernel_rfl) (h)
            cases h14 : L 14
            · skip
              refine opIn_run (v := .int .i64 (C2 : Int)) (w' := WD) rfl rfl (fun c h => by cases h) (fun _ => trivial) ?_ ⟨by simp [Act.put, upd, y7, y8, y9, y10, n17, h14, hL], by simp [upd, y7, y8, y9, y10, n17, h14, hL]⟩
              simp only [y7, y8, y9, y10, n17, h14, hL, cond_true, cond_false]
              go_simp
            · skip
              refine opIn_run (v := .int .i64 (C2 : Int)) (w' := WA) rfl rfl (fun c h => by cases h) (fun _ => trivial) ?_ ⟨by simp [Act.put, upd, y7, y8, y9, y10, n17, h14, hL], by simp [upd, y7, y8, y9, y10, n17, h14, hL]⟩
              simp only [y7, y8, y9, y10, n17, h14, hL, cond_true, cond_false]
              go_simp
          · skip
            have y0 : L 0 = true := up_at hu 0 (by kernel_rfl)
            have y2 : L 2 = true := up_at hu 2 (by kernel_rfl)
            have y3 : L 3 = true := up_at hu 3 (by kernel_rfl)
            have y4 : L 4 = true := up_at hu 4 (by kernel_rfl)
            have y5 : L 5 = true := up_at hu 5 (by kernel_rfl)
            have y6 : L 6 = true := up_at hu 6 (by kernel_rfl)
            have y7 : L 7 = true := shut_at hs 8 7 (by kernel_rfl) (shut_at hs 9 8 (by kernel_rfl) (shut_at hs 10 9 (by kernel_rfl) (up_at hu 10 (by kernel_rfl))))
            have y8 : L 8 = true := shut_at hs 9 8 (by kernel_rfl) (shut_at hs 10 9 (by kernel_rfl) (up_at hu 10 (by kernel_rfl)))
            have y9 : L 9 = true := shut_at hs 10 9 (by kernel_rfl) (up_at hu 10 (by kernel_rfl))
            have y10 : L 10 = true := up_at hu 10 (by kernel_rfl)
            have n14 : L 14 = false := not_yet hL fun h => shut_at hs 13 12 (by kernel_rfl) (shut_at hs 14 13 (by kernel_rfl) (h))
            have n17 : L 17 = false := not_yet hL fun h => shut_at hs 17 12 (by kernel_rfl) (h)
            refine opIn_run (v := .pointer (some ⟨p, 0, none⟩)) (w' := WD) rfl rfl (fun c h => by cases h) (fun _ => trivial) ?_ ⟨by simp [Act.put, upd, y0, y2, y3, y4, y5, y6, y7, y8, y9, y10, n14, n17, hL], by simp [upd, y0, y2, y3, y4, y5, y6, y7, y8, y9, y10, n14, n17, hL]⟩
            simp only [y0, y2, y3, y4, y5, y6, y7, y8, y9, y10, n14, n17, hL, cond_true, cond_false]
            go_simp
          · skip
            have y0 : L 0 = true := up_at hu 0 (by kernel_rfl)
            have y2 : L 2 = true := up_at hu 2 (by kernel_rfl)
            have y3 : L 3 = true := up_at hu 3 (by kernel_rfl)
            have y4 : L 4 = true := up_at hu 4 (by kernel_rfl)
            have y5 : L 5 = true := up_at hu 5 (by kernel_rfl)
            have y6 : L 6 = true := up_at hu 6 (by kernel_rfl)
            have y7 : L 7 = true := shut_at hs 8 7 (by kernel_rfl) (shut_at hs 9 8 (by kernel_rfl) (shut_at hs 10 9 (by kernel_rfl) (up_at hu 10 (by kernel_rfl))))
            have y8 : L 8 = true := shut_at hs 9 8 (by kernel_rfl) (shut_at hs 10 9 (by kernel_rfl) (up_at hu 10 (by kernel_rfl)))
            have y9 : L 9 = true := shut_at hs 10 9 (by kernel_rfl) (up_at hu 10 (by kernel_rfl))
            have y10 : L 10 = true := up_at hu 10 (by kernel_rfl)
            have y12 : L 12 = true := up_at hu 12 (by kernel_rfl)
            have n14 : L 14 = false := not_yet hL fun h => shut_at hs 14 13 (by kernel_rfl) (h)
            have n17 : L 17 = false := not_yet hL fun h => shut_at hs 17 13 (by kernel_rfl) (h)
            refine opIn_run (v := .pointer (some ⟨p, 0, none⟩)) (w' := WD) rfl rfl (fun c h => by cases h) (fun _ => trivial) ?_ ⟨by simp [Act.put, upd, y0, y2, y3, y4, y5, y6, y7, y8, y9, y10, y12, n14, n17, hL], by simp [upd, y0, y2, y3, y4, y5, y6, y7, y8, y9, y10, y12, n14, n17, hL]⟩
            simp only [y0, y2, y3, y4, y5, y6, y7, y8, y9, y10, y12, n14, n17, hL, cond_true, cond_false]
            go_simp
          · skip
            have y0 : L 0 = true := up_at hu 0 (by kernel_rfl)
            have y2 : L 2 = true := up_at hu 2 (by kernel_rfl)
            have y3 : L 3 = true := up_at hu 3 (by kernel_rfl)
            have y4 : L 4 = true := up_at hu 4 (by kernel_rfl)
            have y5 : L 5 = true := up_at hu 5 (by kernel_rfl)
            have y6 : L 6 = true := up_at hu 6 (by kernel_rfl)
            have y7 : L 7 = true := shut_at hs 8 7 (by kernel_rfl) (shut_at hs 9 8 (by kernel_rfl) (shut_at hs 10 9 (by kernel_rfl) (up_at hu 10 (by kernel_rfl))))
            have y8 : L 8 = true := shut_at hs 9 8 (by kernel_rfl) (shut_at hs 10 9 (by kernel_rfl) (up_at hu 10 (by kernel_rfl)))
            have y9 : L 9 = true := shut_at hs 10 9 (by kernel_rfl) (up_at hu 10 (by kernel_rfl))
            have y10 : L 10 = true := up_at hu 10 (by kernel_rfl)
            have y12 : L 12 = true := shut_at hs 13 12 (by kernel_rfl) (up_at hu 13 (by kernel_rfl))
            have y13 : L 13 = true := up_at hu 13 (by kernel_rfl)
            have n17 : L 17 = false := not_yet hL fun h => shut_at hs 17 14 (by kernel_rfl) (h)
            refine opIn_skip (w' := WA) rfl rfl (fun c h => by cases h) (fun _ => trivial) ?_ ⟨by simp [Act.put, upd, y0, y2, y3, y4, y5, y6, y7, y8, y9, y10, y12, y13, n17, hL], by simp [upd, y0, y2, y3, y4, y5, y6, y7, y8, y9, y10, y12, y13, n17, hL]⟩
            simp only [y0, y2, y3, y4, y5, y6, y7, y8, y9, y10, y12, y13, n17, hL, cond_true, cond_false]
            go_simp
          · skip
            have y0 : L 0 = true := up_at hu 0 (by kernel_rfl)
            have y1 : L 1 = true := up_at hu 1 (by kernel_rfl)
            have y2 : L 2 = true := up_at hu 2 (by kernel_rfl)
            have y3 : L 3 = true := up_at hu 3 (by kernel_rfl)
            have y4 : L 4 = true := up_at hu 4 (by kernel_rfl)
            have y5 : L 5 = true := up_at hu 5 (by kernel_rfl)
            have y6 : L 6 = true := up_at hu 6 (by kernel_rfl)
            have y7 : L 7 = true := up_at hu 7 (by kernel_rfl)
            have y8 : L 8 = true := up_at hu 8 (by kernel_rfl)
            have y9 : L 9 = true := up_at hu 9 (by kernel_rfl)
            have y10 : L 10 = true := up_at hu 10 (by kernel_rfl)
            have y11 : L 11 = true := up_at hu 11 (by kernel_rfl)
            have y12 : L 12 = true := up_at hu 12 (by kernel_rfl)
            have y13 : L 13 = true := up_at hu 13 (by kernel_rfl)
            have y14 : L 14 = true := up_at hu 14 (by kernel_rfl)
            have n17 : L 17 = false := not_yet hL fun h => shut_at hs 16 15 (by kernel_rfl) (shut_at hs 17 16 (by kernel_rfl) (h))
            refine opIn_run (v := .pointer (some ⟨p, 0, none⟩)) (w' := WA) rfl rfl (fun c h => by cases h) (fun _ => trivial) ?_ ⟨by simp [Act.put, upd, y0, y1, y2, y3, y4, y5, y6, y7, y8, y9, y10, y11, y12, y13, y14, n17, hL], by simp [upd, y0, y1, y2, y3, y4, y5, y6, y7, y8, y9, y10, y11, y12, y13, y14, n17, hL]⟩
            simp only [y0, y1, y2, y3, y4, y5, y6, y7, y8, y9, y10, y11, y12, y13, y14, n17, hL, cond_true, cond_false]
            go_simp
          · skip
            have y0 : L 0 = true := up_at hu 0 (by kernel_rfl)
            have y1 : L 1 = true := up_at hu 1 (by kernel_rfl)
            have y2 : L 2 = true := up_at hu 2 (by kernel_rfl)
            have y3 : L 3 = true := up_at hu 3 (by kernel_rfl)
            have y4 : L 4 = true := up_at hu 4 (by kernel_rfl)
            have y5 : L 5 = true := up_at hu 5 (by kernel_rfl)
            have y6 : L 6 = true := up_at hu 6 (by kernel_rfl)
            have y7 : L 7 = true := up_at hu 7 (by kernel_rfl)
            have y8 : L 8 = true := up_at hu 8 (by kernel_rfl)
            have y9 : L 9 = true := up_at hu 9 (by kernel_rfl)
            have y10 : L 10 = true := up_at hu 10 (by kernel_rfl)
            have y11 : L 11 = true := up_at hu 11 (by kernel_rfl)
            have y12 : L 12 = true := up_at hu 12 (by kernel_rfl)
            have y13 : L 13 = true := up_at hu 13 (by kernel_rfl)
            have y14 : L 14 = true := up_at hu 14 (by kernel_rfl)
            have y15 : L 15 = true := up_at hu 15 (by kernel_rfl)
            have n17 : L 17 = false := not_yet hL fun h => shut_at hs 17 16 (by kernel_rfl) (h)
            refine opIn_run (v := .pointer (some ⟨p, 1, none⟩)) (w' := WA) rfl rfl (fun c h => by cases h) (fun _ => trivial) ?_ ⟨by simp [Act.put, upd, y0, y1, y2, y3, y4, y5, y6, y7, y8, y9, y10, y11, y12, y13, y14, y15, n17, hL], by simp [upd, y0, y1, y2, y3, y4, y5, y6, y7, y8, y9, y10, y11, y12, y13, y14, y15, n17, hL]⟩
            simp only [y0, y1, y2, y3, y4, y5, y6, y7, y8, y9, y10, y11, y12, y13, y14, y15, n17, hL, cond_true, cond_false]
            go_simp
          · skip
            have y0 : L 0 = true := up_at hu 0 (by kernel_rfl)
            have y1 : L 1 = true := up_at hu 1 (by kernel_rfl)
            have y2 : L 2 = true := up_at hu 2 (by kernel_rfl)
            have y3 : L 3 = true := up_at hu 3 (by kernel_rfl)
            have y4 : L 4 = true := up_at hu 4 (by kernel_rfl)
            have y5 : L 5 = true := up_at hu 5 (by kernel_rfl)
            have y6 : L 6 = true := up_at hu 6 (by kernel_rfl)
            have y7 : L 7 = true := up_at hu 7 (by kernel_rfl)
            have y8 : L 8 = true := up_at hu 8 (by kernel_rfl)
            have y9 : L 9 = true := up_at hu 9 (by kernel_rfl)
            have y10 : L 10 = true := up_at hu 10 (by kernel_rfl)
            have y11 : L 11 = true := up_at hu 11 (by kernel_rfl)
            have y12 : L 12 = true := up_at hu 12 (by kernel_rfl)
            have y13 : L 13 = true := up_at hu 13 (by kernel_rfl)
            have y14 : L 14 = true := up_at hu 14 (by kernel_rfl)
            have y15 : L 15 = true := shut_at hs 16 15 (by kernel_rfl) (up_at hu 16 (by kernel_rfl))
            have y16 : L 16 = true := up_at hu 16 (by kernel_rfl)
            refine opIn_skip (w' := WC) rfl rfl (fun c h => by cases h) (fun _ => trivial) ?_ ⟨by simp [Act.put, upd, y0, y1, y2, y3, y4, y5, y6, y7, y8, y9, y10, y11, y12, y13, y14, y15, y16, hL], by simp [upd, y0, y1, y2, y3, y4, y5, y6, y7, y8, y9, y10, y11, y12, y13, y14, y15, y16, hL]⟩
            simp only [y0, y1, y2, y3, y4, y5, y6, y7, y8, y9, y10, y11, y12, y13, y14, y15, y16, hL, cond_true, cond_false]
            go_simp
        case finl17 =>
          intro L a' w' hall hI
          obtain ⟨rfl, rfl⟩ := hI
          have l0 := hall 0 (by decide)
          have l1 := hall 1 (by decide)
          have l2 := hall 2 (by decide)
          have l3 := hall 3 (by decide)
          have l4 := hall 4 (by decide)
          have l5 := hall 5 (by decide)
          have l6 := hall 6 (by decide)
          have l7 := hall 7 (by decide)
          have l8 := hall 8 (by decide)
          have l9 := hall 9 (by decide)
          have l10 := hall 10 (by decide)
          have l11 := hall 11 (by decide)
          have l12 := hall 12 (by decide)
          have l13 := hall 13 (by decide)
          have l14 := hall 14 (by decide)
          have l15 := hall 15 (by decide)
          have l16 := hall 16 (by decide)
          have l17 := hall 17 (by decide)
          simp only [l0, l1, l2, l3, l4, l5, l6, l7, l8, l9, l10, l11, l12, l13, l14, l15, l16, l17, cond_true]
          clear l0 l1 l2 l3 l4 l5 l6 l7 l8 l9 l10 l11 l12 l13 l14 l15 l16 l17 hall
          clear p0 p1 z0 p1a z1a hWD hWA hWC ha2 hc2 HWD HWA
          have p0 := HWC.out.1.c0
          have p2 := HWC.out.1.c2
          have z2 := HWC.out.1.z 2
          simp only at p0 p2
          obtain ⟨T9, hT9⟩ : ∃ T9, ct9 - 1 = T9 := ⟨_, rfl⟩
          have htw : (ct9 : Int) - 1 = (T9 : Int) := by omega
          have HT9 := Lib.hid hT9
          clear hT9
          obtain ⟨WT, hWT⟩ : ∃ WT, WC.setCell ⟨p, 2, none⟩ (.int .i64 (T9 : Int)) = WT := ⟨_, rfl⟩
          have HWT : Hid (RW P WT p ⟨A2, C2, T9, pre9, last9⟩ ∧ Rc WT q SC ∧ Only (EC P q) w WT) := Lib.hid (by rw [← hWT]; exact ⟨HWC.out.1.setT T9, HWC.out.2.1.keep (Below.heap_setCell _ _ _ _ hqp), HWC.out.2.2.setCell (p := ⟨p, 2, none⟩) (.inl HWC.out.1.p) _⟩)
          have t0 := HWT.out.1.c2
          simp only at t0
          have hdb : (⟨A2, C2, T9, pre9, last9⟩ : E) = mDbl ⟨a9, c9, ct9, pre9, last9⟩ := by rw [← HA2.out.1, ← HA2.out.2, ← HT9.out]; rfl
          have HDB := Lib.hid hdb
          have hid := HGD.out.toInv.dbl HGD.out.ct0 (by show a9 < 32768; omega)
          rw [← hdb] at hid
          have HID := Lib.hid hid
          have FIN : Hid (∀ W2, RW P W2 p (mTick ⟨a9, c9, ct9, pre9, last9⟩) → Rc W2 q SC → Only (EC P q) w W2 → (∃ e, Hid (RW P W2 p e ∧ Rc W2 q SC ∧ Only (EC P q) w W2) ∧ Hid ((e.a < 32768 ∧ ∃ n, Good e ∧ 32768 ≤ e.a * 2 ^ n ∧ mNorm n e = SE ∧ e.pre.length + n ≤ 90000) ∨ (32768 ≤ e.a ∧ e = SE))) ∧ rOf p W2 < rOf p wr) := Lib.hid (fun W2 h1 h2 h3 => by
            obtain ⟨hn9, hnm⟩ := HNM.out
            have hta := mTick_a ⟨a9, c9, ct9, pre9, last9⟩
            simp only at hta
            obtain ⟨m, rfl⟩ : ∃ m, n9 = m + 1 := ⟨n9 - 1, by rcases n9 with _ | n9 <;> omega⟩
            unfold mNorm at hnm
            refine ⟨⟨_, Lib.hid ⟨h1, h2, h3⟩, Lib.hid ?_⟩, by rw [h1.rOf, HMES.out, hta]; simp only; omega⟩
            by_cases h1 : 32768 ≤ (mTick ⟨a9, c9, ct9, pre9, last9⟩).a
            · rw [if_pos h1] at hnm
              exact .inr ⟨h1, hnm⟩
            · rw [if_neg (by omega)] at hnm
              refine .inl ⟨by omega, m, HGD.out.tick (by show a9 < 32768; omega), ?_, hnm, by have := mTick_len ⟨a9, c9, ct9, pre9, last9⟩; simp only at this; omega⟩
              rw [hta, Nat.mul_assoc, Nat.mul_left_comm, ← Nat.mul_assoc]
              rw [Nat.pow_succ] at hn9
              have : a9 * 2 * 2 ^ m = a9 * (2 ^ m * 2) := by rw [Nat.mul_assoc, Nat.mul_comm 2]
              omega)
          clear hdb hid HWC
          by_cases hct : T9 = 0
          · have htk : mTick ⟨a9, c9, ct9, pre9, last9⟩ = mPut ⟨A2, C2, T9, pre9, last9⟩ := by unfold mTick; rw [← HDB.out]; exact if_pos hct
            have PU := Lib.hid (rput_any HWT.out.1 HID.out.c28 HID.out.l1 (by show pre9.length ≤ 90000; omega) (fun k hk => HALL.out.2.2.2 k (Nat.le_trans HWT.out.2.2.size hk)))
            rw [← htk] at PU
            have e0 : ((T9 : Int) == 0) = true := by simp; omega
            clear hct htk
            go_wp2_with fail
            refine PU.out.mono ?_
            rintro x W9 ⟨rfl, hr9, ho9⟩
            have X := FIN.out W9 hr9 (HWT.out.2.1.only ho9 HALL.out.2.2.1) (HWT.out.2.2.trans (ho9.mono fun k hk => .inl hk))
            have HXX := Lib.hid X
            clear X hr9 ho9 PU
            go_wp2
            exact ⟨HXX.out.1, HXX.out.2⟩
          · have htk : mTick ⟨a9, c9, ct9, pre9, last9⟩ = ⟨A2, C2, T9, pre9, last9⟩ := by unfold mTick; rw [← HDB.out]; exact if_neg hct
            have X := FIN.out WT (by rw [htk]; exact HWT.out.1) HWT.out.2.1 HWT.out.2.2
            have HXX := Lib.hid X
            have e0 : ((T9 : Int) == 0) = false := by simp; omega
            clear X hct htk
            go_wp2
            exact ⟨HXX.out.1, HXX.out.2⟩

end Go.Proofs.YtdgkeghgfibolaaDoor
