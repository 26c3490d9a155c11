/- Packets in order: the iterator over a resolution's precincts. -/
import Derived.Test.YtejoedanhonpkaaOrA
import Derived.Test.YtejoedanhonpkaaCvM4
import Derived.RangeFuncNested
import Derived.RangeFuncBound
import Derived.RangeFuncCalls
import Derived.Shelf.RegionOpen
import Derived.Maps.OwnIn
import Derived.IntWalk
import Derived.RangeFuncBox
import Derived.RangeFuncLeaves
import Derived.Shelf.Abstract
import Derived.OwnWalkIn
import Derived.TacticsInMore
import Derived.LoopNIn
import Derived.LoopIn
import Derived.StillTailTactics
set_option linter.unusedVariables false
set_option linter.unusedSimpArgs false
namespace Go.Proofs.Ytejoedanhonpkaa
open Go.RowKit Go.Shelf
set_option maxRecDepth 100000
attribute [local go_sem] Oper.semAt_some
theorem grown_of_below {W W' : World} (h : Below W.heap.size W W') : W.grownBy W' none := ⟨h.os, h.tape, h.output, h.size, fun k hk _ => h.block k hk⟩
/-- Where a precinct stands. -/
def spotF (x q d n sd : Int) (m : Nat) : Int := maxJ x ((q / n + (m : Int)) * d * sd)
theorem precincts_any (T R C P : Array Value) (r : Int) (w : World) : Calls Try.prog 42 #[.agg T, .agg R, .agg C, .agg P, .int .i64 r] w fun e w' =>
    e = .returned (.func (.func 52) #[] #[.pointer (some ⟨w.heap.size + 3, 0, none⟩), .pointer (some ⟨w.heap.size + 4, 0, none⟩), .pointer (some ⟨w.heap.size + 1, 0, none⟩), .pointer (some ⟨w.heap.size, 0, none⟩), .pointer (some ⟨w.heap.size + 2, 0, none⟩)]) ∧
      w' = ((((w.alloc (.cells T 38)).alloc (.cells R 38)).alloc (.cells C 48)).alloc (.cells P 30)).alloc (.cells #[.int .i64 r] 3) := by
  go_enter Try.func42, Try.ntmps42
  go_wp2
  go_ret
  exact ⟨rfl, rfl⟩
/-- What the iterator reads. -/
structure Five (W : World) (b : Nat) (x0 y0 x1 y1 : Int) (q : Int × Int × Int × Int) (dp dx dy : Int) (sg : Bool) (D : Value) (P : Array Value) (res : Int) : Prop where
  t : W.heap[b]? = some (.cells #[.int .i64 x0, .int .i64 y0, .int .i64 x1, .int .i64 y1] 38 (0, 0))
  r : W.heap[b + 1]? = some (.cells #[.int .i64 q.1, .int .i64 q.2.1, .int .i64 q.2.2.1, .int .i64 q.2.2.2] 38 (0, 0))
  c : W.heap[b + 2]? = some (.cells #[.int .i64 dp, .bool sg, .int .i64 dx, .int .i64 dy, D] 48 (0, 0))
  p : W.heap[b + 3]? = some (.cells P 30 (0, 0))
  s : W.heap[b + 4]? = some (.cells #[.int .i64 res] 3 (0, 0))
def Keep5 (b : Nat) (W W' : World) : Prop := ∀ j, j < 5 → W'.heap[b + j]? = W.heap[b + j]?
theorem Keep5.trans {b : Nat} {A B C : World} (h : Keep5 b A B) (k : Keep5 b B C) : Keep5 b A C := fun j hj => (k j hj).trans (h j hj)
theorem Five.keep {W W' : World} {b : Nat} {x0 y0 x1 y1 : Int} {q : Int × Int × Int × Int} {dp dx dy : Int} {sg : Bool} {D : Value} {P : Array Value} {res : Int} (h : Five W b x0 y0 x1 y1 q dp dx dy sg D P res) (k : Keep5 b W W') : Five W' b x0 y0 x1 y1 q dp dx dy sg D P res :=
  ⟨(k 0 (by omega)).trans h.t, (k 1 (by omega)).trans h.r, (k 2 (by omega)).trans h.c, (k 3 (by omega)).trans h.p, (k 4 (by omega)).trans h.s⟩
theorem Five.size {W : World} {b : Nat} {x0 y0 x1 y1 : Int} {q : Int × Int × Int × Int} {dp dx dy : Int} {sg : Bool} {D : Value} {P : Array Value} {res : Int} (h : Five W b x0 y0 x1 y1 q dp dx dy sg D P res) : b + 5 ≤ W.heap.size := by
  have := (Array.getElem?_eq_some_iff.1 h.s).1; omega
theorem keep5_below {W W' : World} {b B : Nat} (h : Below B W W') (hb : b + 5 ≤ B) : Keep5 b W W' := fun j hj => h.block _ (by omega)
def pkAt (x0 y0 : Int) (q : Int × Int × Int × Int) (dx dy n sd : Int) (wd : Nat) (res : Int) (k : Nat) : Pk := ⟨0, res, 0, (k : Int), spotF y0 q.2.1 dy n sd (k / wd), spotF x0 q.1 dx n sd (k % wd)⟩
@[reducible] def parA (tx ty lv bw bh pr st od ly : Int) (rc so ep : Bool) : Array Value := #[.int .i64 tx, .int .i64 ty, .int .i64 lv, .int .i64 bw, .int .i64 bh, .int .i64 pr, .int .i64 st, .int .i64 od, .int .i64 ly, .bool rc, .bool so, .bool ep]
theorem rc4 {W : World} {b : Nat} {a c d e : Value} {t : TypeId} (h : W.heap[b]? = some (.cells #[a, c, d, e] t (0, 0))) : W.cell? ⟨b, 0, none⟩ = some a ∧ W.cell? ⟨b, 1, none⟩ = some c ∧ W.cell? ⟨b, 2, none⟩ = some d ∧ W.cell? ⟨b, 3, none⟩ = some e := by
  simp [World.cell?, h]
theorem blkc {w : World} {p : Nat} {cs : Array Value} {t : TypeId} (h : w.heap[p]? = some (.cells cs t (0, 0))) (i : Nat) : w.cell? ⟨p, i, none⟩ = cs[i]? := cell_of_row w p i cs t (0, 0) h
theorem blk_set6 {w : World} {p : Nat} {cs : Array Value} {t : TypeId} (h : w.heap[p]? = some (.cells cs t (0, 0))) (i : Nat) (v : Value) : (w.setCell ⟨p, i, none⟩ v).heap[p]? = some (.cells (cs.setIfInBounds i v) t (0, 0)) := by
  obtain ⟨hlt, hk⟩ := Array.getElem?_eq_some_iff.1 h
  show (w.heap.modify p _)[p]? = _
  rw [Array.getElem?_eq_getElem (by rw [Array.size_modify]; exact hlt), Array.getElem_modify_self, hk]
  rfl
set_option maxHeartbeats 4000000 in
theorem precincts1_in (n : Nat) (hn : 3 ≤ n) (l b : Nat) (x0 y0 x1 y1 : Int) (q : Int × Int × Int × Int) (dp dx dy : Int) (sg : Bool) (D : Value) (tx ty bw bh st od ly : Int) (rc so ep : Bool) (LV PR RS : Nat) (wd ht : Nat)
    (hx : 0 ≤ x0 ∧ x0 ≤ 255) (hy : 0 ≤ y0 ∧ y0 ≤ 255) (hq : inN q 255) (hd : 1 ≤ dx ∧ dx ≤ 4) (hd' : 1 ≤ dy ∧ dy ≤ 4) (hlv : LV ≤ 5) (hpr : 1 ≤ PR ∧ PR ≤ 15) (hrs : RS ≤ LV) (hpc : pcF q ((2 ^ PR : Nat) : Int) = ((wd : Int), (ht : Int))) (hw : wd ≤ 255) (hh : ht ≤ 255)
    (J Jx : List Pk → World → Prop)
    (hg : ∀ pre A A', J pre A → A.grownBy A' none → J pre A')
    (hY : ∀ pre x A, J pre A → pre.length < wd * ht → YieldAt Fence.wide (n - 1) Try.prog l #[x.val] A fun e A' =>
      (e = .returned (.bool true) ∧ J (pre ++ [x]) A' ∧ Keep5 b A A') ∨ (e = .returned (.bool false) ∧ Jx (pre ++ [x]) A'))
    (W : World) (h5 : Five W b x0 y0 x1 y1 q dp dx dy sg D (parA tx ty (LV : Int) bw bh (PR : Int) st od ly rc so ep) (RS : Int)) (h0 : J [] W) :
    CallsIn Fence.wide n Try.prog 52 #[.func (.yield l) #[] #[], .pointer (some ⟨b + 3, 0, none⟩), .pointer (some ⟨b + 4, 0, none⟩), .pointer (some ⟨b + 1, 0, none⟩), .pointer (some ⟨b, 0, none⟩), .pointer (some ⟨b + 2, 0, none⟩)] W fun e W' => (∃ v, e = .returned v) ∧
      ((∃ ys, ys = (List.range (wd * ht)).map (pkAt x0 y0 q dx dy ((2 ^ PR : Nat) : Int) ((2 ^ (PR + LV - RS) : Nat) : Int) wd RS) ∧ J ys W') ∨ (∃ pre, True ∧ Jx pre W')) := by
  have h1 : 1 ≤ n := by omega
  obtain ⟨q0, q1, q2, q3⟩ := q
  obtain ⟨hq0, hq1, hq2, hq3⟩ := hq
  simp only at hq0 hq1 hq2 hq3
  have PC := Lib.hid (fun u => prec_any (q0, q1, q2, q3) PR u ⟨by dsimp only; omega, by dsimp only; omega, by dsimp only; omega, by dsimp only; omega⟩ (by omega))
  rw [hpc] at PC
  unfold rA at PC
  simp only at PC
  obtain ⟨SD, hSD⟩ : ∃ SD : Nat, PR + LV - RS = SD := ⟨_, rfl⟩
  obtain ⟨P, hP⟩ : ∃ P : Int, (PR : Int) = P := ⟨_, rfl⟩
  obtain ⟨V, hV⟩ : ∃ P : Int, (LV : Int) = P := ⟨_, rfl⟩
  obtain ⟨R, hR⟩ : ∃ P : Int, (RS : Int) = P := ⟨_, rfl⟩
  obtain ⟨S, hS⟩ : ∃ P : Int, (SD : Int) = P := ⟨_, rfl⟩
  obtain ⟨wI, hwI⟩ : ∃ P : Int, (wd : Int) = P := ⟨_, rfl⟩
  obtain ⟨hI, hhI⟩ : ∃ P : Int, (ht : Int) = P := ⟨_, rfl⟩
  have s1 : wrap64 (P + V) = P + V := IntWalk.wrap64_in _ (by omega)
  have s2 : wrap64 (P + V - R) = S := by rw [IntWalk.wrap64_in _ (by omega)]; omega
  have hmul : wd * ht ≤ 255 * 255 := Nat.mul_le_mul hw hh
  have s3 : wrap64 (wI * hI) = ((wd * ht : Nat) : Int) := by rw [← hwI, ← hhI, ← Int.natCast_mul]; exact IntWalk.wrap64_in _ (by omega)
  obtain ⟨N, hN⟩ : ∃ N : Nat, wd * ht = N := ⟨_, rfl⟩
  rw [hP, hwI, hhI] at PC
  rw [hV, hP, hR] at h5
  rw [hN] at s3 hmul hY ⊢
  rw [hSD, hR]
  have H5 := Lib.hid h5
  have HY := Lib.hid hY
  have HG := Lib.hid hg
  have HC := Lib.hid (And.intro hP (And.intro hV (And.intro hR (And.intro hS (And.intro hwI (And.intro hhI (And.intro hSD hN)))))))
  obtain ⟨gt, gr, gc, gp, gs⟩ := h5
  have c5 : W.cell? ⟨b + 3, 5, none⟩ = some (.int .i64 P) := by simp [World.cell?, gp]
  have c2 : W.cell? ⟨b + 3, 2, none⟩ = some (.int .i64 V) := by simp [World.cell?, gp]
  have cs : W.cell? ⟨b + 4, 0, none⟩ = some (.int .i64 R) := by simp [World.cell?, gs]
  obtain ⟨r0, r1, r2, r3⟩ := rc4 gr
  clear gt gr gc gp gs hY hg hP hV hR hS hwI hhI hSD hN hpc
  have hF1 : Fence.wide.fn 53 := trivial
  refine callsIn_of_wp Try.func52 rfl trivial ?_ rfl
  simp only [Try.ntmps52, List.size_toArray, List.length_cons, List.length_nil, Nat.reduceAdd, Nat.reduceSub, Array.replicate_succ, Array.replicate_zero, List.push_toArray, List.append_toArray, List.nil_append, List.cons_append]
  gi_wp2_with (gi_at_call 53; refine (callsIn_wide.2 (PC.out _)).mono ?_; rintro e w1 ⟨rfl, hb1⟩)
  rw [s3]
  have H6 := Lib.hid (H5.out.keep (keep5_below hb1 H5.out.size))
  have HJ0 := Lib.hid (HG.out [] _ _ h0 (grown_of_below hb1))
  have hNI : (0 : Int) ≤ (N : Int) ∧ (N : Int) ≤ 65025 := by omega
  clear c5 c2 cs r0 r1 r2 r3 h0 hb1 PC H5 s1 s2 s3 hmul
  gi_loopw [10, 11, 29] (fun v10 v11 v29 wr => ∃ m : Nat, m ≤ N ∧ v29 = .int .i64 (m : Int) ∧ Hid (J ((List.range m).map (pkAt x0 y0 (q0, q1, q2, q3) dx dy ((2 ^ PR : Nat) : Int) ((2 ^ SD : Nat) : Int) wd R)) wr) ∧ Hid (Five wr b x0 y0 x1 y1 (q0, q1, q2, q3) dp dx dy sg D (parA tx ty V bw bh P st od ly rc so ep) R))
    (fun v10 v11 v29 _ => ((N : Int) - intOf v29).toNat)
  case atStart => exact ⟨0, by omega, by simp, HJ0, H6⟩
  case round =>
    obtain ⟨m, hm, rfl, HJ, HB⟩ := hrel
    clear HJ0 H6
    by_cases hlt : m < N
    · have hml : (m : Int) < (N : Int) := by omega
      obtain ⟨gt, gr, gc, gp, gs⟩ := HB.out
      have cs : wr.cell? ⟨b + 4, 0, none⟩ = some (.int .i64 R) := by simp [World.cell?, gs]
      clear gt gr gc gp gs
      have hwp : 0 < wd := by
        rcases Nat.eq_zero_or_pos wd with h | h
        · exfalso; have := HC.out.2.2.2.2.2.2.2; rw [h, Nat.zero_mul] at this; omega
        · exact h
      obtain ⟨a, ha⟩ : ∃ a, m % wd = a := ⟨_, rfl⟩
      obtain ⟨d, hd0⟩ : ∃ d, m / wd = d := ⟨_, rfl⟩
      have hal : a < wd := by rw [← ha]; exact Nat.mod_lt _ hwp
      have hdl : d < ht := by rw [← hd0]; exact Nat.div_lt_of_lt_mul (by have := HC.out.2.2.2.2.2.2.2; omega)
      obtain ⟨n2, hn2⟩ : ∃ N : Int, ((2 ^ PR : Nat) : Int) = N := ⟨_, rfl⟩
      obtain ⟨k2, hk2⟩ : ∃ N : Int, ((2 ^ SD : Nat) : Int) = N := ⟨_, rfl⟩
      have hnb := pow16 PR (by omega)
      have hkb : 1 ≤ k2 ∧ k2 ≤ 1048576 := by
        rw [← hk2]
        have h1 : SD ≤ 20 := by have := HC.out.2.2.2.2.2.2.1; omega
        have h2 : 2 ^ SD ≤ 2 ^ 20 := Nat.pow_le_pow_right (by omega) h1
        have h3 : 0 < 2 ^ SD := Nat.pow_pos (by omega)
        have h4 : (2 : Nat) ^ 20 = 1048576 := by decide
        omega
      rw [hn2] at hnb
      have hp2 : (2 : Int) ^ P.toNat = n2 := by rw [← hn2, ← HC.out.1, Int.toNat_natCast]; simp
      have hs2 : (2 : Int) ^ S.toNat = k2 := by rw [← hk2, ← HC.out.2.2.2.1, Int.toNat_natCast]; simp
      obtain ⟨i0, hi0⟩ : ∃ i, q0 / n2 = i := ⟨_, rfl⟩
      obtain ⟨j0, hj0⟩ : ∃ i, q1 / n2 = i := ⟨_, rfl⟩
      have hi0b : 0 ≤ i0 ∧ i0 ≤ 255 := by
        have h1 : 0 ≤ q0 / n2 := Int.ediv_nonneg (by omega) (by omega)
        have h2 : q0 / n2 ≤ q0 := Int.ediv_le_self _ (by omega)
        omega
      have hj0b : 0 ≤ j0 ∧ j0 ≤ 255 := by
        have h1 : 0 ≤ q1 / n2 := Int.ediv_nonneg (by omega) (by omega)
        have h2 : q1 / n2 ≤ q1 := Int.ediv_le_self _ (by omega)
        omega
      obtain ⟨e0, he0⟩ : ∃ e, i0 + (a : Int) = e := ⟨_, rfl⟩
      obtain ⟨e1, he1⟩ : ∃ e, j0 + (d : Int) = e := ⟨_, rfl⟩
      have he0b : 0 ≤ e0 ∧ e0 ≤ 510 := by omega
      have he1b : 0 ≤ e1 ∧ e1 ≤ 510 := by omega
      have f0b : 0 ≤ e0 * dx ∧ e0 * dx ≤ 510 * 4 := ⟨Int.mul_nonneg he0b.1 (by omega), Int.mul_le_mul he0b.2 hd.2 (by omega) (by omega)⟩
      have f1b : 0 ≤ e1 * dy ∧ e1 * dy ≤ 510 * 4 := ⟨Int.mul_nonneg he1b.1 (by omega), Int.mul_le_mul he1b.2 hd'.2 (by omega) (by omega)⟩
      obtain ⟨f0, hf0⟩ : ∃ f, e0 * dx = f := ⟨_, rfl⟩
      obtain ⟨f1, hf1⟩ : ∃ f, e1 * dy = f := ⟨_, rfl⟩
      rw [hf0] at f0b
      rw [hf1] at f1b
      have g0b : 0 ≤ f0 * k2 ∧ f0 * k2 ≤ 2040 * 1048576 := ⟨Int.mul_nonneg f0b.1 (by omega), Int.mul_le_mul (by omega) hkb.2 (by omega) (by omega)⟩
      have g1b : 0 ≤ f1 * k2 ∧ f1 * k2 ≤ 2040 * 1048576 := ⟨Int.mul_nonneg f1b.1 (by omega), Int.mul_le_mul (by omega) hkb.2 (by omega) (by omega)⟩
      obtain ⟨g0, hg0⟩ : ∃ f, f0 * k2 = f := ⟨_, rfl⟩
      obtain ⟨g1, hg1⟩ : ∃ f, f1 * k2 = f := ⟨_, rfl⟩
      rw [hg0] at g0b
      rw [hg1] at g1b
      obtain ⟨AC, hAC⟩ : ∃ A : Int, (if x0 < g0 then g0 else x0) = A := ⟨_, rfl⟩
      obtain ⟨DN, hDN⟩ : ∃ A : Int, (if y0 < g1 then g1 else y0) = A := ⟨_, rfl⟩
      have HPK : Hid (pkAt x0 y0 (q0, q1, q2, q3) dx dy n2 k2 wd R m = ⟨0, R, 0, (m : Int), DN, AC⟩) := Lib.hid (by
        unfold pkAt spotF maxJ
        dsimp only
        rw [ha, hd0, hi0, hj0, he0, he1, hf0, hf1, hg0, hg1, hAC, hDN])
      have HV : Hid (q0 / 2 ^ P.toNat = i0 ∧ q1 / 2 ^ P.toNat = j0 ∧ (m : Int).tmod wI = (a : Int) ∧ (m : Int).tdiv wI = (d : Int)) := Lib.hid (by
        refine ⟨by rw [hp2, hi0], by rw [hp2, hj0], ?_, ?_⟩
        · rw [← HC.out.2.2.2.2.1, Int.tmod_eq_emod_of_nonneg (by omega), ← ha]; rfl
        · rw [← HC.out.2.2.2.2.1, Int.tdiv_eq_ediv_of_nonneg (by omega), ← hd0]; rfl)
      have HS : Hid (IntKind.i64.wrap i0 = i0 ∧ IntKind.i64.wrap j0 = j0 ∧ IntKind.i64.wrap (a : Int) = (a : Int) ∧ IntKind.i64.wrap (d : Int) = (d : Int) ∧ IntKind.i64.wrap (i0 + (a : Int)) = e0 ∧ IntKind.i64.wrap (j0 + (d : Int)) = e1 ∧ IntKind.i64.wrap (e0 * dx) = f0 ∧ IntKind.i64.wrap (e1 * dy) = f1 ∧ IntKind.i64.wrap (f0 * 2 ^ S.toNat) = g0 ∧ IntKind.i64.wrap (f1 * 2 ^ S.toNat) = g1) := Lib.hid (by
        rw [hs2, hg0, hg1, hf0, hf1, he0, he1]
        exact ⟨IntWalk.i64_in _ (by omega), IntWalk.i64_in _ (by omega), IntWalk.i64_in _ (by omega), IntWalk.i64_in _ (by omega), IntWalk.i64_in _ (by omega), IntWalk.i64_in _ (by omega), IntWalk.i64_in _ (by omega), IntWalk.i64_in _ (by omega), IntWalk.i64_in _ (by omega), IntWalk.i64_in _ (by omega)⟩)
      have hwI : ¬ wI = 0 := by have := HC.out.2.2.2.2.1; omega
      have hPS : 0 ≤ P ∧ 0 ≤ S ∧ P ≤ 15 ∧ S ≤ 20 := by
        have h1 := HC.out.1
        have h2 := HC.out.2.2.2.1
        have h3 := HC.out.2.2.2.2.2.2.1
        omega
      have HPK2 : Hid (pkAt x0 y0 (q0, q1, q2, q3) dx dy ((2 ^ PR : Nat) : Int) ((2 ^ SD : Nat) : Int) wd R m = ⟨0, R, 0, (m : Int), DN, AC⟩) := Lib.hid (by rw [hn2, hk2]; exact HPK.out)
      clear HPK ha hd0 hn2 hk2 hp2 hs2 hi0 hj0 he0 he1 hf0 hf1 hg0 hg1 hnb hkb
      have HAC := Lib.hid hAC
      have HDN := Lib.hid hDN
      clear hAC hDN
      gi_wp2_with fail
      obtain ⟨X, hX⟩ : ∃ X, wr.alloc (Obj.cells #[.int .i64 0, .int .i64 R, .int .i64 0, .int .i64 (m : Int), .int .i64 0, .int .i64 0] 66) = X := ⟨_, rfl⟩
      have hbX : Below wr.heap.size wr X := by rw [← hX]; exact (Below.refl _ _).alloc (Nat.le_refl _) _
      have hzX : X.heap[wr.heap.size]? = some (.cells #[.int .i64 0, .int .i64 R, .int .i64 0, .int .i64 (m : Int), .int .i64 0, .int .i64 0] 66 (0, 0)) := by rw [← hX]; exact World.alloc_heap_new wr _
      rw [hX]
      clear hX cs
      obtain ⟨z, hz⟩ : ∃ z, wr.heap.size = z := ⟨_, rfl⟩
      rw [hz] at hbX hzX ⊢
      have HZ := Lib.hid hz
      have hsz5 := HB.out.size
      rw [hz] at hsz5
      clear hz
      have HB2 := HB.out.keep (keep5_below hbX hsz5)
      have HBX := Lib.hid hbX
      have HZX := Lib.hid hzX
      have HB3 := Lib.hid HB2
      obtain ⟨gt, gr, gc, gp, gs⟩ := HB2
      obtain ⟨t0, t1, _, _⟩ := rc4 gt
      obtain ⟨r0, r1, _, _⟩ := rc4 gr
      have c5 : X.cell? ⟨b + 3, 5, none⟩ = some (.int .i64 P) := blkc gp 5
      have cx : X.cell? ⟨b + 2, 2, none⟩ = some (.int .i64 dx) := blkc gc 2
      have z5 : X.cell? ⟨z, 5, none⟩ = some (.int .i64 0) := blkc hzX 5
      have zf : X.frozen? ⟨z, 5, none⟩ = false := by simp [World.frozen?, hzX]
      clear gt gr gc gp gs hbX hzX
      refine (wpIn_wide (n := n)).2 ?_
      have u1 := HV.out.1
      have u2 := HV.out.2.2.1
      have u3 := HS.out.1
      have u4 := HS.out.2.2.1
      have u5 := HS.out.2.2.2.2.1
      have u6 := HS.out.2.2.2.2.2.2.1
      have u7 := HS.out.2.2.2.2.2.2.2.2.1
      have u8 := HAC.out
      refine wp_region_still_tail 17 (by kernel_rfl) (by kernel_rfl) ?_
      simp only [List.take_succ_cons, List.take_zero, List.drop_succ_cons, List.drop_zero]
      repeat still_step
      refine wpStill_nil ?_
      change wpList _ _ _ _ _ X.drew
      clear u1 u2 u3 u4 u5 u6 u7 u8 t0 t1 r0 r1 c5 cx
      go_wp2_with fail
      obtain ⟨Y, hY⟩ : ∃ Y, (X.setCell ⟨z, 5, none⟩ (.int .i64 AC)).drew = Y := ⟨_, rfl⟩
      have hbY : Below z wr Y := by rw [← hY]; exact below_drewN (HBX.out.setCell (p := ⟨z, 5, none⟩) (Nat.le_refl _) _) 1
      have hzY : Y.heap[z]? = some (.cells #[.int .i64 0, .int .i64 R, .int .i64 0, .int .i64 (m : Int), .int .i64 0, .int .i64 AC] 66 (0, 0)) := by rw [← hY]; exact blk_set6 HZX.out 5 _
      rw [hY]
      clear hY HBX HZX HB3 z5 zf
      have HB2 := HB.out.keep (keep5_below hbY hsz5)
      have HB3 := Lib.hid HB2
      obtain ⟨gt, gr, gc, gp, gs⟩ := HB2
      have HBY := Lib.hid hbY
      have HZY := Lib.hid hzY
      obtain ⟨t0, t1, _, _⟩ := rc4 gt
      obtain ⟨r0, r1, _, _⟩ := rc4 gr
      have c5 : Y.cell? ⟨b + 3, 5, none⟩ = some (.int .i64 P) := blkc gp 5
      have cx : Y.cell? ⟨b + 2, 3, none⟩ = some (.int .i64 dy) := blkc gc 3
      have z5 : Y.cell? ⟨z, 4, none⟩ = some (.int .i64 0) := blkc hzY 4
      have zf : Y.frozen? ⟨z, 4, none⟩ = false := by simp [World.frozen?, hzY]
      clear gt gr gc gp gs hbY hzY
      gi_wp2_with fail
      refine (wpIn_wide (n := n)).2 ?_
      have u1 := HV.out.2.1
      have u2 := HV.out.2.2.2
      have u3 := HS.out.2.1
      have u4 := HS.out.2.2.2.1
      have u5 := HS.out.2.2.2.2.2.1
      have u6 := HS.out.2.2.2.2.2.2.2.1
      have u7 := HS.out.2.2.2.2.2.2.2.2.2
      have u8 := HDN.out
      refine wp_region_still_tail 17 (by kernel_rfl) (by kernel_rfl) ?_
      simp only [List.take_succ_cons, List.take_zero, List.drop_succ_cons, List.drop_zero]
      repeat still_step
      refine wpStill_nil ?_
      change wpList _ _ _ _ _ Y.drew
      clear u1 u2 u3 u4 u5 u6 u7 u8 t0 t1 r0 r1 c5 cx
      go_wp2_with fail
      obtain ⟨Z, hZ⟩ : ∃ Z, (Y.setCell ⟨z, 4, none⟩ (.int .i64 DN)).drew = Z := ⟨_, rfl⟩
      have hbZ : Below z wr Z := by rw [← hZ]; exact below_drewN (HBY.out.setCell (p := ⟨z, 4, none⟩) (Nat.le_refl _) _) 1
      have hzZ : Z.heap[z]? = some (.cells #[.int .i64 0, .int .i64 R, .int .i64 0, .int .i64 (m : Int), .int .i64 DN, .int .i64 AC] 66 (0, 0)) := by rw [← hZ]; exact blk_set6 HZY.out 4 _
      rw [hZ]
      clear hZ HBY HZY HB3 z5 zf HV HS HAC HDN
      have HB4 := Lib.hid (HB.out.keep (keep5_below hbZ hsz5))
      have k0 : Z.cell? ⟨z, 0, none⟩ = some (.int .i64 0) := blkc hzZ 0
      have k1 : Z.cell? ⟨z, 1, none⟩ = some (.int .i64 R) := blkc hzZ 1
      have k2' : Z.cell? ⟨z, 2, none⟩ = some (.int .i64 0) := blkc hzZ 2
      have k3 : Z.cell? ⟨z, 3, none⟩ = some (.int .i64 (m : Int)) := blkc hzZ 3
      have k4 : Z.cell? ⟨z, 4, none⟩ = some (.int .i64 DN) := blkc hzZ 4
      have k5 : Z.cell? ⟨z, 5, none⟩ = some (.int .i64 AC) := blkc hzZ 5
      have hJZ := HG.out _ _ _ HJ.out (grown_of_below (by rw [HZ.out]; exact hbZ))
      obtain ⟨fn, tmps, assign, body, hy2, hR⟩ := HY.out _ ⟨0, R, 0, (m : Int), DN, AC⟩ Z hJZ (by rw [List.length_map, List.length_range]; exact hlt)
      dsimp only [Pk.val] at hy2
      clear hJZ hzZ
      gi_wp2
      refine hR.mono ?_
      rintro e W3 (⟨rfl, hJ3, hk3⟩ | ⟨rfl, hJx3⟩)
      · have HB5 := Lib.hid (HB4.out.keep hk3)
        have HJ5 : Hid (J ((List.range (m + 1)).map (pkAt x0 y0 (q0, q1, q2, q3) dx dy ((2 ^ PR : Nat) : Int) ((2 ^ SD : Nat) : Int) wd R)) W3) := Lib.hid (by
          rw [List.range_succ, List.map_append, List.map_singleton, HPK2.out]
          exact hJ3)
        clear hk3 k0 k1 k2' k3 k4 k5 hJ3
        gi_wp2
        go_roundw
        case rel => exact ⟨m + 1, by omega, by push_cast; go_num, HJ5, HB5⟩
        case measure => simp [intOf]; omega
      · gi_wp2
        refine bodyPost_ret (results_none rfl _ _ _) rfl ?_
        exact ⟨⟨_, rfl⟩, .inr ⟨_, trivial, hJx3⟩⟩
    · obtain rfl : m = N := by omega
      gi_wp2
      go_end0
      exact ⟨⟨_, rfl⟩, .inl ⟨_, rfl, HJ.out⟩⟩
theorem precincts_sub (n : Nat) (hn : 3 ≤ n) (b : Nat) (x0 y0 x1 y1 : Int) (q : Int × Int × Int × Int) (dp dx dy : Int) (sg : Bool) (D : Value) (tx ty bw bh st od ly : Int) (rc so ep : Bool) (LV PR RS : Nat) (wd ht : Nat)
    (hx : 0 ≤ x0 ∧ x0 ≤ 255) (hy : 0 ≤ y0 ∧ y0 ≤ 255) (hq : inN q 255) (hd : 1 ≤ dx ∧ dx ≤ 4) (hd' : 1 ≤ dy ∧ dy ≤ 4) (hlv : LV ≤ 5) (hpr : 1 ≤ PR ∧ PR ≤ 15) (hrs : RS ≤ LV) (hpc : pcF q ((2 ^ PR : Nat) : Int) = ((wd : Int), (ht : Int))) (hw : wd ≤ 255) (hh : ht ≤ 255)
    (w : World) (h5 : Five w b x0 y0 x1 y1 q dp dx dy sg D (parA tx ty (LV : Int) bw bh (PR : Int) st od ly rc so ep) (RS : Int)) :
    SeqStopsK Fence.wide n Try.prog 52 #[.pointer (some ⟨b + 3, 0, none⟩), .pointer (some ⟨b + 4, 0, none⟩), .pointer (some ⟨b + 1, 0, none⟩), .pointer (some ⟨b, 0, none⟩), .pointer (some ⟨b + 2, 0, none⟩)] (fun x : Pk => #[x.val]) (Keep5 b)
      (fun ys => ys = (List.range (wd * ht)).map (pkAt x0 y0 q dx dy ((2 ^ PR : Nat) : Int) ((2 ^ (PR + LV - RS) : Nat) : Int) wd RS)) (fun _ => True) (wd * ht) w := fun l J Jx W hW hJ _ hY h0 =>
  precincts1_in n hn l b x0 y0 x1 y1 q dp dx dy sg D tx ty bw bh st od ly rc so ep LV PR RS wd ht hx hy hq hd hd' hlv hpr hrs hpc hw hh J Jx (fun pre A A' h hg => hJ pre A A' none h hg (fun r e => by cases e)) hY W (h5.keep (keep5_below hW h5.size)) h0
end Go.Proofs.Ytejoedanhonpkaa
