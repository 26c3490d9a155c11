/- Split and Join of package lift, by their contracts. -/
import Derived.Test.YtgadebfelomhpaaLiftBeside
import Derived.Laws.EntriesVeiled
set_option linter.unusedVariables false
namespace Go.Proofs.Ytgadebfelomhpaa
open Go.RowKit

def hP (x s : Int) : Int := x - s / 2
def hU (x s : Int) : Int := x + (s + 2) / 4
def hV (x s : Int) : Int := x - (s + 2) / 4
def hQ (x s : Int) : Int := x + s / 2
/-- The row of n samples r, split from a place of parity e. -/
def lowF (e n : Nat) (r : Nat → Int) : Nat → Int := passF hU e n (passF hP (1 - e) n r)
def splitL (e n : Nat) (r : Nat → Int) : List Int := ranged (fun j => lowF e n r (e + 2 * j)) ((n + 1 - e) / 2) ++ ranged (fun j => lowF e n r (1 - e + 2 * j)) ((n + 1 - (1 - e)) / 2)
theorem split_len {e n : Nat} (r : Nat → Int) (he : e ≤ 1) : (splitL e n r).length = n := by
  unfold splitL
  rw [List.length_append, ranged_len, ranged_len]
  omega
theorem pass_bd {h : Int → Int → Int} {s n : Nat} {r : Nat → Int} {K K' : Int} (hn : 2 ≤ n) (hr : ∀ i, i < n → -K ≤ r i ∧ r i ≤ K) (hk : K ≤ K') (hh : ∀ x a b, -K ≤ x ∧ x ≤ K → -K ≤ a ∧ a ≤ K → -K ≤ b ∧ b ≤ K → -K' ≤ h x (a + b) ∧ h x (a + b) ≤ K') : ∀ i, i < n → -K' ≤ passF h s n r i ∧ passF h s n r i ≤ K' := by
  intro i hi
  unfold passF
  split
  · rename_i hp
    exact hh _ _ _ (hr i hi) (hr _ (lo_par hn hp hi).1) (hr _ (hi_par hn hp hi).1)
  · have := hr i hi; omega

theorem hmk0 (u : World) (q : Nat) (hq : q ≤ 1000) : (Instr.makeSlice 24 (.int .i64 0) (.int .i64 (q : Int))).run Try.prog u = .ok (.slice (some ⟨u.heap.size, 0, none⟩) 0 q) (u.alloc (.cells (madeCells #[.int .i64 0] q) 3)) := by
  obtain ⟨i, hi, hzz⟩ := Option.map_eq_some_iff.1 Try.info3
  simp only [Prod.mk.injEq] at hzz
  obtain ⟨hz, hs, hb⟩ := hzz
  have hr := run_make (P := Try.prog) u 24 3 i (.int .i64 0) Try.underlying24 hi hz .i64 .i64 0 q (Int.le_refl _) (by omega) (by rw [hb]; omega) (by omega)
  simp only [Int.toNat_zero, Int.toNat_natCast, hs, Nat.mul_one] at hr
  exact hr
theorem hmkn (u : World) (q : Nat) (hq : q ≤ 1000) : (Instr.makeSlice 24 (.int .i64 (q : Int)) (.int .i64 (q : Int))).run Try.prog u = .ok (.slice (some ⟨u.heap.size, 0, none⟩) q q) (u.alloc (.cells (madeCells #[.int .i64 0] q) 3)) :=
  run_make_row' 24 3 (.int .i64 0) 8 Try.underlying24 Try.info3 rfl .i64 .i64 q (by omega) (by omega) u

set_option maxHeartbeats 4000000 in
theorem split_any {A : Option Addr} {n c : Nat} {l : List Int} {w : World} (a : Int) (e : Nat) (h : RowI w A n c l) (ha : 0 ≤ a) (he : a % 2 = e) (hn : 2 ≤ n) (hn2 : n ≤ 1000) (hr : ∀ i, i < n → -1073741824 ≤ l.getD i 0 ∧ l.getD i 0 ≤ 1073741824) :
    Calls Try.prog 37 #[.int .i64 a, .slice A n c] w fun r w' => ∃ A' c', r = .returned (.slice A' n c') ∧ RowO w.heap.size w' A' n c' (splitL e n fun i => l.getD i 0) ∧ Below w.heap.size w w' := by
  have e1 : e ≤ 1 := by omega
  obtain ⟨o, ho⟩ : ∃ o, o + e = 1 := ⟨1 - e, by omega⟩
  have o1 : o ≤ 1 := by omega
  obtain ⟨r, hrr⟩ : ∃ r : Nat → Int, (fun i => l.getD i 0) = r := ⟨_, rfl⟩
  have hr' : ∀ i, i < n → -1073741824 ≤ r i ∧ r i ≤ 1073741824 := fun i hi => by rw [← hrr]; exact hr i hi
  have hlr : l = ranged r n := by rw [← hrr]; exact (ranged_of l n h.1).symm
  rw [hrr]
  clear hrr hr
  have R0 := Lib.hid hr'
  have b1 := pass_bd (s := o) (K' := 2147483649) hn hr' (by omega) (h := hP) (fun x a b hx ha hb => by unfold hP; omega)
  have R1 := Lib.hid b1
  have H := Lib.hid h
  have hm0 := fun u => hmk0 u n hn2
  clear h hr' b1
  go_enter Try.func37, Try.ntmps37
  go_wp2_with fail
  refine (clone_int H.out hn2).mono ?_
  rintro e' w1 ⟨v, rfl, hown, B1⟩
  rw [hlr] at hown
  obtain ⟨g, cap, rfl, hg, hgl, _⟩ := own_form hown (by omega)
  have c2 : ¬ (n : Int) < 2 := by omega
  go_wp2_with fail
  refine (beside_any g n cap w1 (by omega) hn2).mono ?_
  rintro e' w2 ⟨pl, pb, rfl, hpl, hpb, f1, f2, B2⟩
  have hplw := World.block_lt_of_cell? w2 _ f1
  have hpbw := World.block_lt_of_cell? w2 _ f2
  change pl < w2.heap.size at hplw
  change pb < w2.heap.size at hpbw
  have hown2 : w2.ownsRow w.heap.size 3 1 (.slice (some ⟨g, 0, none⟩) n cap) n ((ranged r n).map (Value.int .i64)) := by
    refine hown.kept (row := none) ⟨B2.os, B2.tape, B2.output, B2.size, fun k hk _ => B2.block k hk⟩ (Or.inr (by simp [Value.ownBlock]))
  have B12 := B1.trans (B2.mono B1.size)
  have henv : Env (w2.alloc (Obj.cells #[(Value.func (.func 57) #[] #[.pointer (some ⟨pl, 0, none⟩), .pointer (some ⟨pb, 0, none⟩)])] 59)) w2.heap.size pl pb g n cap := by
    refine ⟨by rw [World.cell?_alloc_new]; rfl, ?_, ?_⟩
    · rw [World.cell?_alloc_past _ _ _ hplw]; exact f1
    · rw [World.cell?_alloc_past _ _ _ hpbw]; exact f2
  have hown3 := hown2.alloc (Obj.cells #[(Value.func (.func 57) #[] #[.pointer (some ⟨pl, 0, none⟩), .pointer (some ⟨pb, 0, none⟩)])] 59)
  have B3 : Below w.heap.size w (w2.alloc (Obj.cells #[(Value.func (.func 57) #[] #[.pointer (some ⟨pl, 0, none⟩), .pointer (some ⟨pb, 0, none⟩)])] 59)) := B12.alloc B12.size _
  have HE := Lib.hid henv
  have HO := Lib.hid hown3
  have hq : w2.heap.size ≠ g := by have := B2.size; omega
  have hpg : pl ≠ g := by omega
  have hbg : pb ≠ g := by omega
  clear hown hown2 hown3 henv f1 f2 B1 B2 B12
  go_wp2_with fail
  generalize (w2.alloc (Obj.cells #[(Value.func (.func 57) #[] #[.pointer (some ⟨pl, 0, none⟩), .pointer (some ⟨pb, 0, none⟩)])] 59)) = w3 at *
  generalize w2.heap.size = q at *
  refine (starts_any a e o w3 ha he ho).mono ?_
  rintro e' w' ⟨rfl, rfl⟩
  go_wp2_with fail
  refine (pass_any 50 enters50 hP q pl pb g n cap o w.heap.size r w3 hn hn2 o1 HO.out HE.out hq hpg hbg (fun i hi => by have := R0.out i hi; omega) (fun i x a b w hi he ha hb rx ra rb => predict_any q pl pb g n cap i x a b w hn hn2 hi he ha hb rx ra rb)).mono ?_
  rintro e' w4 ⟨rfl, hown4, g4⟩
  have HE4 : Hid (Env w4 q pl pb g n cap) := ⟨g4.cell HE.out.1 (by simpa using hq), g4.cell HE.out.2.1 (by simpa using hpg), g4.cell HE.out.2.2 (by simpa using hbg)⟩
  have B4 := B3.grown g4 B3.size (by intro k hk; injection hk with hk; omega)
  have HO4 := Lib.hid hown4
  clear HE HO g4 hown4 B3
  go_wp2_with fail
  refine (pass_any 51 enters51 hU q pl pb g n cap e w.heap.size _ w4 hn hn2 e1 HO4.out HE4.out hq hpg hbg (fun i hi => by have := R1.out i hi; omega) (fun i x a b w hi he ha hb rx ra rb => update_any q pl pb g n cap i x a b w hn hn2 hi he ha hb rx ra rb)).mono ?_
  rintro e' w5 ⟨rfl, hown5, g5⟩
  have B5 := B4.grown g5 B4.size (by intro k hk; injection hk with hk; omega)
  have elow : passF hU e n (passF hP o n r) = lowF e n r := by unfold lowF; rw [show o = 1 - e from by omega]
  rw [elow] at hown5
  have HO5 := Lib.hid hown5
  have hg5 : g < w5.heap.size := (hown5.lt g rfl).2
  clear HE4 HO4 g5 B4 hown5 elow
  go_wp2_with fail
  obtain ⟨W, hW⟩ : ∃ W, (((w5.alloc (Obj.cells (madeCells #[Value.int IntKind.i64 0] n) 3)).alloc (Obj.cells #[Value.slice (some ⟨w5.heap.size, 0, none⟩) 0 n] 24)).alloc (Obj.cells #[Value.int IntKind.i64 (e : Int), Value.int IntKind.i64 (o : Int)] 3)) = W := ⟨_, rfl⟩
  have z1 : (w5.alloc (Obj.cells (madeCells #[Value.int IntKind.i64 0] n) 3)).heap.size = w5.heap.size + 1 := Array.size_push _
  have z2 : ((w5.alloc (Obj.cells (madeCells #[Value.int IntKind.i64 0] n) 3)).alloc (Obj.cells #[Value.slice (some ⟨w5.heap.size, 0, none⟩) 0 n] 24)).heap.size = w5.heap.size + 1 + 1 := by
    show Array.size (Array.push (Array.push w5.heap _) _) = _; rw [Array.size_push, Array.size_push]
  have z3 : W.heap.size = w5.heap.size + 1 + 1 + 1 := by
    rw [← hW]; show Array.size (Array.push (Array.push (Array.push w5.heap _) _) _) = _; rw [Array.size_push, Array.size_push, Array.size_push]
  have bx : Box W (w5.heap.size + 1) 24 (.slice (some ⟨w5.heap.size, 0, none⟩) 0 n) := by
    have := Box.new (w5.alloc (Obj.cells (madeCells #[Value.int IntKind.i64 0] n) 3)) 24 (.slice (some ⟨w5.heap.size, 0, none⟩) 0 n)
    rw [z1] at this
    rw [← hW]
    exact this.kept (World.grownBy_alloc _ _ none) (by simp)
  have ov : W.ownsRow w.heap.size 3 1 (.slice (some ⟨w5.heap.size, 0, none⟩) 0 n) ([] : List Int).length (([] : List Int).map (Value.int .i64)) := by
    rw [← hW]
    exact ((World.ownsRow_made w5 (madeCells #[Value.int IntKind.i64 0] n) n B5.size (by unfold maxLen; omega) (by rw [size_madeCells]; omega)).alloc _).alloc _
  have rw5 : W.ownsRow w.heap.size 3 1 (.slice (some ⟨g, 0, none⟩) n cap) n ((ranged (lowF e n r) n).map (Value.int .i64)) := by
    rw [← hW]; exact ((HO5.out.alloc _).alloc _).alloc _
  have BW : Below w.heap.size w W := by
    rw [← hW]; exact ((B5.alloc B5.size _).alloc (by rw [z1]; have := B5.size; omega) _).alloc (by rw [z2]; have := B5.size; omega) _
  have ce : W.cell? ⟨w5.heap.size + 1 + 1, 0, none⟩ = some (.int .i64 (e : Int)) := by
    rw [← hW, World.cell?_alloc_at _ _ _ _ z2.symm]; rfl
  have co : W.cell? ⟨w5.heap.size + 1 + 1, 1, none⟩ = some (.int .i64 (o : Int)) := by
    rw [← hW, World.cell?_alloc_at _ _ _ _ z2.symm]; rfl
  have hB5 := B5.size
  rw [hW]
  clear hW z1 z2 B5 HO5 hm0
  generalize w5.heap.size = z at *
  have P0 : Hid (Box W (z + 1) 24 (.slice (some ⟨z, 0, none⟩) 0 n) ∧ W.ownsRow w.heap.size 3 1 (.slice (some ⟨z, 0, none⟩) 0 n) ([] : List Int).length (([] : List Int).map (Value.int .i64)) ∧ W.ownsRow w.heap.size 3 1 (.slice (some ⟨g, 0, none⟩) n cap) n ((ranged (lowF e n r) n).map (Value.int .i64))) := ⟨bx, ov, rw5⟩
  clear bx ov rw5
  go_loopw [42] (fun i wr => ∃ (k : Nat) (acc : List Int) (V : Value), k ≤ 2 ∧ i = .int .i64 (k : Int) ∧ Box wr (z + 1) 24 V ∧ wr.ownsRow w.heap.size 3 1 V acc.length (acc.map (Value.int .i64)) ∧ V.ownBlock ≠ some g ∧
      wr.ownsRow w.heap.size 3 1 (.slice (some ⟨g, 0, none⟩) n cap) n ((ranged (lowF e n r) n).map (Value.int .i64)) ∧ Below w.heap.size w wr ∧ wr.heap[z + 1 + 1]? = W.heap[z + 1 + 1]? ∧ V.ownBlock ≠ some (z + 1 + 1) ∧ W.heap.size ≤ wr.heap.size ∧
      (k = 0 ∧ acc = [] ∨ k = 1 ∧ acc = ranged (fun j => lowF e n r (e + 2 * j)) ((n + 1 - e) / 2) ∨ k = 2 ∧ acc = splitL e n r)) (fun i _ => 2 - (intOf i).toNat)
  case atStart => exact ⟨0, [], _, by omega, rfl, P0.out.1, P0.out.2.1, by simp [Value.ownBlock]; omega, P0.out.2.2, BW, rfl, by simp [Value.ownBlock]; omega, Nat.le_refl _, Or.inl ⟨rfl, rfl⟩⟩
  case round =>
    obtain ⟨k, acc, V, hk2, rfl, hbx, hov, hVg, hrow, hB, hp, hVp, hsz, hcase⟩ := hrel
    have HX := Lib.hid (And.intro hbx (And.intro hov hrow))
    have ce' : wr.cell? ⟨z + 1 + 1, 0, none⟩ = some (.int .i64 (e : Int)) := (World.cell?_of_block (w := W) hp).trans ce
    have co' : wr.cell? ⟨z + 1 + 1, 1, none⟩ = some (.int .i64 (o : Int)) := (World.cell?_of_block (w := W) hp).trans co
    clear hbx hov hrow P0
    rcases hcase with ⟨rfl, rfl⟩ | ⟨rfl, rfl⟩ | ⟨rfl, rfl⟩
    · go_wp2_with fail
      refine (collect_any (z + 1) 0 g n cap e w.heap.size (lowF e n r) [] V wr hn2 e1 HX.out.1 HX.out.2.1 hVg (by omega) (by omega) (by simp) HX.out.2.2 hB.size (z + 1 + 1) (by omega) (by omega) hVp (by omega)).mono ?_
      rintro e' w6 ⟨rfl, V6, hx6, ho6, hVg6, hr6, hB6, hp6, hVp6⟩
      rw [List.nil_append] at ho6
      have Q := Lib.hid (And.intro hx6 (And.intro ho6 (And.intro hr6 (And.intro hp6 (And.intro hB hB6)))))
      clear hx6 ho6 hr6 hp6 hB6 hB HX ce' co'
      go_wp2
      go_roundw
      case rel => exact ⟨1, _, V6, by omega, by go_num, Q.out.1, Q.out.2.1, hVg6, Q.out.2.2.1, Q.out.2.2.2.2.1.trans Q.out.2.2.2.2.2, Q.out.2.2.2.1.trans hp, hVp6, Nat.le_trans hsz Q.out.2.2.2.2.2.size, Or.inr (Or.inl ⟨rfl, rfl⟩)⟩
      case measure => simp [intOf]
    · go_wp2_with fail
      refine (collect_any (z + 1) 0 g n cap o w.heap.size (lowF e n r) _ V wr hn2 o1 HX.out.1 HX.out.2.1 hVg (by omega) (by omega) (by rw [ranged_len]; omega) HX.out.2.2 hB.size (z + 1 + 1) (by omega) (by omega) hVp (by omega)).mono ?_
      rintro e' w6 ⟨rfl, V6, hx6, ho6, hVg6, hr6, hB6, hp6, hVp6⟩
      have eS : ranged (fun j => lowF e n r (e + 2 * j)) ((n + 1 - e) / 2) ++ ranged (fun j => lowF e n r (o + 2 * j)) ((n + 1 - o) / 2) = splitL e n r := by
        unfold splitL; rw [show o = 1 - e from by omega]
      rw [eS] at ho6
      have Q := Lib.hid (And.intro hx6 (And.intro ho6 (And.intro hr6 (And.intro hp6 (And.intro hB hB6)))))
      clear hx6 ho6 hr6 hp6 hB6 hB HX ce' co' eS
      go_wp2
      go_roundw
      case rel => exact ⟨2, _, V6, by omega, by go_num, Q.out.1, Q.out.2.1, hVg6, Q.out.2.2.1, Q.out.2.2.2.2.1.trans Q.out.2.2.2.2.2, Q.out.2.2.2.1.trans hp, hVp6, Nat.le_trans hsz Q.out.2.2.2.2.2.size, Or.inr (Or.inr ⟨rfl, rfl⟩)⟩
      case measure => simp [intOf]
    · have cq := HX.out.1.cell
      have hrw := HX.out.2.1
      obtain ⟨A', c', rfl, _⟩ := rowI_own HX.out.2.1
      rw [split_len r e1] at hrw cq
      clear HX
      go_wp2
      go_ret
      exact ⟨A', c', rfl, hrw, hB⟩
end Go.Proofs.Ytgadebfelomhpaa
