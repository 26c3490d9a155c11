/- Join of package lift, by its contract. -/
import Derived.Test.YtgadebfelomhpaaLiftSplit
set_option linter.unusedVariables false
namespace Go.Proofs.Ytgadebfelomhpaa
open Go.RowKit

/-- The row whose halves are l, laid, and joined. -/
def layF (e n : Nat) (l : List Int) (i : Nat) : Int := if i % 2 = e then l.getD (i / 2) 0 else l.getD ((n + 1 - e) / 2 + i / 2) 0
def joinF (e n : Nat) (l : List Int) : Nat → Int := passF hQ (1 - e) n (passF hV e n (layF e n l))
theorem lay_rng {e n : Nat} {l : List Int} {K : Int} (h : ∀ i, -K ≤ l.getD i 0 ∧ l.getD i 0 ≤ K) : ∀ i, -K ≤ layF e n l i ∧ layF e n l i ≤ K := fun i => by
  unfold layF; split <;> exact h _

set_option maxHeartbeats 4000000 in
theorem join_any {A : Option Addr} {n c : Nat} {l : List Int} {w : World} (a : Int) (e : Nat) (h : RowI w A n c l) (ha : 0 ≤ a) (he : a % 2 = e) (hn : 2 ≤ n) (hn2 : n ≤ 1000) (hr : ∀ i, -4294967296 ≤ l.getD i 0 ∧ l.getD i 0 ≤ 4294967296) :
    Calls Try.prog 43 #[.int .i64 a, .slice A n c] w fun r w' => ∃ A' c', r = .returned (.slice A' n c') ∧ RowO w.heap.size w' A' n c' (ranged (joinF e n l) n) ∧ Below w.heap.size w w' := by
  have e1 : e ≤ 1 := by omega
  obtain ⟨o, ho⟩ : ∃ o, o + e = 1 := ⟨1 - e, by omega⟩
  have o1 : o ≤ 1 := by omega
  have b0 := lay_rng (e := e) (n := n) hr
  have b1 := pass_bd (s := e) (n := n) (K' := 8589934593) hn (fun i _ => b0 i) (by omega) (h := hV) (fun x a b hx ha hb => by unfold hV; omega)
  have R0 := Lib.hid b0
  have R1 := Lib.hid b1
  have hcl : ∀ t, t < n → ∃ b o, A = some ⟨b, o, none⟩ ∧ b < w.heap.size ∧ w.cell? ⟨b, o + t, none⟩ = some (.int .i64 (l.getD t 0)) := fun t ht => h.cell ht
  have HC := Lib.hid hcl
  have hmn := fun u => hmkn u n hn2
  have c2 : ¬ (n : Int) < 2 := by omega
  clear h hr b0 b1 hcl
  go_enter Try.func43, Try.ntmps43
  go_wp2_with fail
  refine (starts_any a e o _ ha he ho).mono ?_
  rintro e' w' ⟨rfl, rfl⟩
  go_wp2_with fail
  obtain ⟨W, hW⟩ : ∃ W, ((((w.alloc (Obj.cells #[Value.slice A n c] 24)).alloc (Obj.cells (madeCells #[Value.int IntKind.i64 0] n) 3)).alloc (Obj.cells #[Value.int IntKind.i64 0] 3)).alloc (Obj.cells #[Value.int IntKind.i64 (e : Int), Value.int IntKind.i64 (o : Int)] 3)) = W := ⟨_, rfl⟩
  have z1 : (w.alloc (Obj.cells #[Value.slice A n c] 24)).heap.size = w.heap.size + 1 := Array.size_push _
  have z2 : ((w.alloc (Obj.cells #[Value.slice A n c] 24)).alloc (Obj.cells (madeCells #[Value.int IntKind.i64 0] n) 3)).heap.size = w.heap.size + 1 + 1 := by
    show Array.size (Array.push (Array.push w.heap _) _) = _; rw [Array.size_push, Array.size_push]
  have z3 : (((w.alloc (Obj.cells #[Value.slice A n c] 24)).alloc (Obj.cells (madeCells #[Value.int IntKind.i64 0] n) 3)).alloc (Obj.cells #[Value.int IntKind.i64 0] 3)).heap.size = w.heap.size + 1 + 1 + 1 := by
    show Array.size (Array.push (Array.push (Array.push w.heap _) _) _) = _; rw [Array.size_push, Array.size_push, Array.size_push]
  have z4 : W.heap.size = w.heap.size + 1 + 1 + 1 + 1 := by
    rw [← hW]; show Array.size (Array.push (Array.push (Array.push (Array.push w.heap _) _) _) _) = _; rw [Array.size_push, Array.size_push, Array.size_push, Array.size_push]
  have bx : Box W (w.heap.size + 1 + 1) 3 (.int .i64 ((0 : Nat) : Int)) := by
    have := Box.new ((w.alloc (Obj.cells #[Value.slice A n c] 24)).alloc (Obj.cells (madeCells #[Value.int IntKind.i64 0] n) 3)) 3 (.int .i64 ((0 : Nat) : Int))
    rw [z2] at this
    rw [← hW]
    exact this.kept (World.grownBy_alloc _ _ none) (by simp)
  have cv : W.cell? ⟨w.heap.size, 0, none⟩ = some (.slice A n c) := by
    rw [← hW, World.cell?_alloc_past _ _ _ (by rw [z3]; omega), World.cell?_alloc_past _ _ _ (by rw [z2]; omega), World.cell?_alloc_past _ _ _ (by rw [z1]; omega), World.cell?_alloc_new]; rfl
  have rw0 : W.ownsRow w.heap.size 3 1 (.slice (some ⟨w.heap.size + 1, 0, none⟩) n n) n ((ranged (fun _ => 0) n).map (Value.int .i64)) := by
    have h := World.ownsRow_lit (base := w.heap.size) (e := 3) (size := 1) (w.alloc (Obj.cells #[Value.slice A n c] 24)) (madeCells #[Value.int IntKind.i64 0] n) n (by rw [z1]; omega) (by unfold maxLen; omega) (by rw [size_madeCells]; omega)
    rw [toList_madeCells_one, z1] at h
    have e : List.replicate n (Value.int .i64 0) = (ranged (fun _ => (0 : Int)) n).map (Value.int .i64) := by
      unfold ranged; rw [List.map_map]
      apply List.ext_getElem?
      intro i
      rw [List.getElem?_map]
      rcases Nat.lt_or_ge i n with hi | hi
      · rw [List.getElem?_replicate_of_lt hi, List.getElem?_range hi]; rfl
      · rw [List.getElem?_eq_none (by simpa using hi), List.getElem?_eq_none (by simpa using hi)]; rfl
    rw [e] at h
    rw [← hW]; exact (h.alloc _).alloc _
  have BW : Below w.heap.size w W := by
    rw [← hW]; exact ((((Below.refl _ _).alloc (Nat.le_refl _) _).alloc (by rw [z1]; omega) _).alloc (by rw [z2]; omega) _).alloc (by rw [z3]; omega) _
  have ce : W.cell? ⟨w.heap.size + 1 + 1 + 1, 0, none⟩ = some (.int .i64 (e : Int)) := by
    rw [← hW, World.cell?_alloc_at _ _ _ _ z3.symm]; rfl
  have co : W.cell? ⟨w.heap.size + 1 + 1 + 1, 1, none⟩ = some (.int .i64 (o : Int)) := by
    rw [← hW, World.cell?_alloc_at _ _ _ _ z3.symm]; rfl
  rw [hW]
  have HB := Lib.hid BW
  clear hW z1 z2 z3 hmn BW
  obtain ⟨z, hz⟩ : ∃ z, w.heap.size = z := ⟨_, rfl⟩
  have HZ := Lib.hid hz
  rw [hz] at z4 bx cv rw0 ce co HB ⊢
  clear hz
  have P0 : Hid (Box W (z + 1 + 1) 3 (.int .i64 ((0 : Nat) : Int)) ∧ W.ownsRow z 3 1 (.slice (some ⟨z + 1, 0, none⟩) n n) n ((ranged (fun _ => 0) n).map (Value.int .i64)) ∧ W.cell? ⟨z, 0, none⟩ = some (.slice A n c)) := ⟨bx, rw0, cv⟩
  clear bx rw0 cv
  go_loopw [31] (fun i wr => ∃ (k t : Nat) (r : Nat → Int), k ≤ 2 ∧ i = .int .i64 (k : Int) ∧ Box wr (z + 1 + 1) 3 (.int .i64 (t : Int)) ∧ wr.cell? ⟨z, 0, none⟩ = some (.slice A n c) ∧
      wr.ownsRow z 3 1 (.slice (some ⟨z + 1, 0, none⟩) n n) n ((ranged r n).map (Value.int .i64)) ∧ Below z w wr ∧ wr.heap[z + 1 + 1 + 1]? = W.heap[z + 1 + 1 + 1]? ∧ W.heap.size ≤ wr.heap.size ∧
      (k = 0 ∧ t = 0 ∧ r = (fun _ => 0) ∨ k = 1 ∧ t = (n + 1 - e) / 2 ∧ r = (fun i => if i % 2 = e then l.getD (0 + i / 2) 0 else 0) ∨ k = 2 ∧ r = layF e n l)) (fun i _ => 2 - (intOf i).toNat)
  case atStart => exact ⟨0, 0, _, by omega, rfl, P0.out.1, P0.out.2.2, P0.out.2.1, HB.out, rfl, Nat.le_refl _, Or.inl ⟨rfl, rfl, rfl⟩⟩
  case round =>
    obtain ⟨k, t, r, hk2, rfl, hbx, hqv, hrow, hB, hp, hsz, hcase⟩ := hrel
    have HX := Lib.hid (And.intro hbx (And.intro hqv hrow))
    have ce' : wr.cell? ⟨z + 1 + 1 + 1, 0, none⟩ = some (.int .i64 (e : Int)) := (World.cell?_of_block (w := W) hp).trans ce
    have co' : wr.cell? ⟨z + 1 + 1 + 1, 1, none⟩ = some (.int .i64 (o : Int)) := (World.cell?_of_block (w := W) hp).trans co
    have hl' : ∀ t, t < n → ∃ b o, A = some ⟨b, o, none⟩ ∧ b < z ∧ wr.cell? ⟨b, o + t, none⟩ = some (.int .i64 (l.getD t 0)) := fun t ht => by
      obtain ⟨b, o, h1, h2, h3⟩ := HC.out t ht
      rw [HZ.out] at h2
      exact ⟨b, o, h1, h2, (hB.cell (p := ⟨b, o + t, none⟩) h2).trans h3⟩
    have HL := Lib.hid hl'
    clear hbx hqv hrow P0 hl'
    rcases hcase with ⟨rfl, rfl, rfl⟩ | ⟨rfl, rfl, rfl⟩ | ⟨rfl, rfl⟩
    · go_wp2_with fail
      refine (fill_any (z + 1 + 1) z (z + 1) n n c e z 0 A (fun _ => 0) l wr hn2 e1 (by omega) HX.out.1 HX.out.2.1 (by omega) (by omega) (by omega) (by omega) (by omega) HL.out HX.out.2.2).mono ?_
      rintro e' w6 ⟨rfl, hr6, hx6, hv6, hB6, hk6, hs6⟩
      have hp6 := hk6 (z + 1 + 1 + 1) (by omega) (by omega)
      rw [Nat.zero_add] at hx6
      have Q := Lib.hid (And.intro hx6 (And.intro hv6 (And.intro hr6 (And.intro (hp6.trans hp) (hB.trans hB6)))))
      clear hx6 hv6 hr6 hp6 hk6 hB6 hB HX ce' co' HL hp
      go_wp2
      go_roundw
      case rel => exact ⟨1, _, _, by omega, by go_num, Q.out.1, Q.out.2.1, Q.out.2.2.1, Q.out.2.2.2.2, Q.out.2.2.2.1, Nat.le_trans hsz hs6, Or.inr (Or.inl ⟨rfl, rfl, rfl⟩)⟩
      case measure => simp [intOf]
    · go_wp2_with fail
      refine (fill_any (z + 1 + 1) z (z + 1) n n c o z ((n + 1 - e) / 2) A _ l wr hn2 o1 (by omega) HX.out.1 HX.out.2.1 (by omega) (by omega) (by omega) (by omega) (by omega) HL.out HX.out.2.2).mono ?_
      rintro e' w6 ⟨rfl, hr6, hx6, hv6, hB6, hk6, hs6⟩
      have hp6 := hk6 (z + 1 + 1 + 1) (by omega) (by omega)
      have eL : (fun i => if i % 2 = o then l.getD ((n + 1 - e) / 2 + i / 2) 0 else if i % 2 = e then l.getD (0 + i / 2) 0 else 0) = layF e n l := by
        funext i
        unfold layF
        by_cases c1 : i % 2 = e
        · rw [if_neg (by omega), if_pos c1, if_pos c1, Nat.zero_add]
        · rw [if_pos (by omega), if_neg c1]
      rw [eL] at hr6
      have Q := Lib.hid (And.intro hx6 (And.intro hv6 (And.intro hr6 (And.intro (hp6.trans hp) (hB.trans hB6)))))
      clear hx6 hv6 hr6 hp6 hk6 hB6 hB HX ce' co' HL hp eL
      go_wp2
      go_roundw
      case rel => exact ⟨2, _, _, by omega, by go_num, Q.out.1, Q.out.2.1, Q.out.2.2.1, Q.out.2.2.2.2, Q.out.2.2.2.1, Nat.le_trans hsz hs6, Or.inr (Or.inr ⟨rfl, rfl⟩)⟩
      case measure => simp [intOf]
    · have hown := HX.out.2.2
      have hgl : z + 1 < wr.heap.size := by omega
      have hzr : z ≤ wr.heap.size := hB.size |> fun _ => by omega
      clear HX ce' co' HL hp HC HB
      go_wp2_with fail
      refine (beside_any (z + 1) n n wr (by omega) hn2).mono ?_
      rintro e' w2 ⟨pl, pb, rfl, hpl, hpb, f1, f2, B2⟩
      have hplw := World.block_lt_of_cell? w2 _ f1
      have hpbw := World.block_lt_of_cell? w2 _ f2
      change pl < w2.heap.size at hplw
      change pb < w2.heap.size at hpbw
      have hown2 : w2.ownsRow z 3 1 (.slice (some ⟨z + 1, 0, none⟩) n n) n ((ranged (layF e n l) n).map (Value.int .i64)) := by
        refine hown.kept (row := none) ⟨B2.os, B2.tape, B2.output, B2.size, fun k hk _ => B2.block k hk⟩ (Or.inr (by simp [Value.ownBlock]))
      have B12 := hB.trans (B2.mono hzr)
      have hz2 : z ≤ w2.heap.size := Nat.le_trans hzr B2.size
      have henv : Env (w2.alloc (Obj.cells #[(Value.func (.func 57) #[] #[.pointer (some ⟨pl, 0, none⟩), .pointer (some ⟨pb, 0, none⟩)])] 59)) w2.heap.size pl pb (z + 1) n n := by
        refine ⟨by rw [World.cell?_alloc_new]; rfl, ?_, ?_⟩
        · rw [World.cell?_alloc_past _ _ _ hplw]; exact f1
        · rw [World.cell?_alloc_past _ _ _ hpbw]; exact f2
      have hown3 := hown2.alloc (Obj.cells #[(Value.func (.func 57) #[] #[.pointer (some ⟨pl, 0, none⟩), .pointer (some ⟨pb, 0, none⟩)])] 59)
      have B3 : Below z w (w2.alloc (Obj.cells #[(Value.func (.func 57) #[] #[.pointer (some ⟨pl, 0, none⟩), .pointer (some ⟨pb, 0, none⟩)])] 59)) := B12.alloc hz2 _
      have hz3 : z ≤ (w2.alloc (Obj.cells #[(Value.func (.func 57) #[] #[.pointer (some ⟨pl, 0, none⟩), .pointer (some ⟨pb, 0, none⟩)])] 59)).heap.size := Nat.le_trans hz2 (by simp)
      have HE := Lib.hid henv
      have HO := Lib.hid hown3
      have hq : w2.heap.size ≠ z + 1 := by have := B2.size; omega
      have hpg : pl ≠ z + 1 := by omega
      have hbg : pb ≠ z + 1 := by omega
      clear hown hown2 hown3 henv f1 f2 hB B2 B12
      go_wp2_with fail
      generalize (w2.alloc (Obj.cells #[(Value.func (.func 57) #[] #[.pointer (some ⟨pl, 0, none⟩), .pointer (some ⟨pb, 0, none⟩)])] 59)) = w3 at *
      generalize w2.heap.size = q at *
      refine (pass_any 55 enters55 hV q pl pb (z + 1) n n e z (layF e n l) w3 hn hn2 e1 HO.out HE.out hq hpg hbg (fun i hi => by have := R0.out i; omega) (fun i x a b w hi he ha hb rx ra rb => unupdate_any q pl pb (z + 1) n n i x a b w hn hn2 hi he ha hb rx ra rb)).mono ?_
      rintro e' w4 ⟨rfl, hown4, g4⟩
      have HE4 : Hid (Env w4 q pl pb (z + 1) n n) := ⟨g4.cell HE.out.1 (by simpa using hq), g4.cell HE.out.2.1 (by simpa using hpg), g4.cell HE.out.2.2 (by simpa using hbg)⟩
      have B4 := B3.grown g4 hz3 (by intro k hk; injection hk with hk; omega)
      have hz4 : z ≤ w4.heap.size := Nat.le_trans hz3 g4.size
      have HO4 := Lib.hid hown4
      clear HE HO g4 hown4 B3
      go_wp2_with fail
      refine (pass_any 56 enters56 hQ q pl pb (z + 1) n n o z _ w4 hn hn2 o1 HO4.out HE4.out hq hpg hbg (fun i hi => by have := R1.out i hi; omega) (fun i x a b w hi he ha hb rx ra rb => unpredict_any q pl pb (z + 1) n n i x a b w hn hn2 hi he ha hb rx ra rb)).mono ?_
      rintro e' w5 ⟨rfl, hown5, g5⟩
      have B5 := B4.grown g5 hz4 (by intro k hk; injection hk with hk; omega)
      have elow : passF hQ o n (passF hV e n (layF e n l)) = joinF e n l := by unfold joinF; rw [show o = 1 - e from by omega]
      rw [elow] at hown5
      obtain ⟨A', c', hv, hrw⟩ := rowI_own hown5
      injection hv with hv1 _ hv3
      subst hv1 hv3
      have hrw := hown5
      clear HE4 HO4 g5 B4 hown5 elow
      go_wp2
      go_ret
      exact ⟨_, _, rfl, by rw [HZ.out]; exact hrw, by rw [HZ.out]; exact B5⟩
end Go.Proofs.Ytgadebfelomhpaa
