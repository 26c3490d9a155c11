/- Packets in order: the reference's merge. -/
import Derived.Test.YtejoedanhonpkaaOrA
import Derived.Test.YtejoedanhonpkaaCvM0
import Derived.Deep.QuietTactic
import Derived.BigQuiet
import Derived.Deep.LoopGhost
import Derived.Test.YtejoedanhonpkaaOrQ0
import Derived.Sort.Grow
import Derived.Deep.MidRow
import Derived.Test.YtejoedanhonpkaaOrU0
import Derived.Test.YtejoedanhonpkaaReg3
import Derived.Laws.Rows
set_option linter.unusedVariables false
set_option linter.unusedSimpArgs false
namespace Go.Proofs.Ytejoedanhonpkaa
section
section
open Go.RowKit
set_option maxRecDepth 100000
theorem lexL_drop {l m : List Int} {i : Nat} {a b : Int} (ha : l[i]? = some a) (hb : m[i]? = some b) : lexL (l.drop i) (m.drop i) = if a = b then lexL (l.drop (i + 1)) (m.drop (i + 1)) else decide (a < b) := by
  obtain ⟨hi, rfl⟩ := List.getElem?_eq_some_iff.1 ha
  obtain ⟨hj, rfl⟩ := List.getElem?_eq_some_iff.1 hb
  rw [List.drop_eq_getElem_cons hi, List.drop_eq_getElem_cons hj, lexL]
  by_cases h : l[i] = m[i]
  · simp [h]
  · simp [h]
set_option maxHeartbeats 4000000 in
theorem rless_any {l m : List Int} (hl : l.length = 6) (hm : m.length = 6) (w : World) : Calls Try.prog 58 #[.agg (rkA l), .agg (rkA m)] w fun e w' => e = .returned (.bool (lexL l m)) ∧ Below w.heap.size w w' := by
  have HL := Lib.hid hl
  have HM := Lib.hid hm
  obtain ⟨r, hr⟩ : ∃ r, lexL l m = r := ⟨_, rfl⟩
  have HR := Lib.hid hr
  rw [hr]
  obtain ⟨la, hla⟩ : ∃ a, rkA l = a := ⟨_, rfl⟩
  obtain ⟨ma, hma⟩ : ∃ a, rkA m = a := ⟨_, rfl⟩
  rw [hla, hma]
  have HLA := Lib.hid hla
  have HMA := Lib.hid hma
  clear hl hm hr hla hma
  go_enter Try.func58, Try.ntmps58
  go_wp2_with fail
  obtain ⟨X, hX⟩ : ∃ X, (w.alloc (.cells la 68)).alloc (.cells ma 68) = X := ⟨_, rfl⟩
  obtain ⟨b, hb⟩ : ∃ b, w.heap.size = b := ⟨_, rfl⟩
  have HX : Hid (X.heap[b]? = some (.cells (rkA l) 68 (0, 0)) ∧ X.heap[b + 1]? = some (.cells (rkA m) 68 (0, 0)) ∧ Below b w X) := Lib.hid (by
    rw [← hb, ← hX, HLA.out, HMA.out]
    exact ⟨(Below.heap_alloc _ _ _ (by simp)).trans (World.alloc_heap_new w _), new2 w _ _, ((Below.refl _ w).alloc (Nat.le_refl _) _).alloc (by simp) _⟩)
  rw [hX, hb]
  have HB := Lib.hid hb
  clear hX hb
  go_loopg [5] 6 (fun g v wr => ∃ i : Nat, i + g = 6 ∧ v = .int .i64 (i : Int) ∧ Hid (lexL l m = lexL (l.drop i) (m.drop i) ∧ Below X.heap.size X wr))
  case atStart => exact ⟨0, by omega, rfl, Lib.hid ⟨rfl, Below.refl _ _⟩⟩
  case round =>
    obtain ⟨i, hig, rfl, HI⟩ := hrel
    obtain ⟨wa, hwa⟩ : ∃ wa, wa = wr := ⟨wr, rfl⟩
    subst hwa
    have HZ : Hid (∀ q : Nat, Below b w (wa.drewN q)) := Lib.hid (fun q => below_drewN (HX.out.2.2.trans (HI.out.2.mono (by have := HX.out.2.2.size; have := HB.out; omega))) q)
    have HN : Hid (∀ q : Nat, Below X.heap.size X (wa.drewN q)) := Lib.hid (fun q => below_drewN HI.out.2 q)
    by_cases h6 : i < 6
    · obtain ⟨g1, rfl⟩ : ∃ g1, gk = g1 + 1 := ⟨gk - 1, by omega⟩
      have hiI : (i : Int) < 6 ∧ (0 : Int) ≤ (i : Int) := by omega
      obtain ⟨x, hx⟩ : ∃ x, l[i]? = some x := ⟨_, List.getElem?_eq_getElem (by rw [HL.out]; exact h6)⟩
      obtain ⟨y, hy⟩ : ∃ x, m[i]? = some x := ⟨_, List.getElem?_eq_getElem (by rw [HM.out]; exact h6)⟩
      have p0 : wa.cell? ⟨b, i, none⟩ = some (.int .i64 x) := (HI.out.2.cell (p := ⟨b, i, none⟩) (Array.getElem?_eq_some_iff.1 HX.out.1).1).trans (cells_list HX.out.1 i x hx)
      have p1 : wa.cell? ⟨b + 1, i, none⟩ = some (.int .i64 y) := (HI.out.2.cell (p := ⟨b + 1, i, none⟩) (Array.getElem?_eq_some_iff.1 HX.out.2.1).1).trans (cells_list HX.out.2.1 i y hy)
      have HD := Lib.hid (lexL_drop hx hy)
      clear hx hy
      by_cases he : x = y
      · have HC : Hid (lexL l m = lexL (l.drop (i + 1)) (m.drop (i + 1))) := Lib.hid (by rw [HI.out.1, HD.out, if_pos he])
        subst he
        clear HD HI
        go_upto_region 4 with fail
        go_quiet (fail)
        go_wp2
        go_roundg g1
        case measure => omega
        case rel => exact ⟨i + 1, by omega, by go_num, Lib.hid ⟨HC.out, HN.out _⟩⟩
      · have hd : decide (x < y) = r := by rw [← HR.out, HI.out.1, HD.out, if_neg he]
        have HDr := Lib.hid hd
        clear HD HI hd
        go_upto_region 4 with fail
        go_quiet (fail)
        go_upto_region 5 with fail
        go_quiet (fail)
        go_wp2
        go_ret
        exact ⟨by rw [← HDr.out]; rfl, by rw [HB.out]; exact below_drewN (HZ.out _) _⟩
    · obtain rfl : i = 6 := by omega
      have hf : false = r := by rw [← HR.out, HI.out.1, List.drop_eq_nil_of_le (by rw [HL.out]; exact Nat.le_refl _)]; rfl
      have HDr := Lib.hid hf
      clear hf
      go_wp2
      go_ret
      exact ⟨by rw [← HDr.out]; rfl, by rw [HB.out]; exact HZ.out 0⟩
end
section
open Go.RowKit
set_option maxRecDepth 100000
/-- A spot of the reference. -/
@[reducible] def Pk.sp (x : Pk) : Value := .agg #[.int .i64 x.rs, .int .i64 x.cp, .int .i64 x.pc, .int .i64 x.ac, .int .i64 x.dn]
set_option maxHeartbeats 2000000 in
theorem rrank0_any (ly rs cp pc dn ac : Int) (w : World) : Calls Try.prog 31 #[.int .i64 0, .agg #[.int .i64 rs, .int .i64 cp, .int .i64 pc, .int .i64 ac, .int .i64 dn], .int .i64 ly] w fun e w' => e = .returned (.agg #[.int .i64 ly, .int .i64 rs, .int .i64 cp, .int .i64 pc, .int .i64 0, .int .i64 0]) ∧ Below w.heap.size w w' := by
  go_enter Try.func31, Try.ntmps31
  go_wp2
  exact bodyPost_ret (v := .agg #[.int .i64 ly, .int .i64 rs, .int .i64 cp, .int .i64 pc, .int .i64 0, .int .i64 0]) (results_cell_row rfl _ _ (w.heap.size + 1) 68 _ (0, 0) _ rfl (new2 w _ _) Try.underlying68 rfl (by kernel_rfl)) rfl ⟨rfl, ((Below.refl _ w).alloc (Nat.le_refl _) _).alloc (by simp) _⟩
set_option maxHeartbeats 2000000 in
theorem rrank1_any (ly rs cp pc dn ac : Int) (w : World) : Calls Try.prog 31 #[.int .i64 1, .agg #[.int .i64 rs, .int .i64 cp, .int .i64 pc, .int .i64 ac, .int .i64 dn], .int .i64 ly] w fun e w' => e = .returned (.agg #[.int .i64 rs, .int .i64 ly, .int .i64 cp, .int .i64 pc, .int .i64 0, .int .i64 0]) ∧ Below w.heap.size w w' := by
  go_enter Try.func31, Try.ntmps31
  go_wp2
  exact bodyPost_ret (v := .agg #[.int .i64 rs, .int .i64 ly, .int .i64 cp, .int .i64 pc, .int .i64 0, .int .i64 0]) (results_cell_row rfl _ _ (w.heap.size + 1) 68 _ (0, 0) _ rfl (new2 w _ _) Try.underlying68 rfl (by kernel_rfl)) rfl ⟨rfl, ((Below.refl _ w).alloc (Nat.le_refl _) _).alloc (by simp) _⟩
set_option maxHeartbeats 2000000 in
theorem rrank2_any (ly rs cp pc dn ac : Int) (w : World) : Calls Try.prog 31 #[.int .i64 2, .agg #[.int .i64 rs, .int .i64 cp, .int .i64 pc, .int .i64 ac, .int .i64 dn], .int .i64 ly] w fun e w' => e = .returned (.agg #[.int .i64 rs, .int .i64 dn, .int .i64 ac, .int .i64 cp, .int .i64 pc, .int .i64 ly]) ∧ Below w.heap.size w w' := by
  go_enter Try.func31, Try.ntmps31
  go_wp2
  exact bodyPost_ret (v := .agg #[.int .i64 rs, .int .i64 dn, .int .i64 ac, .int .i64 cp, .int .i64 pc, .int .i64 ly]) (results_cell_row rfl _ _ (w.heap.size + 1) 68 _ (0, 0) _ rfl (new2 w _ _) Try.underlying68 rfl (by kernel_rfl)) rfl ⟨rfl, ((Below.refl _ w).alloc (Nat.le_refl _) _).alloc (by simp) _⟩
set_option maxHeartbeats 2000000 in
theorem rrank3_any (ly rs cp pc dn ac : Int) (w : World) : Calls Try.prog 31 #[.int .i64 3, .agg #[.int .i64 rs, .int .i64 cp, .int .i64 pc, .int .i64 ac, .int .i64 dn], .int .i64 ly] w fun e w' => e = .returned (.agg #[.int .i64 dn, .int .i64 ac, .int .i64 cp, .int .i64 rs, .int .i64 pc, .int .i64 ly]) ∧ Below w.heap.size w w' := by
  go_enter Try.func31, Try.ntmps31
  go_wp2
  exact bodyPost_ret (v := .agg #[.int .i64 dn, .int .i64 ac, .int .i64 cp, .int .i64 rs, .int .i64 pc, .int .i64 ly]) (results_cell_row rfl _ _ (w.heap.size + 1) 68 _ (0, 0) _ rfl (new2 w _ _) Try.underlying68 rfl (by kernel_rfl)) rfl ⟨rfl, ((Below.refl _ w).alloc (Nat.le_refl _) _).alloc (by simp) _⟩
set_option maxHeartbeats 2000000 in
theorem rrank4_any (ly rs cp pc dn ac : Int) (w : World) : Calls Try.prog 31 #[.int .i64 4, .agg #[.int .i64 rs, .int .i64 cp, .int .i64 pc, .int .i64 ac, .int .i64 dn], .int .i64 ly] w fun e w' => e = .returned (.agg #[.int .i64 cp, .int .i64 dn, .int .i64 ac, .int .i64 rs, .int .i64 pc, .int .i64 ly]) ∧ Below w.heap.size w w' := by
  go_enter Try.func31, Try.ntmps31
  go_wp2
  exact bodyPost_ret (v := .agg #[.int .i64 cp, .int .i64 dn, .int .i64 ac, .int .i64 rs, .int .i64 pc, .int .i64 ly]) (results_cell_row rfl _ _ (w.heap.size + 1) 68 _ (0, 0) _ rfl (new2 w _ _) Try.underlying68 rfl (by kernel_rfl)) rfl ⟨rfl, ((Below.refl _ w).alloc (Nat.le_refl _) _).alloc (by simp) _⟩
theorem rrank_any (o : Nat) (ho : o < 5) (x : Pk) (l : Nat) (w : World) : Calls Try.prog 31 #[.int .i64 (o : Int), x.sp, .int .i64 (l : Int)] w fun e w' => e = .returned (.agg (rkA ((x.at l).rk o))) ∧ Below w.heap.size w w' := by
  obtain ⟨ly, rs, cp, pc, dn, ac⟩ := x
  obtain rfl | rfl | rfl | rfl | rfl := (by omega : o = 0 ∨ o = 1 ∨ o = 2 ∨ o = 3 ∨ o = 4)
  · exact rrank0_any _ _ _ _ _ _ w
  · exact rrank1_any _ _ _ _ _ _ w
  · exact rrank2_any _ _ _ _ _ _ w
  · exact rrank3_any _ _ _ _ _ _ w
  · exact rrank4_any _ _ _ _ _ _ w
/-- A packet with its rank, as the reference lays it. -/
def encK (o : Nat) (x : Pk) : List Value := [.int .i64 x.ly, .int .i64 x.rs, .int .i64 x.cp, .int .i64 x.pc] ++ (x.rk o).map (Value.int .i64)
theorem encK_len (o : Nat) (x : Pk) : (encK o x).length = 10 := by simp [encK, Pk.rk_len]
def RkR (o : Nat) (w : World) (A : Option Addr) (L : List Pk) : Prop := ∀ (i : Nat) (x : Pk), L[i]? = some x → ∃ g q, A = some ⟨g, q, none⟩ ∧ g < w.heap.size ∧ w.rangeAt g (q + i * 10) (encK o x)
theorem RkR.below {o : Nat} {w w' : World} {A : Option Addr} {L : List Pk} (h : RkR o w A L) (hb : Below w.heap.size w w') : RkR o w' A L := fun i x hx => by
  obtain ⟨g, q, h1, h2, h3⟩ := h i x hx
  exact ⟨g, q, h1, Nat.lt_of_lt_of_le h2 hb.size, fun j v hv => (hb.cell (p := ⟨g, _, none⟩) h2).trans (h3 j v hv)⟩
theorem flat10 (o : Nat) : ∀ (L : List Pk) (i : Nat) (x : Pk), L[i]? = some x → ∀ (j : Nat) (v : Value), (encK o x)[j]? = some v → (L.flatMap (encK o))[i * 10 + j]? = some v
  | [], i, x, h, _, _, _ => by simp at h
  | y :: l, 0, x, h, j, v, hv => by
    simp at h
    subst h
    have hj : j < (encK o y).length := (List.getElem?_eq_some_iff.1 hv).1
    rw [List.flatMap_cons, Nat.zero_mul, Nat.zero_add, List.getElem?_append_left hj, hv]
  | y :: l, i + 1, x, h, j, v, hv => by
    have := flat10 o l i x (by simpa using h) j v hv
    rw [List.flatMap_cons, List.getElem?_append_right (by rw [encK_len, Nat.succ_mul]; omega), encK_len, show (i + 1) * 10 + j - 10 = i * 10 + j by rw [Nat.succ_mul]; omega]
    exact this
theorem own_rkR {o : Nat} {w : World} {B c n : Nat} {A : Option Addr} {L : List Pk} (h : w.ownsRow B 78 10 (.slice A n c) n (L.flatMap (encK o))) (hl : L.length = n) : RkR o w A L := fun i x e => by
  have hi : i < L.length := (List.getElem?_eq_some_iff.1 e).1
  obtain ⟨g, c', hV, _⟩ := own_form h (by omega)
  cases hV
  refine ⟨g, 0, rfl, (own_lt h rfl).2, fun j v hv => ?_⟩
  have hj : j < 10 := by have := (List.getElem?_eq_some_iff.1 hv).1; rwa [encK_len] at this
  have f0 := h.cellAt (i * 10 + j) (by omega)
  have e0 := flat10 o L i x e j v hv
  rw [Nat.zero_add]
  exact f0.trans e0
/-- How the reference lays two rows into one. -/
def leK (o : Nat) (x y : Pk) : Bool := !lexL (y.rk o) (x.rk o)
theorem mg_left {o : Nat} {A B : List Pk} {i j : Nat} {x : Pk} (hx : A[i]? = some x) (h : B.length ≤ j ∨ ∃ y, B[j]? = some y ∧ lexL (y.rk o) (x.rk o) = false) : (A.drop i).merge (B.drop j) (leK o) = x :: (A.drop (i + 1)).merge (B.drop j) (leK o) := by
  obtain ⟨hi, rfl⟩ := List.getElem?_eq_some_iff.1 hx
  rw [List.drop_eq_getElem_cons hi]
  rcases h with h | ⟨y, hy, hl⟩
  · rw [List.drop_eq_nil_of_le h]
    simp
  · obtain ⟨hj, rfl⟩ := List.getElem?_eq_some_iff.1 hy
    rw [List.drop_eq_getElem_cons hj, List.cons_merge_cons_pos]
    simp [leK, hl]
theorem mg_right {o : Nat} {A B : List Pk} {i j : Nat} {y : Pk} (hy : B[j]? = some y) (h : A.length ≤ i ∨ ∃ x, A[i]? = some x ∧ lexL (y.rk o) (x.rk o) = true) : (A.drop i).merge (B.drop j) (leK o) = y :: (A.drop i).merge (B.drop (j + 1)) (leK o) := by
  obtain ⟨hj, rfl⟩ := List.getElem?_eq_some_iff.1 hy
  rw [List.drop_eq_getElem_cons hj]
  rcases h with h | ⟨x, hx, hl⟩
  · rw [List.drop_eq_nil_of_le h]
    simp
  · obtain ⟨hi, rfl⟩ := List.getElem?_eq_some_iff.1 hx
    rw [List.drop_eq_getElem_cons hi, List.cons_merge_cons, if_neg]
    simp [leK, hl]
theorem mg_end {o : Nat} {A B : List Pk} {i j : Nat} (hi : A.length ≤ i) (hj : B.length ≤ j) : (A.drop i).merge (B.drop j) (leK o) = [] := by
  rw [List.drop_eq_nil_of_le hi, List.drop_eq_nil_of_le hj]
  simp
theorem mg_len {o : Nat} {A B : List Pk} : (A.merge B (leK o)).length = A.length + B.length := by
  rw [(List.merge_perm_append (leK o)).length_eq, List.length_append]
theorem mg_srt {o : Nat} {A B : List Pk} (hA : Srt o A) (hB : Srt o B) : Srt o (A.merge B (leK o)) := by
  have h := List.pairwise_merge (le := leK o) (fun a b c h1 h2 => by
    simp only [leK, Bool.not_eq_true'] at h1 h2 ⊢
    exact lexL_ntrans _ _ _ (by rw [Pk.rk_len, Pk.rk_len]) (by rw [Pk.rk_len, Pk.rk_len]) h2 h1) (fun a b => by
    simp only [leK, Bool.or_eq_true, Bool.not_eq_true']
    cases h1 : lexL (b.rk o) (a.rk o) with
    | false => exact .inl rfl
    | true => exact .inr (lexL_asymm _ _ h1)) A B (hA.imp fun {a b} h => by simp [leK, h]) (hB.imp fun {a b} h => by simp [leK, h])
  exact h.imp fun {a b} h => by simpa [leK] using h
end
end
section
open Go.RowKit Go.Shelf
set_option maxRecDepth 100000
attribute [local go_sem] Oper.semAt_some
attribute [local go_sem ↓] appSem_eq
theorem infoRr : (Try.prog.info? 78).map (fun i => (i.zero, i.size, i.bytes)) = some (some (.agg #[.int .i64 0, .int .i64 0, .int .i64 0, .int .i64 0, .int .i64 0, .int .i64 0, .int .i64 0, .int .i64 0, .int .i64 0, .int .i64 0]), 10, 80) := by kernel_rfl
theorem app_rk {w : World} {base m z o : Nat} {v : Value} {xs : List Value} {x : Pk} (hown : w.ownsRow base 78 10 v m xs) (hz : w.heap[z]? = some (.cells (encK o x).toArray 78 (0, 0))) (hb : base ≤ w.heap.size) (hm : m ≤ 20000000) :
    ∃ v' w', (appSem #[71, 71] 71 #[v, .slice (some ⟨z, 0, none⟩) 1 1]).run Try.prog w = .ok v' w' ∧ w'.ownsRow base 78 10 v' (m + 1) (xs ++ encK o x) ∧ w.grownBy w' v.ownBlock := by
  obtain ⟨i0, hi, hzz⟩ := Option.map_eq_some_iff.1 infoRr
  simp only [Prod.mk.injEq] at hzz
  obtain ⟨hz0, hz1, hz2⟩ := hzz
  obtain ⟨v', w', hr, hown', hg, _, hat⟩ := run_append_own_at (P := Try.prog) w base 71 71 78 i0 _ 10 80 (by kernel_rfl) hi hz0 hz1 hz2 rfl (by decide) v m xs hown ⟨z, 0, none⟩ 1 1 (encK o x) (encK_len o x) (fun j u hu => by
    by_cases h0 : j = 0
    · subst h0
      simp [World.cell?, Addr.add, hz]
      exact hu
    · simp [World.cell?, Addr.add, hz, h0]
      exact hu) (fun u hu => by
    simp only [encK, List.mem_append, List.mem_cons, List.not_mem_nil, or_false, List.mem_map] at hu
    rcases hu with (rfl | rfl | rfl | rfl) | ⟨a, _, rfl⟩ <;> rfl) (by unfold maxLen; omega) (by omega) hb
  exact ⟨v', w', hr, hown', hg⟩
/-- The reference's row of ten cells, one by one. -/
theorem row10 {o : Nat} {w : World} {g q : Nat} {x : Pk} {a0 a1 a2 a3 a4 a5 : Int} (h : w.rangeAt g q (encK o x)) (hx : x.rk o = [a0, a1, a2, a3, a4, a5]) :
    w.cell? ⟨g, q, none⟩ = some (.int .i64 x.ly) ∧ w.cell? ⟨g, q + 1, none⟩ = some (.int .i64 x.rs) ∧ w.cell? ⟨g, q + 2, none⟩ = some (.int .i64 x.cp) ∧ w.cell? ⟨g, q + 3, none⟩ = some (.int .i64 x.pc) ∧
    w.cell? ⟨g, q + 4, none⟩ = some (.int .i64 a0) ∧ w.cell? ⟨g, q + 5, none⟩ = some (.int .i64 a1) ∧ w.cell? ⟨g, q + 6, none⟩ = some (.int .i64 a2) ∧ w.cell? ⟨g, q + 7, none⟩ = some (.int .i64 a3) ∧ w.cell? ⟨g, q + 8, none⟩ = some (.int .i64 a4) ∧ w.cell? ⟨g, q + 9, none⟩ = some (.int .i64 a5) := by
  unfold encK at h
  rw [hx] at h
  exact ⟨h 0 _ rfl, h 1 _ rfl, h 2 _ rfl, h 3 _ rfl, h 4 _ rfl, h 5 _ rfl, h 6 _ rfl, h 7 _ rfl, h 8 _ rfl, h 9 _ rfl⟩
theorem encK_arr {o : Nat} {x : Pk} {a0 a1 a2 a3 a4 a5 : Int} (hx : x.rk o = [a0, a1, a2, a3, a4, a5]) : (encK o x).toArray = #[.int .i64 x.ly, .int .i64 x.rs, .int .i64 x.cp, .int .i64 x.pc, .int .i64 a0, .int .i64 a1, .int .i64 a2, .int .i64 a3, .int .i64 a4, .int .i64 a5] := by
  unfold encK
  rw [hx]
  rfl
set_option maxHeartbeats 8000000 in
theorem rmerge_any (o : Nat) (A B : List Pk) (pa pb : Option Addr) (na nb ca cb : Nat) (w : World) (hla : A.length = na) (hlb : B.length = nb) (hA : RkR o w pa A) (hB : RkR o w pb B) (hn : na + nb ≤ 13000000) :
    Calls Try.prog 47 #[.slice pa na ca, .slice pb nb cb] w fun e w' => ∃ (V : Option Addr) (c : Nat), e = .returned (.slice V (na + nb) c) ∧ RkR o w' V (A.merge B (leK o)) ∧ Below w.heap.size w w' := by
  have HLA := Lib.hid hla
  have HLB := Lib.hid hlb
  have HA := Lib.hid hA
  have HB := Lib.hid hB
  obtain ⟨T, hT⟩ : ∃ T, A.merge B (leK o) = T := ⟨_, rfl⟩
  have HT := Lib.hid hT
  rw [hT]
  clear hla hlb hA hB hT
  go_enter Try.func47, Try.ntmps47
  go_wp2_with fail
  go_loopg [5, 6, 7] (na + nb) (fun g v vi vj wr => ∃ (i j : Nat) (out : List Pk) (Va : Option Addr) (Vc : Nat), i ≤ na ∧ j ≤ nb ∧ i + j + g = na + nb ∧ v = .slice Va (i + j) Vc ∧ vi = .int .i64 (i : Int) ∧ vj = .int .i64 (j : Int) ∧ Hid (wr.ownsRow w.heap.size 78 10 (.slice Va (i + j) Vc) (i + j) (out.flatMap (encK o)) ∧ out.length = i + j ∧ out ++ (A.drop i).merge (B.drop j) (leK o) = T ∧ Below w.heap.size w wr))
  case atStart => exact ⟨0, 0, [], none, 0, by omega, by omega, by omega, rfl, rfl, rfl, Lib.hid ⟨World.ownsRow_nil _ _ _ _, rfl, by rw [← HT.out]; rfl, Below.refl _ _⟩⟩
  case round =>
    obtain ⟨i, j, out, Va, Vc, hia, hjb, hig, rfl, rfl, rfl, HI⟩ := hrel
    obtain ⟨wa, hwa⟩ : ∃ wa, wa = wr := ⟨wr, rfl⟩
    subst hwa
    by_cases hjn : j < nb
    · have hjI : (j : Int) < (nb : Int) ∧ ¬ (j : Int) = (nb : Int) := by omega
      obtain ⟨y, hy⟩ : ∃ x, B[j]? = some x := ⟨_, List.getElem?_eq_getElem (by rw [HLB.out]; exact hjn)⟩
      obtain ⟨b0, b1, b2, b3, b4, b5, hb⟩ := rk_six o y
      obtain ⟨gb, qb, hpgb, hlgb, hrgb⟩ := HB.out j y hy
      subst hpgb
      have Hy := Lib.hid (show _ ∧ _ ∧ _ ∧ _ from ⟨hy, hb, hlgb, hrgb⟩)
      clear hy hb hlgb hrgb
      by_cases hin : i < na
      · obtain ⟨g1, rfl⟩ : ∃ g1, gk = g1 + 1 := ⟨gk - 1, by omega⟩
        have hiI : (i : Int) < (na : Int) := by omega
        obtain ⟨x, hx⟩ : ∃ x, A[i]? = some x := ⟨_, List.getElem?_eq_getElem (by rw [HLA.out]; exact hin)⟩
        obtain ⟨a0, a1, a2, a3, a4, a5, ha⟩ := rk_six o x
        obtain ⟨ga, qa, hpga, hlga, hrga⟩ := HA.out i x hx
        subst hpga
        have Hx := Lib.hid (show _ ∧ _ ∧ _ ∧ _ from ⟨hx, ha, hlga, hrga⟩)
        clear hx ha hlga hrga
        cases hlx : lexL (y.rk o) (x.rk o) with
        | false =>
          have HLX := Lib.hid hlx
          have LS : Hid (∀ u, Calls Try.prog 58 #[.agg #[.int .i64 b0, .int .i64 b1, .int .i64 b2, .int .i64 b3, .int .i64 b4, .int .i64 b5], .agg #[.int .i64 a0, .int .i64 a1, .int .i64 a2, .int .i64 a3, .int .i64 a4, .int .i64 a5]] u fun e w' => e = .returned (.bool false) ∧ Below u.heap.size u w') := Lib.hid (fun u => by
            have h := rless_any (Pk.rk_len o y) (Pk.rk_len o x) u
            rw [hlx, Hy.out.2.1, Hx.out.2.1] at h
            exact h)
          clear hlx
          go_upto_region 4 with fail
          obtain ⟨VLn, hVL⟩ : ∃ VL : Unit → List (Nat × Nat × Value), VL = fun z => [(0, 18, .int .i64 (j : Int)), (1, 19, .slice (some ⟨gb, qb, none⟩) nb cb), (2, 20, .int .i64 (nb : Int)), (3, 21, .bool false), (4, 22, .bool false), (5, 23, .int .i64 (i : Int)), (6, 24, .slice (some ⟨ga, qa, none⟩) na ca), (7, 25, .int .i64 (na : Int)), (8, 26, .bool true), (9, 27, .bool true), (10, 28, .slice (some ⟨gb, qb, none⟩) nb cb), (11, 29, .int .i64 (j : Int)), (12, 30, .pointer (some ⟨gb, qb + j * 10, none⟩)), (13, 31, .pointer (some ⟨gb, qb + j * 10 + 4, none⟩)), (14, 32, .agg #[.int .i64 b0, .int .i64 b1, .int .i64 b2, .int .i64 b3, .int .i64 b4, .int .i64 b5]), (15, 33, .slice (some ⟨ga, qa, none⟩) na ca), (16, 34, .int .i64 (i : Int)), (17, 35, .pointer (some ⟨ga, qa + i * 10, none⟩)), (18, 36, .pointer (some ⟨ga, qa + i * 10 + 4, none⟩)), (19, 37, .agg #[.int .i64 a0, .int .i64 a1, .int .i64 a2, .int .i64 a3, .int .i64 a4, .int .i64 a5]), (20, 38, .bool false), (21, 39, .bool true), (22, 40, .bool true), (23, 41, .bool true)] := ⟨_, rfl⟩
          have hok : ∀ z, manyOk 61 (VLn z) := fun z => by rw [hVL]; exact okB_ok rfl
          have HVLn := Lib.hid hVL
          have hvi : ∀ z, ∀ x ∈ VLn z, x.1 < 24 := fun z => by rw [hVL]; exact ltB_ok rfl
          have HOKn := Lib.hid hok
          have HVIn := Lib.hid hvi
          clear hVL hok hvi
          refine (wpIn_wide (n := 9)).1 (regionIn_many (N := 61) (w := _) VLn (fun L z w' => Below wa.heap.size wa w') [(0, .slice (some ⟨ga, qa, none⟩) na ca), (1, .slice (some ⟨gb, qb, none⟩) nb cb), (6, .int .i64 (i : Int)), (7, .int .i64 (j : Int))] (by kernel_rfl) (by kernel_rfl) rfl (by simp only [List.forall_mem_cons, List.not_mem_nil, false_imp_iff, implies_true, and_true]; exact ⟨rfl, rfl, rfl, rfl⟩) HVIn.out () ?startn ?stepn ?finn)
          case startn => exact (Below.refl _ _).drew
          case stepn =>
            intro gg_ hgN hgF ii_ hii_ L z w' hph hs hu
            have hF0 := hgF (0, .slice (some ⟨ga, qa, none⟩) na ca) (by simp)
            have hF1 := hgF (1, .slice (some ⟨gb, qb, none⟩) nb cb) (by simp)
            have hF6 := hgF (6, .int .i64 (i : Int)) (by simp)
            have hF7 := hgF (7, .int .i64 (j : Int)) (by simp)
            have hL := hu.1
            have hii_ : ii_ < 24 := hii_
            clear hgF
            obtain rfl | rfl | rfl | rfl | rfl | rfl | rfl | rfl | rfl | rfl | rfl | rfl | rfl | rfl | rfl | rfl | rfl | rfl | rfl | rfl | rfl | rfl | rfl | rfl := (by omega : ii_ = 0 ∨ ii_ = 1 ∨ ii_ = 2 ∨ ii_ = 3 ∨ ii_ = 4 ∨ ii_ = 5 ∨ ii_ = 6 ∨ ii_ = 7 ∨ ii_ = 8 ∨ ii_ = 9 ∨ ii_ = 10 ∨ ii_ = 11 ∨ ii_ = 12 ∨ ii_ = 13 ∨ ii_ = 14 ∨ ii_ = 15 ∨ ii_ = 16 ∨ ii_ = 17 ∨ ii_ = 18 ∨ ii_ = 19 ∨ ii_ = 20 ∨ ii_ = 21 ∨ ii_ = 22 ∨ ii_ = 23)
            · skip
              have e7 : (many gg_ L (VLn z))[7]?.getD undef = .int .i64 (j : Int) := many_out3 hgN (HOKn.out z) (by rw [HVLn.out]; rfl) hF7
              refine opIn_run (v := .int .i64 (j : Int)) (w' := w') rfl rfl (fun c h => by cases h) (fun _ => trivial) ?_ ⟨z, by exact many_put3 (HOKn.out _) (by rw [HVLn.out]; rfl) hL, hph⟩
              go_simp
            · skip
              have e1 : (many gg_ L (VLn z))[1]?.getD undef = .slice (some ⟨gb, qb, none⟩) nb cb := many_out3 hgN (HOKn.out z) (by rw [HVLn.out]; rfl) hF1
              refine opIn_run (v := .slice (some ⟨gb, qb, none⟩) nb cb) (w' := w') rfl rfl (fun c h => by cases h) (fun _ => trivial) ?_ ⟨z, by exact many_put3 (HOKn.out _) (by rw [HVLn.out]; rfl) hL, hph⟩
              go_simp
            · skip
              have y1 : L 1 = true := up_at hu 1 (by kernel_rfl)
              have e19 : (many gg_ L (VLn z))[19]?.getD undef = .slice (some ⟨gb, qb, none⟩) nb cb := many_eval3 hgN (HOKn.out z) (by rw [HVLn.out]; rfl) y1
              refine opIn_run (v := .int .i64 (nb : Int)) (w' := w') rfl rfl (fun c h => by cases h) (fun _ => trivial) ?_ ⟨z, by exact many_put3 (HOKn.out _) (by rw [HVLn.out]; rfl) hL, hph⟩
              go_simp
            · skip
              have y0 : L 0 = true := up_at hu 0 (by kernel_rfl)
              have y2 : L 2 = true := up_at hu 2 (by kernel_rfl)
              have e18 : (many gg_ L (VLn z))[18]?.getD undef = .int .i64 (j : Int) := many_eval3 hgN (HOKn.out z) (by rw [HVLn.out]; rfl) y0
              have e20 : (many gg_ L (VLn z))[20]?.getD undef = .int .i64 (nb : Int) := many_eval3 hgN (HOKn.out z) (by rw [HVLn.out]; rfl) y2
              refine opIn_run (v := .bool false) (w' := w') rfl rfl (fun c h => by cases h) (fun _ => trivial) ?_ ⟨z, by exact many_put3 (HOKn.out _) (by rw [HVLn.out]; rfl) hL, hph⟩
              go_simp
            · skip
              have y3 : L 3 = true := up_at hu 3 (by kernel_rfl)
              have e21 : (many gg_ L (VLn z))[21]?.getD undef = .bool false := many_eval3 hgN (HOKn.out z) (by rw [HVLn.out]; rfl) y3
              refine opIn_run (v := .bool false) (w' := w') rfl rfl (fun c h => by cases h) (fun _ => trivial) ?_ ⟨z, by exact many_put3 (HOKn.out _) (by rw [HVLn.out]; rfl) hL, hph⟩
              go_simp
            · skip
              have y4 : L 4 = true := up_at hu 4 (by kernel_rfl)
              have e6 : (many gg_ L (VLn z))[6]?.getD undef = .int .i64 (i : Int) := many_out3 hgN (HOKn.out z) (by rw [HVLn.out]; rfl) hF6
              have e22 : (many gg_ L (VLn z))[22]?.getD undef = .bool false := many_eval3 hgN (HOKn.out z) (by rw [HVLn.out]; rfl) y4
              refine opIn_run_g (v := .int .i64 (i : Int)) (w' := w') (j := 4) (b := false) rfl rfl (by simp [yielded, many_some hgN (show 22 < 61 by decide) e22]) (fun c h => by cases h) (fun _ => trivial) ?_ ⟨z, by exact many_put3 (HOKn.out _) (by rw [HVLn.out]; rfl) hL, hph⟩
              go_simp
            · skip
              have y4 : L 4 = true := up_at hu 4 (by kernel_rfl)
              have e0 : (many gg_ L (VLn z))[0]?.getD undef = .slice (some ⟨ga, qa, none⟩) na ca := many_out3 hgN (HOKn.out z) (by rw [HVLn.out]; rfl) hF0
              have e22 : (many gg_ L (VLn z))[22]?.getD undef = .bool false := many_eval3 hgN (HOKn.out z) (by rw [HVLn.out]; rfl) y4
              refine opIn_run_g (v := .slice (some ⟨ga, qa, none⟩) na ca) (w' := w') (j := 4) (b := false) rfl rfl (by simp [yielded, many_some hgN (show 22 < 61 by decide) e22]) (fun c h => by cases h) (fun _ => trivial) ?_ ⟨z, by exact many_put3 (HOKn.out _) (by rw [HVLn.out]; rfl) hL, hph⟩
              go_simp
            · skip
              have y4 : L 4 = true := up_at hu 4 (by kernel_rfl)
              have y6 : L 6 = true := up_at hu 6 (by kernel_rfl)
              have e22 : (many gg_ L (VLn z))[22]?.getD undef = .bool false := many_eval3 hgN (HOKn.out z) (by rw [HVLn.out]; rfl) y4
              have e24 : (many gg_ L (VLn z))[24]?.getD undef = .slice (some ⟨ga, qa, none⟩) na ca := many_eval3 hgN (HOKn.out z) (by rw [HVLn.out]; rfl) y6
              refine opIn_run_g (v := .int .i64 (na : Int)) (w' := w') (j := 4) (b := false) rfl rfl (by simp [yielded, many_some hgN (show 22 < 61 by decide) e22]) (fun c h => by cases h) (fun _ => trivial) ?_ ⟨z, by exact many_put3 (HOKn.out _) (by rw [HVLn.out]; rfl) hL, hph⟩
              go_simp
            · skip
              have y4 : L 4 = true := up_at hu 4 (by kernel_rfl)
              have y5 : L 5 = true := up_at hu 5 (by kernel_rfl)
              have y7 : L 7 = true := up_at hu 7 (by kernel_rfl)
              have e22 : (many gg_ L (VLn z))[22]?.getD undef = .bool false := many_eval3 hgN (HOKn.out z) (by rw [HVLn.out]; rfl) y4
              have e23 : (many gg_ L (VLn z))[23]?.getD undef = .int .i64 (i : Int) := many_eval3 hgN (HOKn.out z) (by rw [HVLn.out]; rfl) y5
              have e25 : (many gg_ L (VLn z))[25]?.getD undef = .int .i64 (na : Int) := many_eval3 hgN (HOKn.out z) (by rw [HVLn.out]; rfl) y7
              refine opIn_run_g (v := .bool true) (w' := w') (j := 4) (b := false) rfl rfl (by simp [yielded, many_some hgN (show 22 < 61 by decide) e22]) (fun c h => by cases h) (fun _ => trivial) ?_ ⟨z, by exact many_put3 (HOKn.out _) (by rw [HVLn.out]; rfl) hL, hph⟩
              go_simp
            · skip
              have y4 : L 4 = true := up_at hu 4 (by kernel_rfl)
              have y8 : L 8 = true := up_at hu 8 (by kernel_rfl)
              have e22 : (many gg_ L (VLn z))[22]?.getD undef = .bool false := many_eval3 hgN (HOKn.out z) (by rw [HVLn.out]; rfl) y4
              have e26 : (many gg_ L (VLn z))[26]?.getD undef = .bool true := many_eval3 hgN (HOKn.out z) (by rw [HVLn.out]; rfl) y8
              refine opIn_run_g (v := .bool true) (w' := w') (j := 4) (b := false) rfl rfl (by simp [yielded, many_some hgN (show 22 < 61 by decide) e22]) (fun c h => by cases h) (fun _ => trivial) ?_ ⟨z, by exact many_put3 (HOKn.out _) (by rw [HVLn.out]; rfl) hL, hph⟩
              go_simp
            · skip
              have y9 : L 9 = true := up_at hu 9 (by kernel_rfl)
              have e1 : (many gg_ L (VLn z))[1]?.getD undef = .slice (some ⟨gb, qb, none⟩) nb cb := many_out3 hgN (HOKn.out z) (by rw [HVLn.out]; rfl) hF1
              have e27 : (many gg_ L (VLn z))[27]?.getD undef = .bool true := many_eval3 hgN (HOKn.out z) (by rw [HVLn.out]; rfl) y9
              refine opIn_run_g (v := .slice (some ⟨gb, qb, none⟩) nb cb) (w' := w') (j := 9) (b := true) rfl rfl (by simp [yielded, many_some hgN (show 27 < 61 by decide) e27]) (fun c h => by cases h) (fun _ => trivial) ?_ ⟨z, by exact many_put3 (HOKn.out _) (by rw [HVLn.out]; rfl) hL, hph⟩
              go_simp
            · skip
              have y9 : L 9 = true := up_at hu 9 (by kernel_rfl)
              have e7 : (many gg_ L (VLn z))[7]?.getD undef = .int .i64 (j : Int) := many_out3 hgN (HOKn.out z) (by rw [HVLn.out]; rfl) hF7
              have e27 : (many gg_ L (VLn z))[27]?.getD undef = .bool true := many_eval3 hgN (HOKn.out z) (by rw [HVLn.out]; rfl) y9
              refine opIn_run_g (v := .int .i64 (j : Int)) (w' := w') (j := 9) (b := true) rfl rfl (by simp [yielded, many_some hgN (show 27 < 61 by decide) e27]) (fun c h => by cases h) (fun _ => trivial) ?_ ⟨z, by exact many_put3 (HOKn.out _) (by rw [HVLn.out]; rfl) hL, hph⟩
              go_simp
            · skip
              have y9 : L 9 = true := up_at hu 9 (by kernel_rfl)
              have y10 : L 10 = true := up_at hu 10 (by kernel_rfl)
              have y11 : L 11 = true := up_at hu 11 (by kernel_rfl)
              have e27 : (many gg_ L (VLn z))[27]?.getD undef = .bool true := many_eval3 hgN (HOKn.out z) (by rw [HVLn.out]; rfl) y9
              have e28 : (many gg_ L (VLn z))[28]?.getD undef = .slice (some ⟨gb, qb, none⟩) nb cb := many_eval3 hgN (HOKn.out z) (by rw [HVLn.out]; rfl) y10
              have e29 : (many gg_ L (VLn z))[29]?.getD undef = .int .i64 (j : Int) := many_eval3 hgN (HOKn.out z) (by rw [HVLn.out]; rfl) y11
              refine opIn_run_g (v := .pointer (some ⟨gb, qb + j * 10, none⟩)) (w' := w') (j := 9) (b := true) rfl rfl (by simp [yielded, many_some hgN (show 27 < 61 by decide) e27]) (fun c h => by cases h) (fun _ => trivial) ?_ ⟨z, by exact many_put3 (HOKn.out _) (by rw [HVLn.out]; rfl) hL, hph⟩
              have hj0 : ¬ (j : Int) < 0 := by omega
              go_simp
            · skip
              have y9 : L 9 = true := up_at hu 9 (by kernel_rfl)
              have y12 : L 12 = true := up_at hu 12 (by kernel_rfl)
              have e27 : (many gg_ L (VLn z))[27]?.getD undef = .bool true := many_eval3 hgN (HOKn.out z) (by rw [HVLn.out]; rfl) y9
              have e30 : (many gg_ L (VLn z))[30]?.getD undef = .pointer (some ⟨gb, qb + j * 10, none⟩) := many_eval3 hgN (HOKn.out z) (by rw [HVLn.out]; rfl) y12
              refine opIn_run_g (v := .pointer (some ⟨gb, qb + j * 10 + 4, none⟩)) (w' := w') (j := 9) (b := true) rfl rfl (by simp [yielded, many_some hgN (show 27 < 61 by decide) e27]) (fun c h => by cases h) (fun _ => trivial) ?_ ⟨z, by exact many_put3 (HOKn.out _) (by rw [HVLn.out]; rfl) hL, hph⟩
              go_simp
            · skip
              have y9 : L 9 = true := up_at hu 9 (by kernel_rfl)
              have y13 : L 13 = true := up_at hu 13 (by kernel_rfl)
              obtain ⟨p0, p1, p2, p3, p4, p5, p6, p7, p8, p9⟩ := row10 (show World.rangeAt w' _ _ _ from fun j_ v_ hv_ => ((HI.out.2.2.2.trans (hph.mono HI.out.2.2.2.size)).cell (p := ⟨gb, _, none⟩) Hy.out.2.2.1).trans (Hy.out.2.2.2 j_ v_ hv_)) Hy.out.2.1
              have e27 : (many gg_ L (VLn z))[27]?.getD undef = .bool true := many_eval3 hgN (HOKn.out z) (by rw [HVLn.out]; rfl) y9
              have e31 : (many gg_ L (VLn z))[31]?.getD undef = .pointer (some ⟨gb, qb + j * 10 + 4, none⟩) := many_eval3 hgN (HOKn.out z) (by rw [HVLn.out]; rfl) y13
              refine opIn_run_g (v := .agg #[.int .i64 b0, .int .i64 b1, .int .i64 b2, .int .i64 b3, .int .i64 b4, .int .i64 b5]) (w' := w') (j := 9) (b := true) rfl rfl (by simp [yielded, many_some hgN (show 27 < 61 by decide) e27]) (fun c h => by cases h) (fun _ => trivial) ?_ ⟨z, by exact many_put3 (HOKn.out _) (by rw [HVLn.out]; rfl) hL, hph⟩
              go_simp
            · skip
              have y9 : L 9 = true := up_at hu 9 (by kernel_rfl)
              have e0 : (many gg_ L (VLn z))[0]?.getD undef = .slice (some ⟨ga, qa, none⟩) na ca := many_out3 hgN (HOKn.out z) (by rw [HVLn.out]; rfl) hF0
              have e27 : (many gg_ L (VLn z))[27]?.getD undef = .bool true := many_eval3 hgN (HOKn.out z) (by rw [HVLn.out]; rfl) y9
              refine opIn_run_g (v := .slice (some ⟨ga, qa, none⟩) na ca) (w' := w') (j := 9) (b := true) rfl rfl (by simp [yielded, many_some hgN (show 27 < 61 by decide) e27]) (fun c h => by cases h) (fun _ => trivial) ?_ ⟨z, by exact many_put3 (HOKn.out _) (by rw [HVLn.out]; rfl) hL, hph⟩
              go_simp
            · skip
              have y9 : L 9 = true := up_at hu 9 (by kernel_rfl)
              have e6 : (many gg_ L (VLn z))[6]?.getD undef = .int .i64 (i : Int) := many_out3 hgN (HOKn.out z) (by rw [HVLn.out]; rfl) hF6
              have e27 : (many gg_ L (VLn z))[27]?.getD undef = .bool true := many_eval3 hgN (HOKn.out z) (by rw [HVLn.out]; rfl) y9
              refine opIn_run_g (v := .int .i64 (i : Int)) (w' := w') (j := 9) (b := true) rfl rfl (by simp [yielded, many_some hgN (show 27 < 61 by decide) e27]) (fun c h => by cases h) (fun _ => trivial) ?_ ⟨z, by exact many_put3 (HOKn.out _) (by rw [HVLn.out]; rfl) hL, hph⟩
              go_simp
            · skip
              have y9 : L 9 = true := up_at hu 9 (by kernel_rfl)
              have y15 : L 15 = true := up_at hu 15 (by kernel_rfl)
              have y16 : L 16 = true := up_at hu 16 (by kernel_rfl)
              have e27 : (many gg_ L (VLn z))[27]?.getD undef = .bool true := many_eval3 hgN (HOKn.out z) (by rw [HVLn.out]; rfl) y9
              have e33 : (many gg_ L (VLn z))[33]?.getD undef = .slice (some ⟨ga, qa, none⟩) na ca := many_eval3 hgN (HOKn.out z) (by rw [HVLn.out]; rfl) y15
              have e34 : (many gg_ L (VLn z))[34]?.getD undef = .int .i64 (i : Int) := many_eval3 hgN (HOKn.out z) (by rw [HVLn.out]; rfl) y16
              refine opIn_run_g (v := .pointer (some ⟨ga, qa + i * 10, none⟩)) (w' := w') (j := 9) (b := true) rfl rfl (by simp [yielded, many_some hgN (show 27 < 61 by decide) e27]) (fun c h => by cases h) (fun _ => trivial) ?_ ⟨z, by exact many_put3 (HOKn.out _) (by rw [HVLn.out]; rfl) hL, hph⟩
              have hj0 : ¬ (i : Int) < 0 := by omega
              go_simp
            · skip
              have y9 : L 9 = true := up_at hu 9 (by kernel_rfl)
              have y17 : L 17 = true := up_at hu 17 (by kernel_rfl)
              have e27 : (many gg_ L (VLn z))[27]?.getD undef = .bool true := many_eval3 hgN (HOKn.out z) (by rw [HVLn.out]; rfl) y9
              have e35 : (many gg_ L (VLn z))[35]?.getD undef = .pointer (some ⟨ga, qa + i * 10, none⟩) := many_eval3 hgN (HOKn.out z) (by rw [HVLn.out]; rfl) y17
              refine opIn_run_g (v := .pointer (some ⟨ga, qa + i * 10 + 4, none⟩)) (w' := w') (j := 9) (b := true) rfl rfl (by simp [yielded, many_some hgN (show 27 < 61 by decide) e27]) (fun c h => by cases h) (fun _ => trivial) ?_ ⟨z, by exact many_put3 (HOKn.out _) (by rw [HVLn.out]; rfl) hL, hph⟩
              go_simp
            · skip
              have y9 : L 9 = true := up_at hu 9 (by kernel_rfl)
              have y18 : L 18 = true := up_at hu 18 (by kernel_rfl)
              obtain ⟨p0, p1, p2, p3, p4, p5, p6, p7, p8, p9⟩ := row10 (show World.rangeAt w' _ _ _ from fun j_ v_ hv_ => ((HI.out.2.2.2.trans (hph.mono HI.out.2.2.2.size)).cell (p := ⟨ga, _, none⟩) Hx.out.2.2.1).trans (Hx.out.2.2.2 j_ v_ hv_)) Hx.out.2.1
              have e27 : (many gg_ L (VLn z))[27]?.getD undef = .bool true := many_eval3 hgN (HOKn.out z) (by rw [HVLn.out]; rfl) y9
              have e36 : (many gg_ L (VLn z))[36]?.getD undef = .pointer (some ⟨ga, qa + i * 10 + 4, none⟩) := many_eval3 hgN (HOKn.out z) (by rw [HVLn.out]; rfl) y18
              refine opIn_run_g (v := .agg #[.int .i64 a0, .int .i64 a1, .int .i64 a2, .int .i64 a3, .int .i64 a4, .int .i64 a5]) (w' := w') (j := 9) (b := true) rfl rfl (by simp [yielded, many_some hgN (show 27 < 61 by decide) e27]) (fun c h => by cases h) (fun _ => trivial) ?_ ⟨z, by exact many_put3 (HOKn.out _) (by rw [HVLn.out]; rfl) hL, hph⟩
              go_simp
            · skip
              have y9 : L 9 = true := up_at hu 9 (by kernel_rfl)
              have y14 : L 14 = true := up_at hu 14 (by kernel_rfl)
              have y19 : L 19 = true := up_at hu 19 (by kernel_rfl)
              have e27 : (many gg_ L (VLn z))[27]?.getD undef = .bool true := many_eval3 hgN (HOKn.out z) (by rw [HVLn.out]; rfl) y9
              have e32 : (many gg_ L (VLn z))[32]?.getD undef = .agg #[.int .i64 b0, .int .i64 b1, .int .i64 b2, .int .i64 b3, .int .i64 b4, .int .i64 b5] := many_eval3 hgN (HOKn.out z) (by rw [HVLn.out]; rfl) y14
              have e37 : (many gg_ L (VLn z))[37]?.getD undef = .agg #[.int .i64 a0, .int .i64 a1, .int .i64 a2, .int .i64 a3, .int .i64 a4, .int .i64 a5] := many_eval3 hgN (HOKn.out z) (by rw [HVLn.out]; rfl) y19
              refine opIn_call_g (f := 58) (args := #[.agg #[.int .i64 b0, .int .i64 b1, .int .i64 b2, .int .i64 b3, .int .i64 b4, .int .i64 b5], .agg #[.int .i64 a0, .int .i64 a1, .int .i64 a2, .int .i64 a3, .int .i64 a4, .int .i64 a5]]) (w' := w') (j := 9) (b := true) rfl rfl (by simp [yielded, many_some hgN (show 27 < 61 by decide) e27]) (fun c h => by cases h) (fun _ => trivial) rfl (by go_simp) ((callsIn_wide.2 (LS.out w')).mono ?_)
              rintro e w2 ⟨rfl, hb⟩
              exact ⟨_, rfl, z, by exact many_put3 (HOKn.out _) (by rw [HVLn.out]; rfl) hL, hph.trans (hb.mono hph.size)⟩
            · skip
              have y9 : L 9 = true := up_at hu 9 (by kernel_rfl)
              have y20 : L 20 = true := up_at hu 20 (by kernel_rfl)
              have e27 : (many gg_ L (VLn z))[27]?.getD undef = .bool true := many_eval3 hgN (HOKn.out z) (by rw [HVLn.out]; rfl) y9
              have e38 : (many gg_ L (VLn z))[38]?.getD undef = .bool false := many_eval3 hgN (HOKn.out z) (by rw [HVLn.out]; rfl) y20
              refine opIn_run_g (v := .bool true) (w' := w') (j := 9) (b := true) rfl rfl (by simp [yielded, many_some hgN (show 27 < 61 by decide) e27]) (fun c h => by cases h) (fun _ => trivial) ?_ ⟨z, by exact many_put3 (HOKn.out _) (by rw [HVLn.out]; rfl) hL, hph⟩
              go_simp
            · skip
              have y4 : L 4 = true := up_at hu 4 (by kernel_rfl)
              have y9 : L 9 = true := up_at hu 9 (by kernel_rfl)
              have y21 : L 21 = true := up_at hu 21 (by kernel_rfl)
              have e22 : (many gg_ L (VLn z))[22]?.getD undef = .bool false := many_eval3 hgN (HOKn.out z) (by rw [HVLn.out]; rfl) y4
              have e27 : (many gg_ L (VLn z))[27]?.getD undef = .bool true := many_eval3 hgN (HOKn.out z) (by rw [HVLn.out]; rfl) y9
              have e39 : (many gg_ L (VLn z))[39]?.getD undef = .bool true := many_eval3 hgN (HOKn.out z) (by rw [HVLn.out]; rfl) y21
              refine opIn_run_g (v := .bool true) (w' := w') (j := 4) (b := false) rfl rfl (by simp [yielded, many_some hgN (show 22 < 61 by decide) e22]) (fun c h => by cases h) (fun _ => trivial) ?_ ⟨z, by exact many_put3 (HOKn.out _) (by rw [HVLn.out]; rfl) hL, hph⟩
              go_simp
            · skip
              have y4 : L 4 = true := up_at hu 4 (by kernel_rfl)
              have y22 : L 22 = true := up_at hu 22 (by kernel_rfl)
              have e22 : (many gg_ L (VLn z))[22]?.getD undef = .bool false := many_eval3 hgN (HOKn.out z) (by rw [HVLn.out]; rfl) y4
              have e40 : (many gg_ L (VLn z))[40]?.getD undef = .bool true := many_eval3 hgN (HOKn.out z) (by rw [HVLn.out]; rfl) y22
              refine opIn_run (v := .bool true) (w' := w') rfl rfl (fun c h => by cases h) (fun _ => trivial) ?_ ⟨z, by exact many_put3 (HOKn.out _) (by rw [HVLn.out]; rfl) hL, hph⟩
              go_simp
          case finn =>
            intro L z w' hall hph
            rw [HVLn.out]
            dsimp only [manyL, List.set_cons_zero, List.set_cons_succ]
            clear hall HVLn HOKn HVIn
            obtain ⟨wb, hwb⟩ : ∃ W, W = w' := ⟨_, rfl⟩
            subst hwb
            have HBb : Hid (Below w.heap.size w wb) := Lib.hid (HI.out.2.2.2.trans (hph.mono HI.out.2.2.2.size))
            have hob : wb.ownsRow w.heap.size 78 10 (.slice Va (i + j) Vc) (i + j) (out.flatMap (encK o)) := ownsRow_keep HI.out.1 hph.size (fun k hk => hph.block k (own_lt HI.out.1 hk).2)
            obtain ⟨X, hX⟩ : ∃ X, wb.alloc (.cells #[.int .i64 x.ly, .int .i64 x.rs, .int .i64 x.cp, .int .i64 x.pc, .int .i64 a0, .int .i64 a1, .int .i64 a2, .int .i64 a3, .int .i64 a4, .int .i64 a5] 78) = X := ⟨_, rfl⟩
            obtain ⟨zx, hzx⟩ : ∃ z, wb.heap.size = z := ⟨_, rfl⟩
            have hzX : X.heap[zx]? = some (.cells (encK o x).toArray 78 (0, 0)) := by rw [← hX, ← hzx, encK_arr Hx.out.2.1]; exact World.alloc_heap_new wb _
            have hbX : Below wb.heap.size wb X := by rw [← hX]; exact (Below.refl _ _).alloc (Nat.le_refl _) _
            have hoX : X.ownsRow w.heap.size 78 10 (.slice Va (i + j) Vc) (i + j) (out.flatMap (encK o)) := ownsRow_keep hob hbX.size (fun k hk => hbX.block k (own_lt hob hk).2)
            obtain ⟨V', w7, hr, ho7, hg7⟩ := app_rk hoX hzX (Nat.le_trans HBb.out.size hbX.size) (by omega)
            obtain ⟨A7, c7, rfl, _⟩ := own_any ho7
            have HN : Hid (w7.ownsRow w.heap.size 78 10 (.slice A7 (i + j + 1) c7) (i + j + 1) ((out ++ [x]).flatMap (encK o)) ∧ (out ++ [x]).length = i + j + 1 ∧ (out ++ [x]) ++ (A.drop (i + 1)).merge (B.drop (j)) (leK o) = T ∧ Below w.heap.size w w7) := Lib.hid (by
              refine ⟨by simpa using ho7, by simp [HI.out.2.1], ?_, (HBb.out.trans (hbX.mono HBb.out.size)).grown hg7 (Nat.le_trans HBb.out.size hbX.size) (fun k e => (own_lt hoX e).1)⟩
              rw [← HI.out.2.2.1, mg_left Hx.out.1 (.inr ⟨y, Hy.out.1, HLX.out⟩), List.append_assoc]
              rfl)
            obtain ⟨r0, r1, r2, r3, r4, r5, r6, r7, r8, r9⟩ := row10 (show World.rangeAt wb _ _ _ from fun j_ v_ hv_ => (HBb.out.cell (p := ⟨ga, _, none⟩) Hx.out.2.2.1).trans (Hx.out.2.2.2 j_ v_ hv_)) Hx.out.2.1
            have hk0 : ¬ (i : Int) < 0 ∧ (0 : Int) ≤ (i : Int) := by omega
            have hb13 : (i : Int) ≤ 13000000 := by omega
            clear hob hzX hbX hoX ho7 hg7 hph HI HBb
            go_wp2_with fail
            go_roundg g1
            case measure => omega
            case rel => exact ⟨i + 1, j, out ++ [x], A7, c7, by omega, by omega, by omega, by first | rfl | (congr 1; omega), by go_num, by go_num, by first | exact HN | (rw [show i + 1 + (j) = i + j + 1 by omega]; exact HN)⟩
        | true =>
          have HLX := Lib.hid hlx
          have LS : Hid (∀ u, Calls Try.prog 58 #[.agg #[.int .i64 b0, .int .i64 b1, .int .i64 b2, .int .i64 b3, .int .i64 b4, .int .i64 b5], .agg #[.int .i64 a0, .int .i64 a1, .int .i64 a2, .int .i64 a3, .int .i64 a4, .int .i64 a5]] u fun e w' => e = .returned (.bool true) ∧ Below u.heap.size u w') := Lib.hid (fun u => by
            have h := rless_any (Pk.rk_len o y) (Pk.rk_len o x) u
            rw [hlx, Hy.out.2.1, Hx.out.2.1] at h
            exact h)
          clear hlx
          go_upto_region 4 with fail
          obtain ⟨VLl, hVL⟩ : ∃ VL : Unit → List (Nat × Nat × Value), VL = fun z => [(0, 18, .int .i64 (j : Int)), (1, 19, .slice (some ⟨gb, qb, none⟩) nb cb), (2, 20, .int .i64 (nb : Int)), (3, 21, .bool false), (4, 22, .bool false), (5, 23, .int .i64 (i : Int)), (6, 24, .slice (some ⟨ga, qa, none⟩) na ca), (7, 25, .int .i64 (na : Int)), (8, 26, .bool true), (9, 27, .bool true), (10, 28, .slice (some ⟨gb, qb, none⟩) nb cb), (11, 29, .int .i64 (j : Int)), (12, 30, .pointer (some ⟨gb, qb + j * 10, none⟩)), (13, 31, .pointer (some ⟨gb, qb + j * 10 + 4, none⟩)), (14, 32, .agg #[.int .i64 b0, .int .i64 b1, .int .i64 b2, .int .i64 b3, .int .i64 b4, .int .i64 b5]), (15, 33, .slice (some ⟨ga, qa, none⟩) na ca), (16, 34, .int .i64 (i : Int)), (17, 35, .pointer (some ⟨ga, qa + i * 10, none⟩)), (18, 36, .pointer (some ⟨ga, qa + i * 10 + 4, none⟩)), (19, 37, .agg #[.int .i64 a0, .int .i64 a1, .int .i64 a2, .int .i64 a3, .int .i64 a4, .int .i64 a5]), (20, 38, .bool true), (21, 39, .bool false), (22, 40, .bool false), (23, 41, .bool false)] := ⟨_, rfl⟩
          have hok : ∀ z, manyOk 61 (VLl z) := fun z => by rw [hVL]; exact okB_ok rfl
          have HVLl := Lib.hid hVL
          have hvi : ∀ z, ∀ x ∈ VLl z, x.1 < 24 := fun z => by rw [hVL]; exact ltB_ok rfl
          have HOKl := Lib.hid hok
          have HVIl := Lib.hid hvi
          clear hVL hok hvi
          refine (wpIn_wide (n := 9)).1 (regionIn_many (N := 61) (w := _) VLl (fun L z w' => Below wa.heap.size wa w') [(0, .slice (some ⟨ga, qa, none⟩) na ca), (1, .slice (some ⟨gb, qb, none⟩) nb cb), (6, .int .i64 (i : Int)), (7, .int .i64 (j : Int))] (by kernel_rfl) (by kernel_rfl) rfl (by simp only [List.forall_mem_cons, List.not_mem_nil, false_imp_iff, implies_true, and_true]; exact ⟨rfl, rfl, rfl, rfl⟩) HVIl.out () ?startl ?stepl ?finl)
          case startl => exact (Below.refl _ _).drew
          case stepl =>
            intro gg_ hgN hgF ii_ hii_ L z w' hph hs hu
            have hF0 := hgF (0, .slice (some ⟨ga, qa, none⟩) na ca) (by simp)
            have hF1 := hgF (1, .slice (some ⟨gb, qb, none⟩) nb cb) (by simp)
            have hF6 := hgF (6, .int .i64 (i : Int)) (by simp)
            have hF7 := hgF (7, .int .i64 (j : Int)) (by simp)
            have hL := hu.1
            have hii_ : ii_ < 24 := hii_
            clear hgF
            obtain rfl | rfl | rfl | rfl | rfl | rfl | rfl | rfl | rfl | rfl | rfl | rfl | rfl | rfl | rfl | rfl | rfl | rfl | rfl | rfl | rfl | rfl | rfl | rfl := (by omega : ii_ = 0 ∨ ii_ = 1 ∨ ii_ = 2 ∨ ii_ = 3 ∨ ii_ = 4 ∨ ii_ = 5 ∨ ii_ = 6 ∨ ii_ = 7 ∨ ii_ = 8 ∨ ii_ = 9 ∨ ii_ = 10 ∨ ii_ = 11 ∨ ii_ = 12 ∨ ii_ = 13 ∨ ii_ = 14 ∨ ii_ = 15 ∨ ii_ = 16 ∨ ii_ = 17 ∨ ii_ = 18 ∨ ii_ = 19 ∨ ii_ = 20 ∨ ii_ = 21 ∨ ii_ = 22 ∨ ii_ = 23)
            · skip
              have e7 : (many gg_ L (VLl z))[7]?.getD undef = .int .i64 (j : Int) := many_out3 hgN (HOKl.out z) (by rw [HVLl.out]; rfl) hF7
              refine opIn_run (v := .int .i64 (j : Int)) (w' := w') rfl rfl (fun c h => by cases h) (fun _ => trivial) ?_ ⟨z, by exact many_put3 (HOKl.out _) (by rw [HVLl.out]; rfl) hL, hph⟩
              go_simp
            · skip
              have e1 : (many gg_ L (VLl z))[1]?.getD undef = .slice (some ⟨gb, qb, none⟩) nb cb := many_out3 hgN (HOKl.out z) (by rw [HVLl.out]; rfl) hF1
              refine opIn_run (v := .slice (some ⟨gb, qb, none⟩) nb cb) (w' := w') rfl rfl (fun c h => by cases h) (fun _ => trivial) ?_ ⟨z, by exact many_put3 (HOKl.out _) (by rw [HVLl.out]; rfl) hL, hph⟩
              go_simp
            · skip
              have y1 : L 1 = true := up_at hu 1 (by kernel_rfl)
              have e19 : (many gg_ L (VLl z))[19]?.getD undef = .slice (some ⟨gb, qb, none⟩) nb cb := many_eval3 hgN (HOKl.out z) (by rw [HVLl.out]; rfl) y1
              refine opIn_run (v := .int .i64 (nb : Int)) (w' := w') rfl rfl (fun c h => by cases h) (fun _ => trivial) ?_ ⟨z, by exact many_put3 (HOKl.out _) (by rw [HVLl.out]; rfl) hL, hph⟩
              go_simp
            · skip
              have y0 : L 0 = true := up_at hu 0 (by kernel_rfl)
              have y2 : L 2 = true := up_at hu 2 (by kernel_rfl)
              have e18 : (many gg_ L (VLl z))[18]?.getD undef = .int .i64 (j : Int) := many_eval3 hgN (HOKl.out z) (by rw [HVLl.out]; rfl) y0
              have e20 : (many gg_ L (VLl z))[20]?.getD undef = .int .i64 (nb : Int) := many_eval3 hgN (HOKl.out z) (by rw [HVLl.out]; rfl) y2
              refine opIn_run (v := .bool false) (w' := w') rfl rfl (fun c h => by cases h) (fun _ => trivial) ?_ ⟨z, by exact many_put3 (HOKl.out _) (by rw [HVLl.out]; rfl) hL, hph⟩
              go_simp
            · skip
              have y3 : L 3 = true := up_at hu 3 (by kernel_rfl)
              have e21 : (many gg_ L (VLl z))[21]?.getD undef = .bool false := many_eval3 hgN (HOKl.out z) (by rw [HVLl.out]; rfl) y3
              refine opIn_run (v := .bool false) (w' := w') rfl rfl (fun c h => by cases h) (fun _ => trivial) ?_ ⟨z, by exact many_put3 (HOKl.out _) (by rw [HVLl.out]; rfl) hL, hph⟩
              go_simp
            · skip
              have y4 : L 4 = true := up_at hu 4 (by kernel_rfl)
              have e6 : (many gg_ L (VLl z))[6]?.getD undef = .int .i64 (i : Int) := many_out3 hgN (HOKl.out z) (by rw [HVLl.out]; rfl) hF6
              have e22 : (many gg_ L (VLl z))[22]?.getD undef = .bool false := many_eval3 hgN (HOKl.out z) (by rw [HVLl.out]; rfl) y4
              refine opIn_run_g (v := .int .i64 (i : Int)) (w' := w') (j := 4) (b := false) rfl rfl (by simp [yielded, many_some hgN (show 22 < 61 by decide) e22]) (fun c h => by cases h) (fun _ => trivial) ?_ ⟨z, by exact many_put3 (HOKl.out _) (by rw [HVLl.out]; rfl) hL, hph⟩
              go_simp
            · skip
              have y4 : L 4 = true := up_at hu 4 (by kernel_rfl)
              have e0 : (many gg_ L (VLl z))[0]?.getD undef = .slice (some ⟨ga, qa, none⟩) na ca := many_out3 hgN (HOKl.out z) (by rw [HVLl.out]; rfl) hF0
              have e22 : (many gg_ L (VLl z))[22]?.getD undef = .bool false := many_eval3 hgN (HOKl.out z) (by rw [HVLl.out]; rfl) y4
              refine opIn_run_g (v := .slice (some ⟨ga, qa, none⟩) na ca) (w' := w') (j := 4) (b := false) rfl rfl (by simp [yielded, many_some hgN (show 22 < 61 by decide) e22]) (fun c h => by cases h) (fun _ => trivial) ?_ ⟨z, by exact many_put3 (HOKl.out _) (by rw [HVLl.out]; rfl) hL, hph⟩
              go_simp
            · skip
              have y4 : L 4 = true := up_at hu 4 (by kernel_rfl)
              have y6 : L 6 = true := up_at hu 6 (by kernel_rfl)
              have e22 : (many gg_ L (VLl z))[22]?.getD undef = .bool false := many_eval3 hgN (HOKl.out z) (by rw [HVLl.out]; rfl) y4
              have e24 : (many gg_ L (VLl z))[24]?.getD undef = .slice (some ⟨ga, qa, none⟩) na ca := many_eval3 hgN (HOKl.out z) (by rw [HVLl.out]; rfl) y6
              refine opIn_run_g (v := .int .i64 (na : Int)) (w' := w') (j := 4) (b := false) rfl rfl (by simp [yielded, many_some hgN (show 22 < 61 by decide) e22]) (fun c h => by cases h) (fun _ => trivial) ?_ ⟨z, by exact many_put3 (HOKl.out _) (by rw [HVLl.out]; rfl) hL, hph⟩
              go_simp
            · skip
              have y4 : L 4 = true := up_at hu 4 (by kernel_rfl)
              have y5 : L 5 = true := up_at hu 5 (by kernel_rfl)
              have y7 : L 7 = true := up_at hu 7 (by kernel_rfl)
              have e22 : (many gg_ L (VLl z))[22]?.getD undef = .bool false := many_eval3 hgN (HOKl.out z) (by rw [HVLl.out]; rfl) y4
              have e23 : (many gg_ L (VLl z))[23]?.getD undef = .int .i64 (i : Int) := many_eval3 hgN (HOKl.out z) (by rw [HVLl.out]; rfl) y5
              have e25 : (many gg_ L (VLl z))[25]?.getD undef = .int .i64 (na : Int) := many_eval3 hgN (HOKl.out z) (by rw [HVLl.out]; rfl) y7
              refine opIn_run_g (v := .bool true) (w' := w') (j := 4) (b := false) rfl rfl (by simp [yielded, many_some hgN (show 22 < 61 by decide) e22]) (fun c h => by cases h) (fun _ => trivial) ?_ ⟨z, by exact many_put3 (HOKl.out _) (by rw [HVLl.out]; rfl) hL, hph⟩
              go_simp
            · skip
              have y4 : L 4 = true := up_at hu 4 (by kernel_rfl)
              have y8 : L 8 = true := up_at hu 8 (by kernel_rfl)
              have e22 : (many gg_ L (VLl z))[22]?.getD undef = .bool false := many_eval3 hgN (HOKl.out z) (by rw [HVLl.out]; rfl) y4
              have e26 : (many gg_ L (VLl z))[26]?.getD undef = .bool true := many_eval3 hgN (HOKl.out z) (by rw [HVLl.out]; rfl) y8
              refine opIn_run_g (v := .bool true) (w' := w') (j := 4) (b := false) rfl rfl (by simp [yielded, many_some hgN (show 22 < 61 by decide) e22]) (fun c h => by cases h) (fun _ => trivial) ?_ ⟨z, by exact many_put3 (HOKl.out _) (by rw [HVLl.out]; rfl) hL, hph⟩
              go_simp
            · skip
              have y9 : L 9 = true := up_at hu 9 (by kernel_rfl)
              have e1 : (many gg_ L (VLl z))[1]?.getD undef = .slice (some ⟨gb, qb, none⟩) nb cb := many_out3 hgN (HOKl.out z) (by rw [HVLl.out]; rfl) hF1
              have e27 : (many gg_ L (VLl z))[27]?.getD undef = .bool true := many_eval3 hgN (HOKl.out z) (by rw [HVLl.out]; rfl) y9
              refine opIn_run_g (v := .slice (some ⟨gb, qb, none⟩) nb cb) (w' := w') (j := 9) (b := true) rfl rfl (by simp [yielded, many_some hgN (show 27 < 61 by decide) e27]) (fun c h => by cases h) (fun _ => trivial) ?_ ⟨z, by exact many_put3 (HOKl.out _) (by rw [HVLl.out]; rfl) hL, hph⟩
              go_simp
            · skip
              have y9 : L 9 = true := up_at hu 9 (by kernel_rfl)
              have e7 : (many gg_ L (VLl z))[7]?.getD undef = .int .i64 (j : Int) := many_out3 hgN (HOKl.out z) (by rw [HVLl.out]; rfl) hF7
              have e27 : (many gg_ L (VLl z))[27]?.getD undef = .bool true := many_eval3 hgN (HOKl.out z) (by rw [HVLl.out]; rfl) y9
              refine opIn_run_g (v := .int .i64 (j : Int)) (w' := w') (j := 9) (b := true) rfl rfl (by simp [yielded, many_some hgN (show 27 < 61 by decide) e27]) (fun c h => by cases h) (fun _ => trivial) ?_ ⟨z, by exact many_put3 (HOKl.out _) (by rw [HVLl.out]; rfl) hL, hph⟩
              go_simp
            · skip
              have y9 : L 9 = true := up_at hu 9 (by kernel_rfl)
              have y10 : L 10 = true := up_at hu 10 (by kernel_rfl)
              have y11 : L 11 = true := up_at hu 11 (by kernel_rfl)
              have e27 : (many gg_ L (VLl z))[27]?.getD undef = .bool true := many_eval3 hgN (HOKl.out z) (by rw [HVLl.out]; rfl) y9
              have e28 : (many gg_ L (VLl z))[28]?.getD undef = .slice (some ⟨gb, qb, none⟩) nb cb := many_eval3 hgN (HOKl.out z) (by rw [HVLl.out]; rfl) y10
              have e29 : (many gg_ L (VLl z))[29]?.getD undef = .int .i64 (j : Int) := many_eval3 hgN (HOKl.out z) (by rw [HVLl.out]; rfl) y11
              refine opIn_run_g (v := .pointer (some ⟨gb, qb + j * 10, none⟩)) (w' := w') (j := 9) (b := true) rfl rfl (by simp [yielded, many_some hgN (show 27 < 61 by decide) e27]) (fun c h => by cases h) (fun _ => trivial) ?_ ⟨z, by exact many_put3 (HOKl.out _) (by rw [HVLl.out]; rfl) hL, hph⟩
              have hj0 : ¬ (j : Int) < 0 := by omega
              go_simp
            · skip
              have y9 : L 9 = true := up_at hu 9 (by kernel_rfl)
              have y12 : L 12 = true := up_at hu 12 (by kernel_rfl)
              have e27 : (many gg_ L (VLl z))[27]?.getD undef = .bool true := many_eval3 hgN (HOKl.out z) (by rw [HVLl.out]; rfl) y9
              have e30 : (many gg_ L (VLl z))[30]?.getD undef = .pointer (some ⟨gb, qb + j * 10, none⟩) := many_eval3 hgN (HOKl.out z) (by rw [HVLl.out]; rfl) y12
              refine opIn_run_g (v := .pointer (some ⟨gb, qb + j * 10 + 4, none⟩)) (w' := w') (j := 9) (b := true) rfl rfl (by simp [yielded, many_some hgN (show 27 < 61 by decide) e27]) (fun c h => by cases h) (fun _ => trivial) ?_ ⟨z, by exact many_put3 (HOKl.out _) (by rw [HVLl.out]; rfl) hL, hph⟩
              go_simp
            · skip
              have y9 : L 9 = true := up_at hu 9 (by kernel_rfl)
              have y13 : L 13 = true := up_at hu 13 (by kernel_rfl)
              obtain ⟨p0, p1, p2, p3, p4, p5, p6, p7, p8, p9⟩ := row10 (show World.rangeAt w' _ _ _ from fun j_ v_ hv_ => ((HI.out.2.2.2.trans (hph.mono HI.out.2.2.2.size)).cell (p := ⟨gb, _, none⟩) Hy.out.2.2.1).trans (Hy.out.2.2.2 j_ v_ hv_)) Hy.out.2.1
              have e27 : (many gg_ L (VLl z))[27]?.getD undef = .bool true := many_eval3 hgN (HOKl.out z) (by rw [HVLl.out]; rfl) y9
              have e31 : (many gg_ L (VLl z))[31]?.getD undef = .pointer (some ⟨gb, qb + j * 10 + 4, none⟩) := many_eval3 hgN (HOKl.out z) (by rw [HVLl.out]; rfl) y13
              refine opIn_run_g (v := .agg #[.int .i64 b0, .int .i64 b1, .int .i64 b2, .int .i64 b3, .int .i64 b4, .int .i64 b5]) (w' := w') (j := 9) (b := true) rfl rfl (by simp [yielded, many_some hgN (show 27 < 61 by decide) e27]) (fun c h => by cases h) (fun _ => trivial) ?_ ⟨z, by exact many_put3 (HOKl.out _) (by rw [HVLl.out]; rfl) hL, hph⟩
              go_simp
            · skip
              have y9 : L 9 = true := up_at hu 9 (by kernel_rfl)
              have e0 : (many gg_ L (VLl z))[0]?.getD undef = .slice (some ⟨ga, qa, none⟩) na ca := many_out3 hgN (HOKl.out z) (by rw [HVLl.out]; rfl) hF0
              have e27 : (many gg_ L (VLl z))[27]?.getD undef = .bool true := many_eval3 hgN (HOKl.out z) (by rw [HVLl.out]; rfl) y9
              refine opIn_run_g (v := .slice (some ⟨ga, qa, none⟩) na ca) (w' := w') (j := 9) (b := true) rfl rfl (by simp [yielded, many_some hgN (show 27 < 61 by decide) e27]) (fun c h => by cases h) (fun _ => trivial) ?_ ⟨z, by exact many_put3 (HOKl.out _) (by rw [HVLl.out]; rfl) hL, hph⟩
              go_simp
            · skip
              have y9 : L 9 = true := up_at hu 9 (by kernel_rfl)
              have e6 : (many gg_ L (VLl z))[6]?.getD undef = .int .i64 (i : Int) := many_out3 hgN (HOKl.out z) (by rw [HVLl.out]; rfl) hF6
              have e27 : (many gg_ L (VLl z))[27]?.getD undef = .bool true := many_eval3 hgN (HOKl.out z) (by rw [HVLl.out]; rfl) y9
              refine opIn_run_g (v := .int .i64 (i : Int)) (w' := w') (j := 9) (b := true) rfl rfl (by simp [yielded, many_some hgN (show 27 < 61 by decide) e27]) (fun c h => by cases h) (fun _ => trivial) ?_ ⟨z, by exact many_put3 (HOKl.out _) (by rw [HVLl.out]; rfl) hL, hph⟩
              go_simp
            · skip
              have y9 : L 9 = true := up_at hu 9 (by kernel_rfl)
              have y15 : L 15 = true := up_at hu 15 (by kernel_rfl)
              have y16 : L 16 = true := up_at hu 16 (by kernel_rfl)
              have e27 : (many gg_ L (VLl z))[27]?.getD undef = .bool true := many_eval3 hgN (HOKl.out z) (by rw [HVLl.out]; rfl) y9
              have e33 : (many gg_ L (VLl z))[33]?.getD undef = .slice (some ⟨ga, qa, none⟩) na ca := many_eval3 hgN (HOKl.out z) (by rw [HVLl.out]; rfl) y15
              have e34 : (many gg_ L (VLl z))[34]?.getD undef = .int .i64 (i : Int) := many_eval3 hgN (HOKl.out z) (by rw [HVLl.out]; rfl) y16
              refine opIn_run_g (v := .pointer (some ⟨ga, qa + i * 10, none⟩)) (w' := w') (j := 9) (b := true) rfl rfl (by simp [yielded, many_some hgN (show 27 < 61 by decide) e27]) (fun c h => by cases h) (fun _ => trivial) ?_ ⟨z, by exact many_put3 (HOKl.out _) (by rw [HVLl.out]; rfl) hL, hph⟩
              have hj0 : ¬ (i : Int) < 0 := by omega
              go_simp
            · skip
              have y9 : L 9 = true := up_at hu 9 (by kernel_rfl)
              have y17 : L 17 = true := up_at hu 17 (by kernel_rfl)
              have e27 : (many gg_ L (VLl z))[27]?.getD undef = .bool true := many_eval3 hgN (HOKl.out z) (by rw [HVLl.out]; rfl) y9
              have e35 : (many gg_ L (VLl z))[35]?.getD undef = .pointer (some ⟨ga, qa + i * 10, none⟩) := many_eval3 hgN (HOKl.out z) (by rw [HVLl.out]; rfl) y17
              refine opIn_run_g (v := .pointer (some ⟨ga, qa + i * 10 + 4, none⟩)) (w' := w') (j := 9) (b := true) rfl rfl (by simp [yielded, many_some hgN (show 27 < 61 by decide) e27]) (fun c h => by cases h) (fun _ => trivial) ?_ ⟨z, by exact many_put3 (HOKl.out _) (by rw [HVLl.out]; rfl) hL, hph⟩
              go_simp
            · skip
              have y9 : L 9 = true := up_at hu 9 (by kernel_rfl)
              have y18 : L 18 = true := up_at hu 18 (by kernel_rfl)
              obtain ⟨p0, p1, p2, p3, p4, p5, p6, p7, p8, p9⟩ := row10 (show World.rangeAt w' _ _ _ from fun j_ v_ hv_ => ((HI.out.2.2.2.trans (hph.mono HI.out.2.2.2.size)).cell (p := ⟨ga, _, none⟩) Hx.out.2.2.1).trans (Hx.out.2.2.2 j_ v_ hv_)) Hx.out.2.1
              have e27 : (many gg_ L (VLl z))[27]?.getD undef = .bool true := many_eval3 hgN (HOKl.out z) (by rw [HVLl.out]; rfl) y9
              have e36 : (many gg_ L (VLl z))[36]?.getD undef = .pointer (some ⟨ga, qa + i * 10 + 4, none⟩) := many_eval3 hgN (HOKl.out z) (by rw [HVLl.out]; rfl) y18
              refine opIn_run_g (v := .agg #[.int .i64 a0, .int .i64 a1, .int .i64 a2, .int .i64 a3, .int .i64 a4, .int .i64 a5]) (w' := w') (j := 9) (b := true) rfl rfl (by simp [yielded, many_some hgN (show 27 < 61 by decide) e27]) (fun c h => by cases h) (fun _ => trivial) ?_ ⟨z, by exact many_put3 (HOKl.out _) (by rw [HVLl.out]; rfl) hL, hph⟩
              go_simp
            · skip
              have y9 : L 9 = true := up_at hu 9 (by kernel_rfl)
              have y14 : L 14 = true := up_at hu 14 (by kernel_rfl)
              have y19 : L 19 = true := up_at hu 19 (by kernel_rfl)
              have e27 : (many gg_ L (VLl z))[27]?.getD undef = .bool true := many_eval3 hgN (HOKl.out z) (by rw [HVLl.out]; rfl) y9
              have e32 : (many gg_ L (VLl z))[32]?.getD undef = .agg #[.int .i64 b0, .int .i64 b1, .int .i64 b2, .int .i64 b3, .int .i64 b4, .int .i64 b5] := many_eval3 hgN (HOKl.out z) (by rw [HVLl.out]; rfl) y14
              have e37 : (many gg_ L (VLl z))[37]?.getD undef = .agg #[.int .i64 a0, .int .i64 a1, .int .i64 a2, .int .i64 a3, .int .i64 a4, .int .i64 a5] := many_eval3 hgN (HOKl.out z) (by rw [HVLl.out]; rfl) y19
              refine opIn_call_g (f := 58) (args := #[.agg #[.int .i64 b0, .int .i64 b1, .int .i64 b2, .int .i64 b3, .int .i64 b4, .int .i64 b5], .agg #[.int .i64 a0, .int .i64 a1, .int .i64 a2, .int .i64 a3, .int .i64 a4, .int .i64 a5]]) (w' := w') (j := 9) (b := true) rfl rfl (by simp [yielded, many_some hgN (show 27 < 61 by decide) e27]) (fun c h => by cases h) (fun _ => trivial) rfl (by go_simp) ((callsIn_wide.2 (LS.out w')).mono ?_)
              rintro e w2 ⟨rfl, hb⟩
              exact ⟨_, rfl, z, by exact many_put3 (HOKl.out _) (by rw [HVLl.out]; rfl) hL, hph.trans (hb.mono hph.size)⟩
            · skip
              have y9 : L 9 = true := up_at hu 9 (by kernel_rfl)
              have y20 : L 20 = true := up_at hu 20 (by kernel_rfl)
              have e27 : (many gg_ L (VLl z))[27]?.getD undef = .bool true := many_eval3 hgN (HOKl.out z) (by rw [HVLl.out]; rfl) y9
              have e38 : (many gg_ L (VLl z))[38]?.getD undef = .bool true := many_eval3 hgN (HOKl.out z) (by rw [HVLl.out]; rfl) y20
              refine opIn_run_g (v := .bool false) (w' := w') (j := 9) (b := true) rfl rfl (by simp [yielded, many_some hgN (show 27 < 61 by decide) e27]) (fun c h => by cases h) (fun _ => trivial) ?_ ⟨z, by exact many_put3 (HOKl.out _) (by rw [HVLl.out]; rfl) hL, hph⟩
              go_simp
            · skip
              have y4 : L 4 = true := up_at hu 4 (by kernel_rfl)
              have y9 : L 9 = true := up_at hu 9 (by kernel_rfl)
              have y21 : L 21 = true := up_at hu 21 (by kernel_rfl)
              have e22 : (many gg_ L (VLl z))[22]?.getD undef = .bool false := many_eval3 hgN (HOKl.out z) (by rw [HVLl.out]; rfl) y4
              have e27 : (many gg_ L (VLl z))[27]?.getD undef = .bool true := many_eval3 hgN (HOKl.out z) (by rw [HVLl.out]; rfl) y9
              have e39 : (many gg_ L (VLl z))[39]?.getD undef = .bool false := many_eval3 hgN (HOKl.out z) (by rw [HVLl.out]; rfl) y21
              refine opIn_run_g (v := .bool false) (w' := w') (j := 4) (b := false) rfl rfl (by simp [yielded, many_some hgN (show 22 < 61 by decide) e22]) (fun c h => by cases h) (fun _ => trivial) ?_ ⟨z, by exact many_put3 (HOKl.out _) (by rw [HVLl.out]; rfl) hL, hph⟩
              go_simp
            · skip
              have y4 : L 4 = true := up_at hu 4 (by kernel_rfl)
              have y22 : L 22 = true := up_at hu 22 (by kernel_rfl)
              have e22 : (many gg_ L (VLl z))[22]?.getD undef = .bool false := many_eval3 hgN (HOKl.out z) (by rw [HVLl.out]; rfl) y4
              have e40 : (many gg_ L (VLl z))[40]?.getD undef = .bool false := many_eval3 hgN (HOKl.out z) (by rw [HVLl.out]; rfl) y22
              refine opIn_run (v := .bool false) (w' := w') rfl rfl (fun c h => by cases h) (fun _ => trivial) ?_ ⟨z, by exact many_put3 (HOKl.out _) (by rw [HVLl.out]; rfl) hL, hph⟩
              go_simp
          case finl =>
            intro L z w' hall hph
            rw [HVLl.out]
            dsimp only [manyL, List.set_cons_zero, List.set_cons_succ]
            clear hall HVLl HOKl HVIl
            obtain ⟨wb, hwb⟩ : ∃ W, W = w' := ⟨_, rfl⟩
            subst hwb
            have HBb : Hid (Below w.heap.size w wb) := Lib.hid (HI.out.2.2.2.trans (hph.mono HI.out.2.2.2.size))
            have hob : wb.ownsRow w.heap.size 78 10 (.slice Va (i + j) Vc) (i + j) (out.flatMap (encK o)) := ownsRow_keep HI.out.1 hph.size (fun k hk => hph.block k (own_lt HI.out.1 hk).2)
            obtain ⟨X, hX⟩ : ∃ X, wb.alloc (.cells #[.int .i64 y.ly, .int .i64 y.rs, .int .i64 y.cp, .int .i64 y.pc, .int .i64 b0, .int .i64 b1, .int .i64 b2, .int .i64 b3, .int .i64 b4, .int .i64 b5] 78) = X := ⟨_, rfl⟩
            obtain ⟨zx, hzx⟩ : ∃ z, wb.heap.size = z := ⟨_, rfl⟩
            have hzX : X.heap[zx]? = some (.cells (encK o y).toArray 78 (0, 0)) := by rw [← hX, ← hzx, encK_arr Hy.out.2.1]; exact World.alloc_heap_new wb _
            have hbX : Below wb.heap.size wb X := by rw [← hX]; exact (Below.refl _ _).alloc (Nat.le_refl _) _
            have hoX : X.ownsRow w.heap.size 78 10 (.slice Va (i + j) Vc) (i + j) (out.flatMap (encK o)) := ownsRow_keep hob hbX.size (fun k hk => hbX.block k (own_lt hob hk).2)
            obtain ⟨V', w7, hr, ho7, hg7⟩ := app_rk hoX hzX (Nat.le_trans HBb.out.size hbX.size) (by omega)
            obtain ⟨A7, c7, rfl, _⟩ := own_any ho7
            have HN : Hid (w7.ownsRow w.heap.size 78 10 (.slice A7 (i + j + 1) c7) (i + j + 1) ((out ++ [y]).flatMap (encK o)) ∧ (out ++ [y]).length = i + j + 1 ∧ (out ++ [y]) ++ (A.drop (i)).merge (B.drop (j + 1)) (leK o) = T ∧ Below w.heap.size w w7) := Lib.hid (by
              refine ⟨by simpa using ho7, by simp [HI.out.2.1], ?_, (HBb.out.trans (hbX.mono HBb.out.size)).grown hg7 (Nat.le_trans HBb.out.size hbX.size) (fun k e => (own_lt hoX e).1)⟩
              rw [← HI.out.2.2.1, mg_right Hy.out.1 (.inr ⟨x, Hx.out.1, HLX.out⟩), List.append_assoc]
              rfl)
            obtain ⟨r0, r1, r2, r3, r4, r5, r6, r7, r8, r9⟩ := row10 (show World.rangeAt wb _ _ _ from fun j_ v_ hv_ => (HBb.out.cell (p := ⟨gb, _, none⟩) Hy.out.2.2.1).trans (Hy.out.2.2.2 j_ v_ hv_)) Hy.out.2.1
            have hk0 : ¬ (j : Int) < 0 ∧ (0 : Int) ≤ (j : Int) := by omega
            have hb13 : (j : Int) ≤ 13000000 := by omega
            clear hob hzX hbX hoX ho7 hg7 hph HI HBb
            go_wp2_with fail
            go_roundg g1
            case measure => omega
            case rel => exact ⟨i, j + 1, out ++ [y], A7, c7, by omega, by omega, by omega, by first | rfl | (congr 1; omega), by go_num, by go_num, by first | exact HN | (rw [show i + (j + 1) = i + j + 1 by omega]; exact HN)⟩
      · obtain ⟨g1, rfl⟩ : ∃ g1, gk = g1 + 1 := ⟨gk - 1, by omega⟩
        obtain rfl : na = i := by omega
        have hiI : ¬ (na : Int) < (na : Int) := by omega
        go_upto_region 4 with fail
        obtain ⟨VLo, hVL⟩ : ∃ VL : Unit → List (Nat × Nat × Value), VL = fun z => [(0, 18, .int .i64 (j : Int)), (1, 19, .slice (some ⟨gb, qb, none⟩) nb cb), (2, 20, .int .i64 (nb : Int)), (3, 21, .bool false), (4, 22, .bool false), (5, 23, .int .i64 (na : Int)), (6, 24, .slice pa na ca), (7, 25, .int .i64 (na : Int)), (8, 26, .bool false), (9, 27, .bool false), (10, 28, undef), (11, 29, undef), (12, 30, undef), (13, 31, undef), (14, 32, undef), (15, 33, undef), (16, 34, undef), (17, 35, undef), (18, 36, undef), (19, 37, undef), (20, 38, undef), (21, 39, undef), (22, 40, .bool false), (23, 41, .bool false)] := ⟨_, rfl⟩
        have hok : ∀ z, manyOk 61 (VLo z) := fun z => by rw [hVL]; exact okB_ok rfl
        have HVLo := Lib.hid hVL
        have hvi : ∀ z, ∀ x ∈ VLo z, x.1 < 24 := fun z => by rw [hVL]; exact ltB_ok rfl
        have HOKo := Lib.hid hok
        have HVIo := Lib.hid hvi
        clear hVL hok hvi
        refine (wpIn_wide (n := 9)).1 (regionIn_many (N := 61) (w := _) VLo (fun L z w' => Below wa.heap.size wa w') [(0, .slice pa na ca), (1, .slice (some ⟨gb, qb, none⟩) nb cb), (6, .int .i64 (na : Int)), (7, .int .i64 (j : Int))] (by kernel_rfl) (by kernel_rfl) rfl (by simp only [List.forall_mem_cons, List.not_mem_nil, false_imp_iff, implies_true, and_true]; exact ⟨rfl, rfl, rfl, rfl⟩) HVIo.out () ?starto ?stepo ?fino)
        case starto => exact (Below.refl _ _).drew
        case stepo =>
          intro gg_ hgN hgF ii_ hii_ L z w' hph hs hu
          have hF0 := hgF (0, .slice pa na ca) (by simp)
          have hF1 := hgF (1, .slice (some ⟨gb, qb, none⟩) nb cb) (by simp)
          have hF6 := hgF (6, .int .i64 (na : Int)) (by simp)
          have hF7 := hgF (7, .int .i64 (j : Int)) (by simp)
          have hL := hu.1
          have hii_ : ii_ < 24 := hii_
          clear hgF
          obtain rfl | rfl | rfl | rfl | rfl | rfl | rfl | rfl | rfl | rfl | rfl | rfl | rfl | rfl | rfl | rfl | rfl | rfl | rfl | rfl | rfl | rfl | rfl | rfl := (by omega : ii_ = 0 ∨ ii_ = 1 ∨ ii_ = 2 ∨ ii_ = 3 ∨ ii_ = 4 ∨ ii_ = 5 ∨ ii_ = 6 ∨ ii_ = 7 ∨ ii_ = 8 ∨ ii_ = 9 ∨ ii_ = 10 ∨ ii_ = 11 ∨ ii_ = 12 ∨ ii_ = 13 ∨ ii_ = 14 ∨ ii_ = 15 ∨ ii_ = 16 ∨ ii_ = 17 ∨ ii_ = 18 ∨ ii_ = 19 ∨ ii_ = 20 ∨ ii_ = 21 ∨ ii_ = 22 ∨ ii_ = 23)
          · skip
            have e7 : (many gg_ L (VLo z))[7]?.getD undef = .int .i64 (j : Int) := many_out3 hgN (HOKo.out z) (by rw [HVLo.out]; rfl) hF7
            refine opIn_run (v := .int .i64 (j : Int)) (w' := w') rfl rfl (fun c h => by cases h) (fun _ => trivial) ?_ ⟨z, by exact many_put3 (HOKo.out _) (by rw [HVLo.out]; rfl) hL, hph⟩
            go_simp
          · skip
            have e1 : (many gg_ L (VLo z))[1]?.getD undef = .slice (some ⟨gb, qb, none⟩) nb cb := many_out3 hgN (HOKo.out z) (by rw [HVLo.out]; rfl) hF1
            refine opIn_run (v := .slice (some ⟨gb, qb, none⟩) nb cb) (w' := w') rfl rfl (fun c h => by cases h) (fun _ => trivial) ?_ ⟨z, by exact many_put3 (HOKo.out _) (by rw [HVLo.out]; rfl) hL, hph⟩
            go_simp
          · skip
            have y1 : L 1 = true := up_at hu 1 (by kernel_rfl)
            have e19 : (many gg_ L (VLo z))[19]?.getD undef = .slice (some ⟨gb, qb, none⟩) nb cb := many_eval3 hgN (HOKo.out z) (by rw [HVLo.out]; rfl) y1
            refine opIn_run (v := .int .i64 (nb : Int)) (w' := w') rfl rfl (fun c h => by cases h) (fun _ => trivial) ?_ ⟨z, by exact many_put3 (HOKo.out _) (by rw [HVLo.out]; rfl) hL, hph⟩
            go_simp
          · skip
            have y0 : L 0 = true := up_at hu 0 (by kernel_rfl)
            have y2 : L 2 = true := up_at hu 2 (by kernel_rfl)
            have e18 : (many gg_ L (VLo z))[18]?.getD undef = .int .i64 (j : Int) := many_eval3 hgN (HOKo.out z) (by rw [HVLo.out]; rfl) y0
            have e20 : (many gg_ L (VLo z))[20]?.getD undef = .int .i64 (nb : Int) := many_eval3 hgN (HOKo.out z) (by rw [HVLo.out]; rfl) y2
            refine opIn_run (v := .bool false) (w' := w') rfl rfl (fun c h => by cases h) (fun _ => trivial) ?_ ⟨z, by exact many_put3 (HOKo.out _) (by rw [HVLo.out]; rfl) hL, hph⟩
            go_simp
          · skip
            have y3 : L 3 = true := up_at hu 3 (by kernel_rfl)
            have e21 : (many gg_ L (VLo z))[21]?.getD undef = .bool false := many_eval3 hgN (HOKo.out z) (by rw [HVLo.out]; rfl) y3
            refine opIn_run (v := .bool false) (w' := w') rfl rfl (fun c h => by cases h) (fun _ => trivial) ?_ ⟨z, by exact many_put3 (HOKo.out _) (by rw [HVLo.out]; rfl) hL, hph⟩
            go_simp
          · skip
            have y4 : L 4 = true := up_at hu 4 (by kernel_rfl)
            have e6 : (many gg_ L (VLo z))[6]?.getD undef = .int .i64 (na : Int) := many_out3 hgN (HOKo.out z) (by rw [HVLo.out]; rfl) hF6
            have e22 : (many gg_ L (VLo z))[22]?.getD undef = .bool false := many_eval3 hgN (HOKo.out z) (by rw [HVLo.out]; rfl) y4
            refine opIn_run_g (v := .int .i64 (na : Int)) (w' := w') (j := 4) (b := false) rfl rfl (by simp [yielded, many_some hgN (show 22 < 61 by decide) e22]) (fun c h => by cases h) (fun _ => trivial) ?_ ⟨z, by exact many_put3 (HOKo.out _) (by rw [HVLo.out]; rfl) hL, hph⟩
            go_simp
          · skip
            have y4 : L 4 = true := up_at hu 4 (by kernel_rfl)
            have e0 : (many gg_ L (VLo z))[0]?.getD undef = .slice pa na ca := many_out3 hgN (HOKo.out z) (by rw [HVLo.out]; rfl) hF0
            have e22 : (many gg_ L (VLo z))[22]?.getD undef = .bool false := many_eval3 hgN (HOKo.out z) (by rw [HVLo.out]; rfl) y4
            refine opIn_run_g (v := .slice pa na ca) (w' := w') (j := 4) (b := false) rfl rfl (by simp [yielded, many_some hgN (show 22 < 61 by decide) e22]) (fun c h => by cases h) (fun _ => trivial) ?_ ⟨z, by exact many_put3 (HOKo.out _) (by rw [HVLo.out]; rfl) hL, hph⟩
            go_simp
          · skip
            have y4 : L 4 = true := up_at hu 4 (by kernel_rfl)
            have y6 : L 6 = true := up_at hu 6 (by kernel_rfl)
            have e22 : (many gg_ L (VLo z))[22]?.getD undef = .bool false := many_eval3 hgN (HOKo.out z) (by rw [HVLo.out]; rfl) y4
            have e24 : (many gg_ L (VLo z))[24]?.getD undef = .slice pa na ca := many_eval3 hgN (HOKo.out z) (by rw [HVLo.out]; rfl) y6
            refine opIn_run_g (v := .int .i64 (na : Int)) (w' := w') (j := 4) (b := false) rfl rfl (by simp [yielded, many_some hgN (show 22 < 61 by decide) e22]) (fun c h => by cases h) (fun _ => trivial) ?_ ⟨z, by exact many_put3 (HOKo.out _) (by rw [HVLo.out]; rfl) hL, hph⟩
            go_simp
          · skip
            have y4 : L 4 = true := up_at hu 4 (by kernel_rfl)
            have y5 : L 5 = true := up_at hu 5 (by kernel_rfl)
            have y7 : L 7 = true := up_at hu 7 (by kernel_rfl)
            have e22 : (many gg_ L (VLo z))[22]?.getD undef = .bool false := many_eval3 hgN (HOKo.out z) (by rw [HVLo.out]; rfl) y4
            have e23 : (many gg_ L (VLo z))[23]?.getD undef = .int .i64 (na : Int) := many_eval3 hgN (HOKo.out z) (by rw [HVLo.out]; rfl) y5
            have e25 : (many gg_ L (VLo z))[25]?.getD undef = .int .i64 (na : Int) := many_eval3 hgN (HOKo.out z) (by rw [HVLo.out]; rfl) y7
            refine opIn_run_g (v := .bool false) (w' := w') (j := 4) (b := false) rfl rfl (by simp [yielded, many_some hgN (show 22 < 61 by decide) e22]) (fun c h => by cases h) (fun _ => trivial) ?_ ⟨z, by exact many_put3 (HOKo.out _) (by rw [HVLo.out]; rfl) hL, hph⟩
            go_simp
          · skip
            have y4 : L 4 = true := up_at hu 4 (by kernel_rfl)
            have y8 : L 8 = true := up_at hu 8 (by kernel_rfl)
            have e22 : (many gg_ L (VLo z))[22]?.getD undef = .bool false := many_eval3 hgN (HOKo.out z) (by rw [HVLo.out]; rfl) y4
            have e26 : (many gg_ L (VLo z))[26]?.getD undef = .bool false := many_eval3 hgN (HOKo.out z) (by rw [HVLo.out]; rfl) y8
            refine opIn_run_g (v := .bool false) (w' := w') (j := 4) (b := false) rfl rfl (by simp [yielded, many_some hgN (show 22 < 61 by decide) e22]) (fun c h => by cases h) (fun _ => trivial) ?_ ⟨z, by exact many_put3 (HOKo.out _) (by rw [HVLo.out]; rfl) hL, hph⟩
            go_simp
          · skip
            have y9 : L 9 = true := up_at hu 9 (by kernel_rfl)
            have e1 : (many gg_ L (VLo z))[1]?.getD undef = .slice (some ⟨gb, qb, none⟩) nb cb := many_out3 hgN (HOKo.out z) (by rw [HVLo.out]; rfl) hF1
            have e27 : (many gg_ L (VLo z))[27]?.getD undef = .bool false := many_eval3 hgN (HOKo.out z) (by rw [HVLo.out]; rfl) y9
            exact opIn_not_g (j := 9) (b := true) (c := false) rfl rfl (by simp [yielded, many_some hgN (show 27 < 61 by decide) e27]) (by decide) (fun _ => trivial) ⟨z, by exact many_put3 (HOKo.out _) (by rw [HVLo.out]; rfl) hL, hph⟩
          · skip
            have y9 : L 9 = true := up_at hu 9 (by kernel_rfl)
            have e7 : (many gg_ L (VLo z))[7]?.getD undef = .int .i64 (j : Int) := many_out3 hgN (HOKo.out z) (by rw [HVLo.out]; rfl) hF7
            have e27 : (many gg_ L (VLo z))[27]?.getD undef = .bool false := many_eval3 hgN (HOKo.out z) (by rw [HVLo.out]; rfl) y9
            exact opIn_not_g (j := 9) (b := true) (c := false) rfl rfl (by simp [yielded, many_some hgN (show 27 < 61 by decide) e27]) (by decide) (fun _ => trivial) ⟨z, by exact many_put3 (HOKo.out _) (by rw [HVLo.out]; rfl) hL, hph⟩
          · skip
            have y9 : L 9 = true := up_at hu 9 (by kernel_rfl)
            have y10 : L 10 = true := up_at hu 10 (by kernel_rfl)
            have y11 : L 11 = true := up_at hu 11 (by kernel_rfl)
            have e27 : (many gg_ L (VLo z))[27]?.getD undef = .bool false := many_eval3 hgN (HOKo.out z) (by rw [HVLo.out]; rfl) y9
            have e28 : (many gg_ L (VLo z))[28]?.getD undef = undef := many_eval3 hgN (HOKo.out z) (by rw [HVLo.out]; rfl) y10
            have e29 : (many gg_ L (VLo z))[29]?.getD undef = undef := many_eval3 hgN (HOKo.out z) (by rw [HVLo.out]; rfl) y11
            exact opIn_not_g (j := 9) (b := true) (c := false) rfl rfl (by simp [yielded, many_some hgN (show 27 < 61 by decide) e27]) (by decide) (fun _ => trivial) ⟨z, by exact many_put3 (HOKo.out _) (by rw [HVLo.out]; rfl) hL, hph⟩
          · skip
            have y9 : L 9 = true := up_at hu 9 (by kernel_rfl)
            have y12 : L 12 = true := up_at hu 12 (by kernel_rfl)
            have e27 : (many gg_ L (VLo z))[27]?.getD undef = .bool false := many_eval3 hgN (HOKo.out z) (by rw [HVLo.out]; rfl) y9
            have e30 : (many gg_ L (VLo z))[30]?.getD undef = undef := many_eval3 hgN (HOKo.out z) (by rw [HVLo.out]; rfl) y12
            exact opIn_not_g (j := 9) (b := true) (c := false) rfl rfl (by simp [yielded, many_some hgN (show 27 < 61 by decide) e27]) (by decide) (fun _ => trivial) ⟨z, by exact many_put3 (HOKo.out _) (by rw [HVLo.out]; rfl) hL, hph⟩
          · skip
            have y9 : L 9 = true := up_at hu 9 (by kernel_rfl)
            have y13 : L 13 = true := up_at hu 13 (by kernel_rfl)
            have e27 : (many gg_ L (VLo z))[27]?.getD undef = .bool false := many_eval3 hgN (HOKo.out z) (by rw [HVLo.out]; rfl) y9
            have e31 : (many gg_ L (VLo z))[31]?.getD undef = undef := many_eval3 hgN (HOKo.out z) (by rw [HVLo.out]; rfl) y13
            exact opIn_not_g (j := 9) (b := true) (c := false) rfl rfl (by simp [yielded, many_some hgN (show 27 < 61 by decide) e27]) (by decide) (fun _ => trivial) ⟨z, by exact many_put3 (HOKo.out _) (by rw [HVLo.out]; rfl) hL, hph⟩
          · skip
            have y9 : L 9 = true := up_at hu 9 (by kernel_rfl)
            have e0 : (many gg_ L (VLo z))[0]?.getD undef = .slice pa na ca := many_out3 hgN (HOKo.out z) (by rw [HVLo.out]; rfl) hF0
            have e27 : (many gg_ L (VLo z))[27]?.getD undef = .bool false := many_eval3 hgN (HOKo.out z) (by rw [HVLo.out]; rfl) y9
            exact opIn_not_g (j := 9) (b := true) (c := false) rfl rfl (by simp [yielded, many_some hgN (show 27 < 61 by decide) e27]) (by decide) (fun _ => trivial) ⟨z, by exact many_put3 (HOKo.out _) (by rw [HVLo.out]; rfl) hL, hph⟩
          · skip
            have y9 : L 9 = true := up_at hu 9 (by kernel_rfl)
            have e6 : (many gg_ L (VLo z))[6]?.getD undef = .int .i64 (na : Int) := many_out3 hgN (HOKo.out z) (by rw [HVLo.out]; rfl) hF6
            have e27 : (many gg_ L (VLo z))[27]?.getD undef = .bool false := many_eval3 hgN (HOKo.out z) (by rw [HVLo.out]; rfl) y9
            exact opIn_not_g (j := 9) (b := true) (c := false) rfl rfl (by simp [yielded, many_some hgN (show 27 < 61 by decide) e27]) (by decide) (fun _ => trivial) ⟨z, by exact many_put3 (HOKo.out _) (by rw [HVLo.out]; rfl) hL, hph⟩
          · skip
            have y9 : L 9 = true := up_at hu 9 (by kernel_rfl)
            have y15 : L 15 = true := up_at hu 15 (by kernel_rfl)
            have y16 : L 16 = true := up_at hu 16 (by kernel_rfl)
            have e27 : (many gg_ L (VLo z))[27]?.getD undef = .bool false := many_eval3 hgN (HOKo.out z) (by rw [HVLo.out]; rfl) y9
            have e33 : (many gg_ L (VLo z))[33]?.getD undef = undef := many_eval3 hgN (HOKo.out z) (by rw [HVLo.out]; rfl) y15
            have e34 : (many gg_ L (VLo z))[34]?.getD undef = undef := many_eval3 hgN (HOKo.out z) (by rw [HVLo.out]; rfl) y16
            exact opIn_not_g (j := 9) (b := true) (c := false) rfl rfl (by simp [yielded, many_some hgN (show 27 < 61 by decide) e27]) (by decide) (fun _ => trivial) ⟨z, by exact many_put3 (HOKo.out _) (by rw [HVLo.out]; rfl) hL, hph⟩
          · skip
            have y9 : L 9 = true := up_at hu 9 (by kernel_rfl)
            have y17 : L 17 = true := up_at hu 17 (by kernel_rfl)
            have e27 : (many gg_ L (VLo z))[27]?.getD undef = .bool false := many_eval3 hgN (HOKo.out z) (by rw [HVLo.out]; rfl) y9
            have e35 : (many gg_ L (VLo z))[35]?.getD undef = undef := many_eval3 hgN (HOKo.out z) (by rw [HVLo.out]; rfl) y17
            exact opIn_not_g (j := 9) (b := true) (c := false) rfl rfl (by simp [yielded, many_some hgN (show 27 < 61 by decide) e27]) (by decide) (fun _ => trivial) ⟨z, by exact many_put3 (HOKo.out _) (by rw [HVLo.out]; rfl) hL, hph⟩
          · skip
            have y9 : L 9 = true := up_at hu 9 (by kernel_rfl)
            have y18 : L 18 = true := up_at hu 18 (by kernel_rfl)
            have e27 : (many gg_ L (VLo z))[27]?.getD undef = .bool false := many_eval3 hgN (HOKo.out z) (by rw [HVLo.out]; rfl) y9
            have e36 : (many gg_ L (VLo z))[36]?.getD undef = undef := many_eval3 hgN (HOKo.out z) (by rw [HVLo.out]; rfl) y18
            exact opIn_not_g (j := 9) (b := true) (c := false) rfl rfl (by simp [yielded, many_some hgN (show 27 < 61 by decide) e27]) (by decide) (fun _ => trivial) ⟨z, by exact many_put3 (HOKo.out _) (by rw [HVLo.out]; rfl) hL, hph⟩
          · skip
            have y9 : L 9 = true := up_at hu 9 (by kernel_rfl)
            have y14 : L 14 = true := up_at hu 14 (by kernel_rfl)
            have y19 : L 19 = true := up_at hu 19 (by kernel_rfl)
            have e27 : (many gg_ L (VLo z))[27]?.getD undef = .bool false := many_eval3 hgN (HOKo.out z) (by rw [HVLo.out]; rfl) y9
            have e32 : (many gg_ L (VLo z))[32]?.getD undef = undef := many_eval3 hgN (HOKo.out z) (by rw [HVLo.out]; rfl) y14
            have e37 : (many gg_ L (VLo z))[37]?.getD undef = undef := many_eval3 hgN (HOKo.out z) (by rw [HVLo.out]; rfl) y19
            exact opIn_not_g (j := 9) (b := true) (c := false) rfl rfl (by simp [yielded, many_some hgN (show 27 < 61 by decide) e27]) (by decide) (fun _ => trivial) ⟨z, by exact many_put3 (HOKo.out _) (by rw [HVLo.out]; rfl) hL, hph⟩
          · skip
            have y9 : L 9 = true := up_at hu 9 (by kernel_rfl)
            have y20 : L 20 = true := up_at hu 20 (by kernel_rfl)
            have e27 : (many gg_ L (VLo z))[27]?.getD undef = .bool false := many_eval3 hgN (HOKo.out z) (by rw [HVLo.out]; rfl) y9
            have e38 : (many gg_ L (VLo z))[38]?.getD undef = undef := many_eval3 hgN (HOKo.out z) (by rw [HVLo.out]; rfl) y20
            exact opIn_not_g (j := 9) (b := true) (c := false) rfl rfl (by simp [yielded, many_some hgN (show 27 < 61 by decide) e27]) (by decide) (fun _ => trivial) ⟨z, by exact many_put3 (HOKo.out _) (by rw [HVLo.out]; rfl) hL, hph⟩
          · skip
            have y4 : L 4 = true := up_at hu 4 (by kernel_rfl)
            have y9 : L 9 = true := up_at hu 9 (by kernel_rfl)
            have y21 : L 21 = true := up_at hu 21 (by kernel_rfl)
            have e22 : (many gg_ L (VLo z))[22]?.getD undef = .bool false := many_eval3 hgN (HOKo.out z) (by rw [HVLo.out]; rfl) y4
            have e27 : (many gg_ L (VLo z))[27]?.getD undef = .bool false := many_eval3 hgN (HOKo.out z) (by rw [HVLo.out]; rfl) y9
            have e39 : (many gg_ L (VLo z))[39]?.getD undef = undef := many_eval3 hgN (HOKo.out z) (by rw [HVLo.out]; rfl) y21
            refine opIn_run_g (v := .bool false) (w' := w') (j := 4) (b := false) rfl rfl (by simp [yielded, many_some hgN (show 22 < 61 by decide) e22]) (fun c h => by cases h) (fun _ => trivial) ?_ ⟨z, by exact many_put3 (HOKo.out _) (by rw [HVLo.out]; rfl) hL, hph⟩
            go_simp
          · skip
            have y4 : L 4 = true := up_at hu 4 (by kernel_rfl)
            have y22 : L 22 = true := up_at hu 22 (by kernel_rfl)
            have e22 : (many gg_ L (VLo z))[22]?.getD undef = .bool false := many_eval3 hgN (HOKo.out z) (by rw [HVLo.out]; rfl) y4
            have e40 : (many gg_ L (VLo z))[40]?.getD undef = .bool false := many_eval3 hgN (HOKo.out z) (by rw [HVLo.out]; rfl) y22
            refine opIn_run (v := .bool false) (w' := w') rfl rfl (fun c h => by cases h) (fun _ => trivial) ?_ ⟨z, by exact many_put3 (HOKo.out _) (by rw [HVLo.out]; rfl) hL, hph⟩
            go_simp
        case fino =>
          intro L z w' hall hph
          rw [HVLo.out]
          dsimp only [manyL, List.set_cons_zero, List.set_cons_succ]
          clear hall HVLo HOKo HVIo
          obtain ⟨wb, hwb⟩ : ∃ W, W = w' := ⟨_, rfl⟩
          subst hwb
          have HBb : Hid (Below w.heap.size w wb) := Lib.hid (HI.out.2.2.2.trans (hph.mono HI.out.2.2.2.size))
          have hob : wb.ownsRow w.heap.size 78 10 (.slice Va (na + j) Vc) (na + j) (out.flatMap (encK o)) := ownsRow_keep HI.out.1 hph.size (fun k hk => hph.block k (own_lt HI.out.1 hk).2)
          obtain ⟨X, hX⟩ : ∃ X, wb.alloc (.cells #[.int .i64 y.ly, .int .i64 y.rs, .int .i64 y.cp, .int .i64 y.pc, .int .i64 b0, .int .i64 b1, .int .i64 b2, .int .i64 b3, .int .i64 b4, .int .i64 b5] 78) = X := ⟨_, rfl⟩
          obtain ⟨zx, hzx⟩ : ∃ z, wb.heap.size = z := ⟨_, rfl⟩
          have hzX : X.heap[zx]? = some (.cells (encK o y).toArray 78 (0, 0)) := by rw [← hX, ← hzx, encK_arr Hy.out.2.1]; exact World.alloc_heap_new wb _
          have hbX : Below wb.heap.size wb X := by rw [← hX]; exact (Below.refl _ _).alloc (Nat.le_refl _) _
          have hoX : X.ownsRow w.heap.size 78 10 (.slice Va (na + j) Vc) (na + j) (out.flatMap (encK o)) := ownsRow_keep hob hbX.size (fun k hk => hbX.block k (own_lt hob hk).2)
          obtain ⟨V', w7, hr, ho7, hg7⟩ := app_rk hoX hzX (Nat.le_trans HBb.out.size hbX.size) (by omega)
          obtain ⟨A7, c7, rfl, _⟩ := own_any ho7
          have HN : Hid (w7.ownsRow w.heap.size 78 10 (.slice A7 (na + j + 1) c7) (na + j + 1) ((out ++ [y]).flatMap (encK o)) ∧ (out ++ [y]).length = na + j + 1 ∧ (out ++ [y]) ++ (A.drop (na)).merge (B.drop (j + 1)) (leK o) = T ∧ Below w.heap.size w w7) := Lib.hid (by
            refine ⟨by simpa using ho7, by simp [HI.out.2.1], ?_, (HBb.out.trans (hbX.mono HBb.out.size)).grown hg7 (Nat.le_trans HBb.out.size hbX.size) (fun k e => (own_lt hoX e).1)⟩
            rw [← HI.out.2.2.1, mg_right Hy.out.1 (.inl (by rw [HLA.out]; exact Nat.le_refl _)), List.append_assoc]
            rfl)
          obtain ⟨r0, r1, r2, r3, r4, r5, r6, r7, r8, r9⟩ := row10 (show World.rangeAt wb _ _ _ from fun j_ v_ hv_ => (HBb.out.cell (p := ⟨gb, _, none⟩) Hy.out.2.2.1).trans (Hy.out.2.2.2 j_ v_ hv_)) Hy.out.2.1
          have hk0 : ¬ (j : Int) < 0 ∧ (0 : Int) ≤ (j : Int) := by omega
          have hb13 : (j : Int) ≤ 13000000 := by omega
          clear hob hzX hbX hoX ho7 hg7 hph HI HBb
          go_wp2_with fail
          go_roundg g1
          case measure => omega
          case rel => exact ⟨na, j + 1, out ++ [y], A7, c7, by omega, by omega, by omega, by first | rfl | (congr 1; omega), by go_num, by go_num, by first | exact HN | (rw [show na + (j + 1) = na + j + 1 by omega]; exact HN)⟩
    · obtain rfl : nb = j := by omega
      have hjI : ¬ (nb : Int) < (nb : Int) := by omega
      by_cases hin : i < na
      · obtain ⟨g1, rfl⟩ : ∃ g1, gk = g1 + 1 := ⟨gk - 1, by omega⟩
        have hiI : (i : Int) < (na : Int) := by omega
        obtain ⟨x, hx⟩ : ∃ x, A[i]? = some x := ⟨_, List.getElem?_eq_getElem (by rw [HLA.out]; exact hin)⟩
        obtain ⟨a0, a1, a2, a3, a4, a5, ha⟩ := rk_six o x
        obtain ⟨ga, qa, hpga, hlga, hrga⟩ := HA.out i x hx
        subst hpga
        have Hx := Lib.hid (show _ ∧ _ ∧ _ ∧ _ from ⟨hx, ha, hlga, hrga⟩)
        clear hx ha hlga hrga
        go_upto_region 4 with fail
        obtain ⟨VLe, hVL⟩ : ∃ VL : Unit → List (Nat × Nat × Value), VL = fun z => [(0, 18, .int .i64 (nb : Int)), (1, 19, .slice pb nb cb), (2, 20, .int .i64 (nb : Int)), (3, 21, .bool true), (4, 22, .bool true), (5, 23, undef), (6, 24, undef), (7, 25, undef), (8, 26, undef), (9, 27, undef), (10, 28, undef), (11, 29, undef), (12, 30, undef), (13, 31, undef), (14, 32, undef), (15, 33, undef), (16, 34, undef), (17, 35, undef), (18, 36, undef), (19, 37, undef), (20, 38, undef), (21, 39, undef), (22, 40, undef), (23, 41, .bool true)] := ⟨_, rfl⟩
        have hok : ∀ z, manyOk 61 (VLe z) := fun z => by rw [hVL]; exact okB_ok rfl
        have HVLe := Lib.hid hVL
        have hvi : ∀ z, ∀ x ∈ VLe z, x.1 < 24 := fun z => by rw [hVL]; exact ltB_ok rfl
        have HOKe := Lib.hid hok
        have HVIe := Lib.hid hvi
        clear hVL hok hvi
        refine (wpIn_wide (n := 9)).1 (regionIn_many (N := 61) (w := _) VLe (fun L z w' => Below wa.heap.size wa w') [(0, .slice (some ⟨ga, qa, none⟩) na ca), (1, .slice pb nb cb), (6, .int .i64 (i : Int)), (7, .int .i64 (nb : Int))] (by kernel_rfl) (by kernel_rfl) rfl (by simp only [List.forall_mem_cons, List.not_mem_nil, false_imp_iff, implies_true, and_true]; exact ⟨rfl, rfl, rfl, rfl⟩) HVIe.out () ?starte ?stepe ?fine)
        case starte => exact (Below.refl _ _).drew
        case stepe =>
          intro gg_ hgN hgF ii_ hii_ L z w' hph hs hu
          have hF0 := hgF (0, .slice (some ⟨ga, qa, none⟩) na ca) (by simp)
          have hF1 := hgF (1, .slice pb nb cb) (by simp)
          have hF6 := hgF (6, .int .i64 (i : Int)) (by simp)
          have hF7 := hgF (7, .int .i64 (nb : Int)) (by simp)
          have hL := hu.1
          have hii_ : ii_ < 24 := hii_
          clear hgF
          obtain rfl | rfl | rfl | rfl | rfl | rfl | rfl | rfl | rfl | rfl | rfl | rfl | rfl | rfl | rfl | rfl | rfl | rfl | rfl | rfl | rfl | rfl | rfl | rfl := (by omega : ii_ = 0 ∨ ii_ = 1 ∨ ii_ = 2 ∨ ii_ = 3 ∨ ii_ = 4 ∨ ii_ = 5 ∨ ii_ = 6 ∨ ii_ = 7 ∨ ii_ = 8 ∨ ii_ = 9 ∨ ii_ = 10 ∨ ii_ = 11 ∨ ii_ = 12 ∨ ii_ = 13 ∨ ii_ = 14 ∨ ii_ = 15 ∨ ii_ = 16 ∨ ii_ = 17 ∨ ii_ = 18 ∨ ii_ = 19 ∨ ii_ = 20 ∨ ii_ = 21 ∨ ii_ = 22 ∨ ii_ = 23)
          · skip
            have e7 : (many gg_ L (VLe z))[7]?.getD undef = .int .i64 (nb : Int) := many_out3 hgN (HOKe.out z) (by rw [HVLe.out]; rfl) hF7
            refine opIn_run (v := .int .i64 (nb : Int)) (w' := w') rfl rfl (fun c h => by cases h) (fun _ => trivial) ?_ ⟨z, by exact many_put3 (HOKe.out _) (by rw [HVLe.out]; rfl) hL, hph⟩
            go_simp
          · skip
            have e1 : (many gg_ L (VLe z))[1]?.getD undef = .slice pb nb cb := many_out3 hgN (HOKe.out z) (by rw [HVLe.out]; rfl) hF1
            refine opIn_run (v := .slice pb nb cb) (w' := w') rfl rfl (fun c h => by cases h) (fun _ => trivial) ?_ ⟨z, by exact many_put3 (HOKe.out _) (by rw [HVLe.out]; rfl) hL, hph⟩
            go_simp
          · skip
            have y1 : L 1 = true := up_at hu 1 (by kernel_rfl)
            have e19 : (many gg_ L (VLe z))[19]?.getD undef = .slice pb nb cb := many_eval3 hgN (HOKe.out z) (by rw [HVLe.out]; rfl) y1
            refine opIn_run (v := .int .i64 (nb : Int)) (w' := w') rfl rfl (fun c h => by cases h) (fun _ => trivial) ?_ ⟨z, by exact many_put3 (HOKe.out _) (by rw [HVLe.out]; rfl) hL, hph⟩
            go_simp
          · skip
            have y0 : L 0 = true := up_at hu 0 (by kernel_rfl)
            have y2 : L 2 = true := up_at hu 2 (by kernel_rfl)
            have e18 : (many gg_ L (VLe z))[18]?.getD undef = .int .i64 (nb : Int) := many_eval3 hgN (HOKe.out z) (by rw [HVLe.out]; rfl) y0
            have e20 : (many gg_ L (VLe z))[20]?.getD undef = .int .i64 (nb : Int) := many_eval3 hgN (HOKe.out z) (by rw [HVLe.out]; rfl) y2
            refine opIn_run (v := .bool true) (w' := w') rfl rfl (fun c h => by cases h) (fun _ => trivial) ?_ ⟨z, by exact many_put3 (HOKe.out _) (by rw [HVLe.out]; rfl) hL, hph⟩
            go_simp
          · skip
            have y3 : L 3 = true := up_at hu 3 (by kernel_rfl)
            have e21 : (many gg_ L (VLe z))[21]?.getD undef = .bool true := many_eval3 hgN (HOKe.out z) (by rw [HVLe.out]; rfl) y3
            refine opIn_run (v := .bool true) (w' := w') rfl rfl (fun c h => by cases h) (fun _ => trivial) ?_ ⟨z, by exact many_put3 (HOKe.out _) (by rw [HVLe.out]; rfl) hL, hph⟩
            go_simp
          · skip
            have y4 : L 4 = true := up_at hu 4 (by kernel_rfl)
            have e6 : (many gg_ L (VLe z))[6]?.getD undef = .int .i64 (i : Int) := many_out3 hgN (HOKe.out z) (by rw [HVLe.out]; rfl) hF6
            have e22 : (many gg_ L (VLe z))[22]?.getD undef = .bool true := many_eval3 hgN (HOKe.out z) (by rw [HVLe.out]; rfl) y4
            exact opIn_not_g (j := 4) (b := false) (c := true) rfl rfl (by simp [yielded, many_some hgN (show 22 < 61 by decide) e22]) (by decide) (fun _ => trivial) ⟨z, by exact many_put3 (HOKe.out _) (by rw [HVLe.out]; rfl) hL, hph⟩
          · skip
            have y4 : L 4 = true := up_at hu 4 (by kernel_rfl)
            have e0 : (many gg_ L (VLe z))[0]?.getD undef = .slice (some ⟨ga, qa, none⟩) na ca := many_out3 hgN (HOKe.out z) (by rw [HVLe.out]; rfl) hF0
            have e22 : (many gg_ L (VLe z))[22]?.getD undef = .bool true := many_eval3 hgN (HOKe.out z) (by rw [HVLe.out]; rfl) y4
            exact opIn_not_g (j := 4) (b := false) (c := true) rfl rfl (by simp [yielded, many_some hgN (show 22 < 61 by decide) e22]) (by decide) (fun _ => trivial) ⟨z, by exact many_put3 (HOKe.out _) (by rw [HVLe.out]; rfl) hL, hph⟩
          · skip
            have y4 : L 4 = true := up_at hu 4 (by kernel_rfl)
            have y6 : L 6 = true := up_at hu 6 (by kernel_rfl)
            have e22 : (many gg_ L (VLe z))[22]?.getD undef = .bool true := many_eval3 hgN (HOKe.out z) (by rw [HVLe.out]; rfl) y4
            have e24 : (many gg_ L (VLe z))[24]?.getD undef = undef := many_eval3 hgN (HOKe.out z) (by rw [HVLe.out]; rfl) y6
            exact opIn_not_g (j := 4) (b := false) (c := true) rfl rfl (by simp [yielded, many_some hgN (show 22 < 61 by decide) e22]) (by decide) (fun _ => trivial) ⟨z, by exact many_put3 (HOKe.out _) (by rw [HVLe.out]; rfl) hL, hph⟩
          · skip
            have y4 : L 4 = true := up_at hu 4 (by kernel_rfl)
            have y5 : L 5 = true := up_at hu 5 (by kernel_rfl)
            have y7 : L 7 = true := up_at hu 7 (by kernel_rfl)
            have e22 : (many gg_ L (VLe z))[22]?.getD undef = .bool true := many_eval3 hgN (HOKe.out z) (by rw [HVLe.out]; rfl) y4
            have e23 : (many gg_ L (VLe z))[23]?.getD undef = undef := many_eval3 hgN (HOKe.out z) (by rw [HVLe.out]; rfl) y5
            have e25 : (many gg_ L (VLe z))[25]?.getD undef = undef := many_eval3 hgN (HOKe.out z) (by rw [HVLe.out]; rfl) y7
            exact opIn_not_g (j := 4) (b := false) (c := true) rfl rfl (by simp [yielded, many_some hgN (show 22 < 61 by decide) e22]) (by decide) (fun _ => trivial) ⟨z, by exact many_put3 (HOKe.out _) (by rw [HVLe.out]; rfl) hL, hph⟩
          · skip
            have y4 : L 4 = true := up_at hu 4 (by kernel_rfl)
            have y8 : L 8 = true := up_at hu 8 (by kernel_rfl)
            have e22 : (many gg_ L (VLe z))[22]?.getD undef = .bool true := many_eval3 hgN (HOKe.out z) (by rw [HVLe.out]; rfl) y4
            have e26 : (many gg_ L (VLe z))[26]?.getD undef = undef := many_eval3 hgN (HOKe.out z) (by rw [HVLe.out]; rfl) y8
            exact opIn_not_g (j := 4) (b := false) (c := true) rfl rfl (by simp [yielded, many_some hgN (show 22 < 61 by decide) e22]) (by decide) (fun _ => trivial) ⟨z, by exact many_put3 (HOKe.out _) (by rw [HVLe.out]; rfl) hL, hph⟩
          · skip
            have y9 : L 9 = true := up_at hu 9 (by kernel_rfl)
            have e1 : (many gg_ L (VLe z))[1]?.getD undef = .slice pb nb cb := many_out3 hgN (HOKe.out z) (by rw [HVLe.out]; rfl) hF1
            have e27 : (many gg_ L (VLe z))[27]?.getD undef = undef := many_eval3 hgN (HOKe.out z) (by rw [HVLe.out]; rfl) y9
            exact opIn_not_u (j := 9) (b := true) rfl rfl (by simp [yielded, undef, many_some hgN (show 27 < 61 by decide) e27]) (fun _ => trivial) ⟨z, by exact many_put3 (HOKe.out _) (by rw [HVLe.out]; rfl) hL, hph⟩
          · skip
            have y9 : L 9 = true := up_at hu 9 (by kernel_rfl)
            have e7 : (many gg_ L (VLe z))[7]?.getD undef = .int .i64 (nb : Int) := many_out3 hgN (HOKe.out z) (by rw [HVLe.out]; rfl) hF7
            have e27 : (many gg_ L (VLe z))[27]?.getD undef = undef := many_eval3 hgN (HOKe.out z) (by rw [HVLe.out]; rfl) y9
            exact opIn_not_u (j := 9) (b := true) rfl rfl (by simp [yielded, undef, many_some hgN (show 27 < 61 by decide) e27]) (fun _ => trivial) ⟨z, by exact many_put3 (HOKe.out _) (by rw [HVLe.out]; rfl) hL, hph⟩
          · skip
            have y9 : L 9 = true := up_at hu 9 (by kernel_rfl)
            have y10 : L 10 = true := up_at hu 10 (by kernel_rfl)
            have y11 : L 11 = true := up_at hu 11 (by kernel_rfl)
            have e27 : (many gg_ L (VLe z))[27]?.getD undef = undef := many_eval3 hgN (HOKe.out z) (by rw [HVLe.out]; rfl) y9
            have e28 : (many gg_ L (VLe z))[28]?.getD undef = undef := many_eval3 hgN (HOKe.out z) (by rw [HVLe.out]; rfl) y10
            have e29 : (many gg_ L (VLe z))[29]?.getD undef = undef := many_eval3 hgN (HOKe.out z) (by rw [HVLe.out]; rfl) y11
            exact opIn_not_u (j := 9) (b := true) rfl rfl (by simp [yielded, undef, many_some hgN (show 27 < 61 by decide) e27]) (fun _ => trivial) ⟨z, by exact many_put3 (HOKe.out _) (by rw [HVLe.out]; rfl) hL, hph⟩
          · skip
            have y9 : L 9 = true := up_at hu 9 (by kernel_rfl)
            have y12 : L 12 = true := up_at hu 12 (by kernel_rfl)
            have e27 : (many gg_ L (VLe z))[27]?.getD undef = undef := many_eval3 hgN (HOKe.out z) (by rw [HVLe.out]; rfl) y9
            have e30 : (many gg_ L (VLe z))[30]?.getD undef = undef := many_eval3 hgN (HOKe.out z) (by rw [HVLe.out]; rfl) y12
            exact opIn_not_u (j := 9) (b := true) rfl rfl (by simp [yielded, undef, many_some hgN (show 27 < 61 by decide) e27]) (fun _ => trivial) ⟨z, by exact many_put3 (HOKe.out _) (by rw [HVLe.out]; rfl) hL, hph⟩
          · skip
            have y9 : L 9 = true := up_at hu 9 (by kernel_rfl)
            have y13 : L 13 = true := up_at hu 13 (by kernel_rfl)
            have e27 : (many gg_ L (VLe z))[27]?.getD undef = undef := many_eval3 hgN (HOKe.out z) (by rw [HVLe.out]; rfl) y9
            have e31 : (many gg_ L (VLe z))[31]?.getD undef = undef := many_eval3 hgN (HOKe.out z) (by rw [HVLe.out]; rfl) y13
            exact opIn_not_u (j := 9) (b := true) rfl rfl (by simp [yielded, undef, many_some hgN (show 27 < 61 by decide) e27]) (fun _ => trivial) ⟨z, by exact many_put3 (HOKe.out _) (by rw [HVLe.out]; rfl) hL, hph⟩
          · skip
            have y9 : L 9 = true := up_at hu 9 (by kernel_rfl)
            have e0 : (many gg_ L (VLe z))[0]?.getD undef = .slice (some ⟨ga, qa, none⟩) na ca := many_out3 hgN (HOKe.out z) (by rw [HVLe.out]; rfl) hF0
            have e27 : (many gg_ L (VLe z))[27]?.getD undef = undef := many_eval3 hgN (HOKe.out z) (by rw [HVLe.out]; rfl) y9
            exact opIn_not_u (j := 9) (b := true) rfl rfl (by simp [yielded, undef, many_some hgN (show 27 < 61 by decide) e27]) (fun _ => trivial) ⟨z, by exact many_put3 (HOKe.out _) (by rw [HVLe.out]; rfl) hL, hph⟩
          · skip
            have y9 : L 9 = true := up_at hu 9 (by kernel_rfl)
            have e6 : (many gg_ L (VLe z))[6]?.getD undef = .int .i64 (i : Int) := many_out3 hgN (HOKe.out z) (by rw [HVLe.out]; rfl) hF6
            have e27 : (many gg_ L (VLe z))[27]?.getD undef = undef := many_eval3 hgN (HOKe.out z) (by rw [HVLe.out]; rfl) y9
            exact opIn_not_u (j := 9) (b := true) rfl rfl (by simp [yielded, undef, many_some hgN (show 27 < 61 by decide) e27]) (fun _ => trivial) ⟨z, by exact many_put3 (HOKe.out _) (by rw [HVLe.out]; rfl) hL, hph⟩
          · skip
            have y9 : L 9 = true := up_at hu 9 (by kernel_rfl)
            have y15 : L 15 = true := up_at hu 15 (by kernel_rfl)
            have y16 : L 16 = true := up_at hu 16 (by kernel_rfl)
            have e27 : (many gg_ L (VLe z))[27]?.getD undef = undef := many_eval3 hgN (HOKe.out z) (by rw [HVLe.out]; rfl) y9
            have e33 : (many gg_ L (VLe z))[33]?.getD undef = undef := many_eval3 hgN (HOKe.out z) (by rw [HVLe.out]; rfl) y15
            have e34 : (many gg_ L (VLe z))[34]?.getD undef = undef := many_eval3 hgN (HOKe.out z) (by rw [HVLe.out]; rfl) y16
            exact opIn_not_u (j := 9) (b := true) rfl rfl (by simp [yielded, undef, many_some hgN (show 27 < 61 by decide) e27]) (fun _ => trivial) ⟨z, by exact many_put3 (HOKe.out _) (by rw [HVLe.out]; rfl) hL, hph⟩
          · skip
            have y9 : L 9 = true := up_at hu 9 (by kernel_rfl)
            have y17 : L 17 = true := up_at hu 17 (by kernel_rfl)
            have e27 : (many gg_ L (VLe z))[27]?.getD undef = undef := many_eval3 hgN (HOKe.out z) (by rw [HVLe.out]; rfl) y9
            have e35 : (many gg_ L (VLe z))[35]?.getD undef = undef := many_eval3 hgN (HOKe.out z) (by rw [HVLe.out]; rfl) y17
            exact opIn_not_u (j := 9) (b := true) rfl rfl (by simp [yielded, undef, many_some hgN (show 27 < 61 by decide) e27]) (fun _ => trivial) ⟨z, by exact many_put3 (HOKe.out _) (by rw [HVLe.out]; rfl) hL, hph⟩
          · skip
            have y9 : L 9 = true := up_at hu 9 (by kernel_rfl)
            have y18 : L 18 = true := up_at hu 18 (by kernel_rfl)
            have e27 : (many gg_ L (VLe z))[27]?.getD undef = undef := many_eval3 hgN (HOKe.out z) (by rw [HVLe.out]; rfl) y9
            have e36 : (many gg_ L (VLe z))[36]?.getD undef = undef := many_eval3 hgN (HOKe.out z) (by rw [HVLe.out]; rfl) y18
            exact opIn_not_u (j := 9) (b := true) rfl rfl (by simp [yielded, undef, many_some hgN (show 27 < 61 by decide) e27]) (fun _ => trivial) ⟨z, by exact many_put3 (HOKe.out _) (by rw [HVLe.out]; rfl) hL, hph⟩
          · skip
            have y9 : L 9 = true := up_at hu 9 (by kernel_rfl)
            have y14 : L 14 = true := up_at hu 14 (by kernel_rfl)
            have y19 : L 19 = true := up_at hu 19 (by kernel_rfl)
            have e27 : (many gg_ L (VLe z))[27]?.getD undef = undef := many_eval3 hgN (HOKe.out z) (by rw [HVLe.out]; rfl) y9
            have e32 : (many gg_ L (VLe z))[32]?.getD undef = undef := many_eval3 hgN (HOKe.out z) (by rw [HVLe.out]; rfl) y14
            have e37 : (many gg_ L (VLe z))[37]?.getD undef = undef := many_eval3 hgN (HOKe.out z) (by rw [HVLe.out]; rfl) y19
            exact opIn_not_u (j := 9) (b := true) rfl rfl (by simp [yielded, undef, many_some hgN (show 27 < 61 by decide) e27]) (fun _ => trivial) ⟨z, by exact many_put3 (HOKe.out _) (by rw [HVLe.out]; rfl) hL, hph⟩
          · skip
            have y9 : L 9 = true := up_at hu 9 (by kernel_rfl)
            have y20 : L 20 = true := up_at hu 20 (by kernel_rfl)
            have e27 : (many gg_ L (VLe z))[27]?.getD undef = undef := many_eval3 hgN (HOKe.out z) (by rw [HVLe.out]; rfl) y9
            have e38 : (many gg_ L (VLe z))[38]?.getD undef = undef := many_eval3 hgN (HOKe.out z) (by rw [HVLe.out]; rfl) y20
            exact opIn_not_u (j := 9) (b := true) rfl rfl (by simp [yielded, undef, many_some hgN (show 27 < 61 by decide) e27]) (fun _ => trivial) ⟨z, by exact many_put3 (HOKe.out _) (by rw [HVLe.out]; rfl) hL, hph⟩
          · skip
            have y4 : L 4 = true := up_at hu 4 (by kernel_rfl)
            have y9 : L 9 = true := up_at hu 9 (by kernel_rfl)
            have y21 : L 21 = true := up_at hu 21 (by kernel_rfl)
            have e22 : (many gg_ L (VLe z))[22]?.getD undef = .bool true := many_eval3 hgN (HOKe.out z) (by rw [HVLe.out]; rfl) y4
            have e27 : (many gg_ L (VLe z))[27]?.getD undef = undef := many_eval3 hgN (HOKe.out z) (by rw [HVLe.out]; rfl) y9
            have e39 : (many gg_ L (VLe z))[39]?.getD undef = undef := many_eval3 hgN (HOKe.out z) (by rw [HVLe.out]; rfl) y21
            exact opIn_not_g (j := 4) (b := false) (c := true) rfl rfl (by simp [yielded, many_some hgN (show 22 < 61 by decide) e22]) (by decide) (fun _ => trivial) ⟨z, by exact many_put3 (HOKe.out _) (by rw [HVLe.out]; rfl) hL, hph⟩
          · skip
            have y4 : L 4 = true := up_at hu 4 (by kernel_rfl)
            have y22 : L 22 = true := up_at hu 22 (by kernel_rfl)
            have e22 : (many gg_ L (VLe z))[22]?.getD undef = .bool true := many_eval3 hgN (HOKe.out z) (by rw [HVLe.out]; rfl) y4
            have e40 : (many gg_ L (VLe z))[40]?.getD undef = undef := many_eval3 hgN (HOKe.out z) (by rw [HVLe.out]; rfl) y22
            refine opIn_run (v := .bool true) (w' := w') rfl rfl (fun c h => by cases h) (fun _ => trivial) ?_ ⟨z, by exact many_put3 (HOKe.out _) (by rw [HVLe.out]; rfl) hL, hph⟩
            go_simp
        case fine =>
          intro L z w' hall hph
          rw [HVLe.out]
          dsimp only [manyL, List.set_cons_zero, List.set_cons_succ]
          clear hall HVLe HOKe HVIe
          obtain ⟨wb, hwb⟩ : ∃ W, W = w' := ⟨_, rfl⟩
          subst hwb
          have HBb : Hid (Below w.heap.size w wb) := Lib.hid (HI.out.2.2.2.trans (hph.mono HI.out.2.2.2.size))
          have hob : wb.ownsRow w.heap.size 78 10 (.slice Va (i + nb) Vc) (i + nb) (out.flatMap (encK o)) := ownsRow_keep HI.out.1 hph.size (fun k hk => hph.block k (own_lt HI.out.1 hk).2)
          obtain ⟨X, hX⟩ : ∃ X, wb.alloc (.cells #[.int .i64 x.ly, .int .i64 x.rs, .int .i64 x.cp, .int .i64 x.pc, .int .i64 a0, .int .i64 a1, .int .i64 a2, .int .i64 a3, .int .i64 a4, .int .i64 a5] 78) = X := ⟨_, rfl⟩
          obtain ⟨zx, hzx⟩ : ∃ z, wb.heap.size = z := ⟨_, rfl⟩
          have hzX : X.heap[zx]? = some (.cells (encK o x).toArray 78 (0, 0)) := by rw [← hX, ← hzx, encK_arr Hx.out.2.1]; exact World.alloc_heap_new wb _
          have hbX : Below wb.heap.size wb X := by rw [← hX]; exact (Below.refl _ _).alloc (Nat.le_refl _) _
          have hoX : X.ownsRow w.heap.size 78 10 (.slice Va (i + nb) Vc) (i + nb) (out.flatMap (encK o)) := ownsRow_keep hob hbX.size (fun k hk => hbX.block k (own_lt hob hk).2)
          obtain ⟨V', w7, hr, ho7, hg7⟩ := app_rk hoX hzX (Nat.le_trans HBb.out.size hbX.size) (by omega)
          obtain ⟨A7, c7, rfl, _⟩ := own_any ho7
          have HN : Hid (w7.ownsRow w.heap.size 78 10 (.slice A7 (i + nb + 1) c7) (i + nb + 1) ((out ++ [x]).flatMap (encK o)) ∧ (out ++ [x]).length = i + nb + 1 ∧ (out ++ [x]) ++ (A.drop (i + 1)).merge (B.drop (nb)) (leK o) = T ∧ Below w.heap.size w w7) := Lib.hid (by
            refine ⟨by simpa using ho7, by simp [HI.out.2.1], ?_, (HBb.out.trans (hbX.mono HBb.out.size)).grown hg7 (Nat.le_trans HBb.out.size hbX.size) (fun k e => (own_lt hoX e).1)⟩
            rw [← HI.out.2.2.1, mg_left Hx.out.1 (.inl (by rw [HLB.out]; exact Nat.le_refl _)), List.append_assoc]
            rfl)
          obtain ⟨r0, r1, r2, r3, r4, r5, r6, r7, r8, r9⟩ := row10 (show World.rangeAt wb _ _ _ from fun j_ v_ hv_ => (HBb.out.cell (p := ⟨ga, _, none⟩) Hx.out.2.2.1).trans (Hx.out.2.2.2 j_ v_ hv_)) Hx.out.2.1
          have hk0 : ¬ (i : Int) < 0 ∧ (0 : Int) ≤ (i : Int) := by omega
          have hb13 : (i : Int) ≤ 13000000 := by omega
          clear hob hzX hbX hoX ho7 hg7 hph HI HBb
          go_wp2_with fail
          go_roundg g1
          case measure => omega
          case rel => exact ⟨i + 1, nb, out ++ [x], A7, c7, by omega, by omega, by omega, by first | rfl | (congr 1; omega), by go_num, by go_num, by first | exact HN | (rw [show i + 1 + (nb) = i + nb + 1 by omega]; exact HN)⟩
      · obtain rfl : na = i := by omega
        have hiI : ¬ (na : Int) < (na : Int) := by omega
        have HE : Hid (RkR o wa Va T ∧ Below w.heap.size w wa) := Lib.hid (by
          obtain ⟨h1, h2, h3, h4⟩ := HI.out
          rw [mg_end (by rw [HLA.out]; exact Nat.le_refl _) (by rw [HLB.out]; exact Nat.le_refl _), List.append_nil] at h3
          subst h3
          exact ⟨own_rkR h1 h2, h4⟩)
        clear HI
        go_wp2
        go_ret
        exact ⟨Va, ⟨Vc, rfl⟩, HE.out.1, HE.out.2⟩
end
end Go.Proofs.Ytejoedanhonpkaa
