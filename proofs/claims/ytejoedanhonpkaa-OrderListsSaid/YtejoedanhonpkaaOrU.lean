/- Packets in order: order.List walked. -/
import Derived.Test.YtejoedanhonpkaaOrU2
import Derived.LaidEql
import Derived.Sort.CutIn
set_option linter.unusedVariables false
set_option linter.unusedSimpArgs false
namespace Go.Proofs.Ytejoedanhonpkaa
open Go.RowKit Go.Shelf
set_option maxRecDepth 100000
attribute [local go_sem] Oper.semAt_some
attribute [local go_sem ↓] appSem_eq
theorem flat6 : ∀ (L : List Pk) (i : Nat) (x : Pk), L[i]? = some x → (L.flatMap Pk.vals)[i * 6]? = some (.int .i64 x.ly) ∧ (L.flatMap Pk.vals)[i * 6 + 1]? = some (.int .i64 x.rs) ∧ (L.flatMap Pk.vals)[i * 6 + 2]? = some (.int .i64 x.cp) ∧ (L.flatMap Pk.vals)[i * 6 + 3]? = some (.int .i64 x.pc) ∧ (L.flatMap Pk.vals)[i * 6 + 4]? = some (.int .i64 x.dn) ∧ (L.flatMap Pk.vals)[i * 6 + 5]? = some (.int .i64 x.ac)
  | [], i, x, h => by simp at h
  | y :: l, 0, x, h => by
    simp at h
    subst h
    exact ⟨rfl, rfl, rfl, rfl, rfl, rfl⟩
  | y :: l, i + 1, x, h => by
    have := flat6 l i x (by simpa using h)
    rw [List.flatMap_cons, Nat.succ_mul]
    obtain ⟨a, b, c, d, e, f⟩ := this
    refine ⟨?_, ?_, ?_, ?_, ?_, ?_⟩ <;> (rw [List.getElem?_append_right (by simp)]; simp only [List.length_cons, List.length_nil])
    · rw [show i * 6 + 6 - 6 = i * 6 by omega]; exact a
    · rw [show i * 6 + 6 + 1 - 6 = i * 6 + 1 by omega]; exact b
    · rw [show i * 6 + 6 + 2 - 6 = i * 6 + 2 by omega]; exact c
    · rw [show i * 6 + 6 + 3 - 6 = i * 6 + 3 by omega]; exact d
    · rw [show i * 6 + 6 + 4 - 6 = i * 6 + 4 by omega]; exact e
    · rw [show i * 6 + 6 + 5 - 6 = i * 6 + 5 by omega]; exact f
theorem own_pk {w : World} {B n : Nat} {V : Value} {L : List Pk} (h : w.ownsRow B 66 6 V n (L.flatMap Pk.vals)) (hl : L.length = n) : ∃ A c, V = .slice A n c ∧ PkR w A L := by
  obtain ⟨A, c, rfl, _⟩ := own_any h
  refine ⟨A, c, rfl, fun i x e => ?_⟩
  have hi : i < L.length := (List.getElem?_eq_some_iff.1 e).1
  obtain ⟨g, c', hV, _⟩ := own_form h (by omega)
  cases hV
  obtain ⟨k0, k1, k2, k3, k4, k5⟩ := flat6 L i x e
  have f0 := h.cellAt (i * 6) (by omega)
  have f1 := h.cellAt (i * 6 + 1) (by omega)
  have f2 := h.cellAt (i * 6 + 2) (by omega)
  have f3 := h.cellAt (i * 6 + 3) (by omega)
  have f4 := h.cellAt (i * 6 + 4) (by omega)
  have f5 := h.cellAt (i * 6 + 5) (by omega)
  exact ⟨g, 0, rfl, (own_lt h rfl).2, by simpa using f0.trans k0, by simpa using f1.trans k1, by simpa using f2.trans k2, by simpa using f3.trans k3, by simpa using f4.trans k4, by simpa using f5.trans k5⟩
theorem eqnil (k : Nat) (X : World) : (binOp .eql 58 (.func (.func k) #[] #[]) .nilFunc).run Try.prog X = .ok (.bool false) X := by
  have h : ∀ d : Nat, (Op.equalIn (d + 1) 58 (.func (.func k) #[] #[]) .nilFunc).run Try.prog X = .ok false X := fun d => by simp [Op.equalIn, run_underlying Try.underlying58]
  simp only [binOp]
  simp [Op.equal, Op.maxDepth, h]
set_option maxHeartbeats 8000000 in
theorem list_any (o : Nat) (ho : o < 5) (t0 t1 t2 t3 ix iy iox ioy : Int) (cb co n cc : Nat) (oc : Obj) (cs : List Cp) (tx ty bw bh st : Int) (rc so ep : Bool) (LV PR LY : Nat) (w : World)
    (ht : inN (t0, t1, t2, t3) 255) (hto : Ord4 (t0, t1, t2, t3)) (hcs : ∀ (i : Nat) (c : Cp), cs[i]? = some c → (1 ≤ c.dx ∧ c.dx ≤ 4) ∧ (1 ≤ c.dy ∧ c.dy ≤ 4)) (hn4 : cs.length ≤ 4) (hn : cs.length = n) (hlv : LV ≤ 5) (hpr : 1 ≤ PR ∧ PR ≤ 15) (hly : LY ≤ 8)
    (hoc : w.heap[cb]? = some oc) (hco : ∀ X : World, X.heap[cb]? = some oc → ∀ (i : Nat) (c : Cp), cs[i]? = some c → X.cell? ⟨cb, co + i * 5, none⟩ = some (.int .i64 c.d) ∧ X.cell? ⟨cb, co + i * 5 + 1, none⟩ = some (.bool c.sg) ∧ X.cell? ⟨cb, co + i * 5 + 2, none⟩ = some (.int .i64 c.dx) ∧ X.cell? ⟨cb, co + i * 5 + 3, none⟩ = some (.int .i64 c.dy) ∧ X.cell? ⟨cb, co + i * 5 + 4, none⟩ = some (.slice c.A c.n c.cap))
    (V P Y O : Int) (hV : (LV : Int) = V) (hP : (PR : Int) = P) (hY : (LY : Int) = Y) (hO : (o : Int) = O) :
    Calls Try.prog 13 #[.agg #[.int .i64 t0, .int .i64 t1, .int .i64 t2, .int .i64 t3], .agg #[.int .i64 ix, .int .i64 iy, .int .i64 iox, .int .i64 ioy, .slice (some ⟨cb, co, none⟩) n cc], .agg #[.int .i64 tx, .int .i64 ty, .int .i64 V, .int .i64 bw, .int .i64 bh, .int .i64 P, .int .i64 st, .int .i64 O, .int .i64 Y, .bool rc, .bool so, .bool ep]] w fun e w' => ∃ (M : List Pk) (A : Option Addr) (c : Nat), e = .returned (.slice A M.length c) ∧ OL (geo (t0, t1, t2, t3) (cs.map fun c => (c.dx, c.dy)) LV PR) LY o M ∧ w'.ownsRow w.heap.size 42 4 (.slice A M.length c) M.length (M.flatMap Pk.key) ∧ Below w.heap.size w w' := by
  refine callsIn_wide (n := 9) |>.1 ?_
  have hF1 : Fence.wide.fn 25 := trivial
  have hF2 : Fence.wide.fn 26 := trivial
  have hF3 : Fence.wide.fn 27 := trivial
  have h9 : 1 ≤ 9 := by omega
  have C1 := Lib.hid (fun u => ranking_any o ho u)
  rw [hO] at C1
  have C2 := Lib.hid (fun u => allowed_any t0 t1 t2 t3 tx ty V bw bh P st O Y rc so ep u (by have := ht.1; have := ht.2.2.1; simp only at *; omega) (by have := ht.2.1; have := ht.2.2.2; simp only at *; omega) (by omega) (by omega) (by omega))
  have C3 := Lib.hid (fun u => packets_any #[.int .i64 t0, .int .i64 t1, .int .i64 t2, .int .i64 t3] #[.int .i64 ix, .int .i64 iy, .int .i64 iox, .int .i64 ioy, .slice (some ⟨cb, co, none⟩) n cc] #[.int .i64 tx, .int .i64 ty, .int .i64 V, .int .i64 bw, .int .i64 bh, .int .i64 P, .int .i64 st, .int .i64 O, .int .i64 Y, .bool rc, .bool so, .bool ep] u)
  have HOC := Lib.hid hoc
  have HCO := Lib.hid hco
  have HCS := Lib.hid hcs
  have HT := Lib.hid ht
  have HN := Lib.hid hn
  have HVP := Lib.hid (And.intro hV (And.intro hP (And.intro hY hO)))
  clear hco hoc hcs ht hV hP hY hO hn
  refine callsIn_of_wp_marks Try.func13 rfl trivial ?_ rfl
  simp only [Try.ntmps13, List.size_toArray, List.length_cons, List.length_nil, Nat.reduceAdd, Nat.reduceSub, Array.replicate_succ, Array.replicate_zero, List.push_toArray, List.append_toArray, List.nil_append, List.cons_append]
  gi_upto_region 1 with fail
  obtain ⟨b0, hb0⟩ : ∃ b, w.heap.size = b := ⟨_, rfl⟩
  obtain ⟨X, hX⟩ : ∃ X, ((w.alloc (.cells #[.int .i64 t0, .int .i64 t1, .int .i64 t2, .int .i64 t3] 38)).alloc (.cells #[.int .i64 ix, .int .i64 iy, .int .i64 iox, .int .i64 ioy, .slice (some ⟨cb, co, none⟩) n cc] 28)).alloc (.cells #[.int .i64 tx, .int .i64 ty, .int .i64 V, .int .i64 bw, .int .i64 bh, .int .i64 P, .int .i64 st, .int .i64 O, .int .i64 Y, .bool rc, .bool so, .bool ep] 30) = X := ⟨_, rfl⟩
  have hbX : Below b0 w X := by rw [← hX, ← hb0]; exact (((Below.refl _ w).alloc (Nat.le_refl _) _).alloc (by simp) _).alloc (by simp; omega) _
  have hsX : X.heap.size = b0 + 3 := by rw [← hX, ← hb0]; simp
  have r0 : X.heap[b0]? = some (.cells #[.int .i64 t0, .int .i64 t1, .int .i64 t2, .int .i64 t3] 38 (0, 0)) := by rw [← hX, ← hb0, Below.heap_alloc _ _ _ (by simp; omega), Below.heap_alloc _ _ _ (by simp)]; exact World.alloc_heap_new w _
  have r1 : X.heap[b0 + 1]? = some (.cells #[.int .i64 ix, .int .i64 iy, .int .i64 iox, .int .i64 ioy, .slice (some ⟨cb, co, none⟩) n cc] 28 (0, 0)) := by rw [← hX, ← hb0, Below.heap_alloc _ _ _ (by simp)]; exact new2 w _ _
  have r2 : X.heap[b0 + 2]? = some (.cells #[.int .i64 tx, .int .i64 ty, .int .i64 V, .int .i64 bw, .int .i64 bh, .int .i64 P, .int .i64 st, .int .i64 O, .int .i64 Y, .bool rc, .bool so, .bool ep] 30 (0, 0)) := by
    rw [← hX, ← hb0]
    have := World.alloc_heap_new ((w.alloc (.cells #[.int .i64 t0, .int .i64 t1, .int .i64 t2, .int .i64 t3] 38)).alloc (.cells #[.int .i64 ix, .int .i64 iy, .int .i64 iox, .int .i64 ioy, .slice (some ⟨cb, co, none⟩) n cc] 28)) (.cells #[.int .i64 tx, .int .i64 ty, .int .i64 V, .int .i64 bw, .int .i64 bh, .int .i64 P, .int .i64 st, .int .i64 O, .int .i64 Y, .bool rc, .bool so, .bool ep] 30)
    simpa using this
  rw [hX, hb0]
  clear hX
  obtain ⟨g0, g1, g2, g3⟩ := rc4 r0
  obtain ⟨i0, i1, i2, i3, i4⟩ := cells5 r1
  obtain ⟨p0, p1, p2, p3, p4, p5, p6, p7, p8, p9, pa, pb⟩ := cells12 r2
  gi_upto_region 2 with (gi_at_call 25; refine (callsIn_wide.2 (C1.out _)).mono ?_; rintro e w1 ⟨rfl, rfl⟩)
  have hqn := eqnil (rankF o) X
  gi_upto_region 4 with (gi_at_call 26; refine (callsIn_wide.2 (C2.out _)).mono ?_; rintro e w2 ⟨rfl, hb2⟩)
  obtain ⟨b, hb⟩ : ∃ b, w2.heap.size = b := ⟨_, rfl⟩
  obtain ⟨X3, hX3⟩ : ∃ X, w2.alloc (.cells #[.slice none 0 0] 61) = X := ⟨_, rfl⟩
  have hb3 : Below X.heap.size X X3 := by rw [← hX3]; exact hb2.alloc hb2.size _
  have hlt : ∀ {k : Nat} {ob : Obj}, X.heap[k]? = some ob → k < X.heap.size := fun h => (Array.getElem?_eq_some_iff.1 h).1
  have s0 := (hb3.block _ (hlt r0)).trans r0
  have s1 := (hb3.block _ (hlt r1)).trans r1
  have s2 := (hb3.block _ (hlt r2)).trans r2
  have hbb : X3.heap[b]? = some (.cells #[.slice none 0 0] 61 (0, 0)) := by rw [← hX3, ← hb]; exact World.alloc_heap_new w2 _
  have hs3 : X3.heap.size = b + 1 := by rw [← hX3, World.size_alloc, hb]
  have hbl3 : Below b0 w X3 := hbX.trans (hb3.mono (by rw [hsX]; omega))
  have hb03 : b0 + 3 ≤ b := by have := hb2.size; omega
  clear g0 g1 g2 g3 i0 i1 i2 i3 i4 p0 p1 p2 p3 p4 p5 p6 p7 p8 p9 pa pb r0 r1 r2 hlt hqn hb2 hb3 hsX hbX
  obtain ⟨g0, g1, g2, g3⟩ := rc4 s0
  obtain ⟨i0, i1, i2, i3, i4⟩ := cells5 s1
  obtain ⟨p0, p1, p2, p3, p4, p5, p6, p7, p8, p9, pa, pb⟩ := cells12 s2
  gi_upto_region 5 with fail
  clear hX3 hb
  gi_wp2_with (gi_at_call 27; refine (callsIn_wide.2 (C3.out _)).mono ?_; rintro e w4 ⟨rfl, rfl⟩)
  obtain ⟨W5, hW5⟩ : ∃ W, ((X3.alloc (.cells #[.int .i64 t0, .int .i64 t1, .int .i64 t2, .int .i64 t3] 38)).alloc (.cells #[.int .i64 ix, .int .i64 iy, .int .i64 iox, .int .i64 ioy, .slice (some ⟨cb, co, none⟩) n cc] 28)).alloc (.cells #[.int .i64 tx, .int .i64 ty, .int .i64 V, .int .i64 bw, .int .i64 bh, .int .i64 P, .int .i64 st, .int .i64 O, .int .i64 Y, .bool rc, .bool so, .bool ep] 30) = W := ⟨_, rfl⟩
  have hb5 : Below X3.heap.size X3 W5 := by rw [← hW5]; exact (((Below.refl _ X3).alloc (Nat.le_refl _) _).alloc (by simp) _).alloc (by simp; omega) _
  have q0 : W5.heap[b + 1]? = some (.cells #[.int .i64 t0, .int .i64 t1, .int .i64 t2, .int .i64 t3] 38 (0, 0)) := by rw [← hW5, ← hs3, Below.heap_alloc _ _ _ (by simp; omega), Below.heap_alloc _ _ _ (by simp)]; exact World.alloc_heap_new X3 _
  have q1 : W5.heap[b + 2]? = some (.cells #[.int .i64 ix, .int .i64 iy, .int .i64 iox, .int .i64 ioy, .slice (some ⟨cb, co, none⟩) n cc] 28 (0, 0)) := by rw [← hW5, show b + 2 = X3.heap.size + 1 by omega, Below.heap_alloc _ _ _ (by simp)]; exact new2 X3 _ _
  have q2 : W5.heap[b + 3]? = some (.cells #[.int .i64 tx, .int .i64 ty, .int .i64 V, .int .i64 bw, .int .i64 bh, .int .i64 P, .int .i64 st, .int .i64 O, .int .i64 Y, .bool rc, .bool so, .bool ep] 30 (0, 0)) := by
    rw [← hW5, show b + 3 = X3.heap.size + 2 by omega]
    have := World.alloc_heap_new ((X3.alloc (.cells #[.int .i64 t0, .int .i64 t1, .int .i64 t2, .int .i64 t3] 38)).alloc (.cells #[.int .i64 ix, .int .i64 iy, .int .i64 iox, .int .i64 ioy, .slice (some ⟨cb, co, none⟩) n cc] 28)) (.cells #[.int .i64 tx, .int .i64 ty, .int .i64 V, .int .i64 bw, .int .i64 bh, .int .i64 P, .int .i64 st, .int .i64 O, .int .i64 Y, .bool rc, .bool so, .bool ep] 30)
    simpa using this
  have hs5 : W5.heap.size = b + 4 := by rw [← hW5]; simp; omega
  have qb := (hb5.block b (by omega)).trans hbb
  have hbl5 : Below b0 w W5 := hbl3.trans (hb5.mono (by omega))
  rw [hW5]
  clear hW5 s0 s1 s2 g0 g1 g2 g3 i0 i1 i2 i3 i4 p0 p1 p2 p3 p4 p5 p6 p7 p8 p9 pa pb hbb hbl3 hb5 hs3 C1 C2 C3
  have HB0 := Lib.hid hb0
  refine range_core (n := 9) (by omega) (gf := 40) (lb := #[.pointer (some ⟨b + 2, 0, none⟩), .pointer (some ⟨b + 1, 0, none⟩), .pointer (some ⟨b + 3, 0, none⟩)]) rfl (enters_of Try.func40 (by kernel_rfl) rfl)
    (Fin := fun W' => ∃ Vr, W'.heap[b]? = some (.cells #[Vr] 61 (0, 0)) ∧ W'.ownsRow (b + 6) 66 6 Vr ((geo (t0, t1, t2, t3) (cs.map fun c => (c.dx, c.dy)) LV PR).pks LY).length (((geo (t0, t1, t2, t3) (cs.map fun c => (c.dx, c.dy)) LV PR).pks LY).flatMap Pk.vals) ∧ W'.heap[b + 4]? = some (.deferred (some [])) ∧ b + 6 ≤ W'.heap.size ∧ Below b0 w W') ?call ?fin
  case call =>
    intro fn
    rw [hs5]
    refine coll_in t0 t1 t2 t3 ix iy iox ioy cb co n cc b b0 fn oc cs tx ty bw bh st O rc so ep LV PR LY w W5 #[.agg #[.int .i64 t0, .int .i64 t1, .int .i64 t2, .int .i64 t3], .agg #[.int .i64 ix, .int .i64 iy, .int .i64 iox, .int .i64 ioy, .slice (some ⟨cb, co, none⟩) n cc], .agg #[.int .i64 tx, .int .i64 ty, .int .i64 V, .int .i64 bw, .int .i64 bh, .int .i64 P, .int .i64 st, .int .i64 O, .int .i64 Y, .bool rc, .bool so, .bool ep], .pointer (some ⟨b0, 0, none⟩), .pointer (some ⟨b0 + 1, 0, none⟩), .pointer (some ⟨b0 + 1 + 1, 0, none⟩), .slice none 0 0, .func (.func (rankF o)) #[] #[], .pointer (some ⟨b, 0, none⟩), undef, undef, undef, undef, .pointer (some ⟨b0 + 1 + 1, 7, none⟩), .int .i64 O, .func (.func (rankF o)) #[] #[], .func (.func (rankF o)) #[] #[], .bool false, .bool false, .agg #[.int .i64 t0, .int .i64 t1, .int .i64 t2, .int .i64 t3], .agg #[.int .i64 tx, .int .i64 ty, .int .i64 V, .int .i64 bw, .int .i64 bh, .int .i64 P, .int .i64 st, .int .i64 O, .int .i64 Y, .bool rc, .bool so, .bool ep], .bool true, .bool false, .bool false, .agg #[.int .i64 t0, .int .i64 t1, .int .i64 t2, .int .i64 t3], .agg #[.int .i64 ix, .int .i64 iy, .int .i64 iox, .int .i64 ioy, .slice (some ⟨cb, co, none⟩) n cc], .agg #[.int .i64 tx, .int .i64 ty, .int .i64 V, .int .i64 bw, .int .i64 bh, .int .i64 P, .int .i64 st, .int .i64 O, .int .i64 Y, .bool rc, .bool so, .bool ep], .func (.func 40) #[] #[.pointer (some ⟨b + 1 + 1, 0, none⟩), .pointer (some ⟨b + 1, 0, none⟩), .pointer (some ⟨b + 1 + 2, 0, none⟩)], undef, undef, undef, undef, undef, undef, undef, undef, undef, undef, undef, undef, undef, undef, undef, undef, undef, undef, undef, undef] _ _ (fun x z9 => ⟨#[.agg #[.int .i64 t0, .int .i64 t1, .int .i64 t2, .int .i64 t3], .agg #[.int .i64 ix, .int .i64 iy, .int .i64 iox, .int .i64 ioy, .slice (some ⟨cb, co, none⟩) n cc], .agg #[.int .i64 tx, .int .i64 ty, .int .i64 V, .int .i64 bw, .int .i64 bh, .int .i64 P, .int .i64 st, .int .i64 O, .int .i64 Y, .bool rc, .bool so, .bool ep], .pointer (some ⟨b0, 0, none⟩), .pointer (some ⟨b0 + 1, 0, none⟩), .pointer (some ⟨b0 + 1 + 1, 0, none⟩), .slice none 0 0, .func (.func (rankF o)) #[] #[], .pointer (some ⟨b, 0, none⟩), .pointer (some ⟨z9, 0, none⟩), undef, undef, undef, .pointer (some ⟨b0 + 1 + 1, 7, none⟩), .int .i64 O, .func (.func (rankF o)) #[] #[], .func (.func (rankF o)) #[] #[], .bool false, .bool false, .agg #[.int .i64 t0, .int .i64 t1, .int .i64 t2, .int .i64 t3], .agg #[.int .i64 tx, .int .i64 ty, .int .i64 V, .int .i64 bw, .int .i64 bh, .int .i64 P, .int .i64 st, .int .i64 O, .int .i64 Y, .bool rc, .bool so, .bool ep], .bool true, .bool false, .bool false, .agg #[.int .i64 t0, .int .i64 t1, .int .i64 t2, .int .i64 t3], .agg #[.int .i64 ix, .int .i64 iy, .int .i64 iox, .int .i64 ioy, .slice (some ⟨cb, co, none⟩) n cc], .agg #[.int .i64 tx, .int .i64 ty, .int .i64 V, .int .i64 bw, .int .i64 bh, .int .i64 P, .int .i64 st, .int .i64 O, .int .i64 Y, .bool rc, .bool so, .bool ep], .func (.func 40) #[] #[.pointer (some ⟨b + 1 + 1, 0, none⟩), .pointer (some ⟨b + 1, 0, none⟩), .pointer (some ⟨b + 1 + 2, 0, none⟩)], x.val, undef, undef, undef, undef, undef, undef, undef, undef, undef, undef, undef, undef, undef, undef, undef, undef, undef, undef, undef], []⟩) HT.out hto HCS.out hn4 HN.out hlv hpr hly HOC.out HCO.out V P Y HVP.out.1 HVP.out.2.1 HVP.out.2.2.1 hb0 hb03 hs5 hbl5 qb q0 q1 q2 ?hasg ?hbody
    case hasg =>
      intro m x A K hK
      gi_wp2
      exact hK
    case hbody =>
      intro m z9 k V3 ys x A h1 h2 h3 h4 h5 Q hQ
      exact wpIn_code (c' := blkOf Try.f13 1) (by kernel_rfl) (push_in b z9 (b + 6) (b + 5) m k V3 ys x A h1 (by omega) h2 h3 h4 h5 hQ)
  case fin =>
    rintro W' ⟨Vr, hv1, hv2, hv3, hv4, hv5⟩
    rw [hs5]
    obtain ⟨G, hG⟩ : ∃ G, geo (t0, t1, t2, t3) (cs.map fun c => (c.dx, c.dy)) LV PR = G := ⟨_, rfl⟩
    rw [hG] at hv2
    obtain ⟨LP, hLP⟩ : ∃ l, G.pks LY = l := ⟨_, rfl⟩
    rw [hLP] at hv2
    have hnn : LP.length ≤ 13000000 := by
      have hwh : ∀ c' r', c' < G.nc → G.wh c' r' ≤ 65025 := fun c' r' hc' => by
        have hc'' : c' < cs.length := by rw [← hG] at hc'; have : c' < (cs.map fun c => (c.dx, c.dy)).length := hc'; rwa [List.length_map] at this
        obtain ⟨c2, hc2⟩ : ∃ c, cs[c']? = some c := ⟨_, List.getElem?_eq_getElem hc''⟩
        have hcd2 := HCS.out c' c2 hc2
        have hda2 : dAt (cs.map fun c => (c.dx, c.dy)) c' = (c2.dx, c2.dy) := by simp [dAt, List.getD, hc2]
        have hdp := geo_pc (ds := cs.map fun c => (c.dx, c.dy)) (lv := LV) (pr := PR) (c := c') (r := r') HT.out hto (by rw [hda2]; simp only; omega) (by rw [hda2]; simp only; omega)
        rw [← hG]
        exact Nat.mul_le_mul hdp.2.1 hdp.2.2
      have h1 := compL_len G LY G.nc 65025 hwh
      have hGl : G.lv = LV := by rw [← hG]; rfl
      have hGn : G.nc ≤ 4 := by rw [← hG]; show (cs.map fun c => (c.dx, c.dy)).length ≤ 4; rw [List.length_map]; exact hn4
      rw [compL_all, hLP, hGl] at h1
      have h2 : (LV + 1) * (65025 * LY) ≤ 6 * (65025 * 8) := Nat.mul_le_mul (by omega) (Nat.mul_le_mul_left _ hly)
      have h3 : G.nc * ((LV + 1) * (65025 * LY)) ≤ 4 * (6 * (65025 * 8)) := Nat.mul_le_mul hGn h2
      omega
    obtain ⟨nn, hnl⟩ : ∃ k, LP.length = k := ⟨_, rfl⟩
    rw [hnl] at hv2 hnn
    obtain ⟨Av, cv, rfl, hpk⟩ := own_pk hv2 hnl
    have ST := Lib.hid (sorted_any o ho LP Av nn cv W' hpk hnl hnn)
    have cb0 : W'.cell? ⟨b, 0, none⟩ = some (.slice Av nn cv) := blkc hv1 0
    have HV := Lib.hid (And.intro hv3 (And.intro hv4 hv5))
    have HGG := Lib.hid (And.intro hG (And.intro hLP hnl))
    clear hv1 hv2 hv3 hv4 hv5 hpk hG hLP hnl qb q0 q1 q2 hbl5 hs5
    have hF4 : Fence.wide.fn 28 := trivial
    gi_wp2_with (gi_at_call 28; refine (callsIn_wide.2 ST.out).mono ?_; rintro e w6 ⟨M, B6, c6, rfl, hm1, hm2, hm3, hm4⟩)
    have hml : M.length = nn := by rw [hm1.length_eq]; exact HGG.out.2.2
    have hb6 : Below b0 w w6 := HV.out.2.2.trans (hm4.mono (by have := HV.out.2.2.size; omega))
    have hd6 : w6.heap[b + 4]? = some (.deferred (some [])) := (hm4.block _ (by have := HV.out.2.1; omega)).trans HV.out.1
    have HM := Lib.hid (And.intro hm1 (And.intro hm2 (And.intro hm3 hml)))
    obtain ⟨N6, hN6⟩ : ∃ k, w6.heap.size = k := ⟨_, rfl⟩
    have hd6l : b + 4 < N6 := by rw [← hN6]; exact (Array.getElem?_eq_some_iff.1 hd6).1
    have hb6l : b0 ≤ N6 := by rw [← hN6]; have := hb6.size; omega
    have HK0 : Hid (w6.ownsRow N6 42 4 (.slice none 0 0) 0 ((M.take 0).flatMap Pk.key) ∧ Below N6 w6 w6) := Lib.hid ⟨World.ownsRow_nil _ _ _ _, Below.refl _ _⟩
    have HW6 := Lib.hid (And.intro hb6 (And.intro hd6 hN6))
    have hnI : (nn : Int) ≤ 13000000 := by omega
    clear hm1 hm2 hm3 hm4 hml hb6 hd6 hN6 HV ST cb0 HCO HCS HOC
    gi_loopw [10, 12, 37] (fun v10 v12 v37 wr => ∃ (j : Nat) (Ak : Option Addr) (ck : Nat), j ≤ nn ∧ v37 = .int .i64 (j : Int) ∧ v10 = .slice Ak j ck ∧ Hid (wr.ownsRow N6 42 4 (.slice Ak j ck) j ((M.take j).flatMap Pk.key) ∧ Below N6 w6 wr))
      (fun v10 v12 v37 _ => ((nn : Int) - intOf v37).toNat)
    case atStart => exact ⟨0, none, 0, by omega, by simp, rfl, HK0⟩
    case round =>
      obtain ⟨j, Ak, ck, hj, rfl, rfl, HK⟩ := hrel
      clear HK0
      by_cases hlt : j < nn
      · have hjI : (j : Int) < (nn : Int) ∧ (0 : Int) ≤ (j : Int) := by omega
        obtain ⟨x, hx⟩ : ∃ x, M[j]? = some x := ⟨_, List.getElem?_eq_getElem (by rw [HM.out.2.2.2]; exact hlt)⟩
        obtain ⟨ga, oa, rfl, hga, k0, k1, k2, k3, k4, k5⟩ := (HM.out.2.2.1.below (HK.out.2.mono (Nat.le_of_eq HW6.out.2.2))) j x hx
        have HX := Lib.hid hx
        clear hx
        gi_upto_region 12 with fail
        obtain ⟨X, hX⟩ : ∃ X, wr.alloc (.cells x.arr 66) = X := ⟨_, rfl⟩
        obtain ⟨zx, hzx⟩ : ∃ zx, wr.heap.size = zx := ⟨_, rfl⟩
        have hzX : X.heap[zx]? = some (.cells x.arr 66 (0, 0)) := by rw [← hX, ← hzx]; exact World.alloc_heap_new wr _
        have hbX : Below wr.heap.size wr X := by rw [← hX]; exact (Below.refl _ _).alloc (Nat.le_refl _) _
        have hwN : N6 ≤ wr.heap.size := by have := HK.out.2.size; have := HW6.out.2.2; omega
        obtain ⟨X2, hX2⟩ : ∃ X2, X.alloc (.cells #[.int .i64 x.ly, .int .i64 x.rs, .int .i64 x.cp, .int .i64 x.pc] 42) = X2 := ⟨_, rfl⟩
        have hz2 : X2.heap[X.heap.size]? = some (.cells #[.int .i64 x.ly, .int .i64 x.rs, .int .i64 x.cp, .int .i64 x.pc] 42 (0, 0)) := by rw [← hX2]; exact World.alloc_heap_new X _
        have hbX2 : Below wr.heap.size wr X2 := by rw [← hX2]; exact hbX.alloc hbX.size _
        have ho2 : X2.ownsRow N6 42 4 (.slice Ak j ck) j ((M.take j).flatMap Pk.key) := ownsRow_keep HK.out.1 hbX2.size (fun k hk => hbX2.block k (own_lt HK.out.1 hk).2)
        obtain ⟨V', w7, hr, ho7, hg7, _⟩ := app_key ho2 hz2 (Nat.le_trans hwN hbX2.size) (by omega)
        obtain ⟨A7, c7, rfl, _⟩ := own_any ho7
        have HK7 : Hid (w7.ownsRow N6 42 4 (.slice A7 (j + 1) c7) (j + 1) ((M.take (j + 1)).flatMap Pk.key) ∧ Below N6 w6 w7) := Lib.hid (by
          refine ⟨?_, (HK.out.2.trans (hbX2.mono hwN)).grown hg7 (Nat.le_trans hwN hbX2.size) (fun k e => (own_lt ho2 e).1)⟩
          rw [List.take_add_one, HX.out, List.flatMap_append]
          simpa using ho7)
        rw [hX, hzx]
        obtain ⟨y0, y1, y2, y3, _, _⟩ := cells6 hzX
        clear k0 k1 k2 k3 k4 k5 hX hzx hzX hbX hz2 hbX2 ho2 ho7 hg7 HK
        gi_wp2
        go_roundw
        case rel => exact ⟨j + 1, A7, c7, by omega, by push_cast; go_num, rfl, HK7⟩
        case measure => simp [intOf]; omega
      · obtain rfl : j = nn := by omega
        have hnjt : ¬ (j : Int) < (j : Int) := by omega
        have hdj : wr.heap[b + 4]? = some (.deferred (some [])) := (HK.out.2.block _ hd6l).trans HW6.out.2.1
        have HE : Hid (∃ (M' : List Pk) (A' : Option Addr) (c' : Nat), (Ending.returned (.slice Ak j ck) = .returned (.slice A' M'.length c')) ∧ OL (geo (t0, t1, t2, t3) (cs.map fun c => (c.dx, c.dy)) LV PR) LY o M' ∧ (wr.putObj (b + 4) (.deferred none)).ownsRow b0 42 4 (.slice A' M'.length c') M'.length (M'.flatMap Pk.key) ∧ Below b0 w (wr.putObj (b + 4) (.deferred none))) := Lib.hid (by
          have hg := grownBy_putObj' wr (b + 4) (.deferred none)
          have hml := HM.out.2.2.2
          refine ⟨M, Ak, ck, by rw [hml], ⟨?_, HM.out.2.1⟩, ?_, ?_⟩
          · rw [HGG.out.1, HGG.out.2.1]; exact HM.out.1
          · rw [hml]
            have h1 := HK.out.1
            rw [List.take_of_length_le (Nat.le_of_eq hml)] at h1
            have h2 := ownsRow_keep h1 hg.size (fun k hk => World.putObj_heap_other (by have := (own_lt h1 hk).1; omega))
            exact own_mono h2 hb6l
          · exact (HW6.out.1.trans (HK.out.2.mono hb6l)).grown hg (by have := HW6.out.1.size; have := HK.out.2.size; have := HB0.out; omega) (fun k e => by injection e with e; omega))
        clear HK
        gi_wp2
        refine ⟨by simp, .inl ⟨_, _, rfl, run_takeDeferred hdj, ?_⟩⟩
        exact ⟨.slice Ak j ck, results_tmp (show Try.f13.results = #[.tmp 6] from rfl) _ _ _, HE.out⟩
end Go.Proofs.Ytejoedanhonpkaa
