/- The encoder of package mq: a sign. -/
import Derived.Test.YtdgkeghgfibolaaDoorMqX
set_option linter.unusedVariables false
set_option linter.unusedSimpArgs false
namespace Go.Proofs.YtdgkeghgfibolaaDoor
open Go.RowKit

/-- What a sign makes of an encoder, and of the contexts. -/
def sE (e : E) (cx : List Nat) (k b : Nat) : E := if b = cx.getD (k * 2 + 1) 0 then mSame e (cx.getD (k * 2) 0) else mOther e (cx.getD (k * 2) 0)
def sC (e : E) (cx : List Nat) (k b : Nat) : List Nat :=
  if b = cx.getD (k * 2 + 1) 0 then (if 32768 ≤ e.a - qe (cx.getD (k * 2) 0) then cx else cx.set (k * 2) (mps (cx.getD (k * 2) 0)))
  else mUn cx k (lps (cx.getD (k * 2) 0)) (swp (cx.getD (k * 2) 0))
theorem EW.setA {P : Nat → Prop} {w : World} {p : Nat} {e : E} (h : EW P w p e) (x : Nat) : EW P (w.setCell ⟨p, 0, none⟩ (.int .u32 (x : Int))) p ⟨x, e.c, e.ct, e.pre, e.last⟩ := by
  obtain ⟨hp, V, hb, hv, hV⟩ := h
  exact ⟨hp, V, hb.sa x, ownsRow_setCell_other hv (a := ⟨p, 0, none⟩) (blk_not_row hb (by decide) hv) _, hV⟩
theorem EW.setC {P : Nat → Prop} {w : World} {p : Nat} {e : E} (h : EW P w p e) (x : Nat) : EW P (w.setCell ⟨p, 1, none⟩ (.int .u32 (x : Int))) p ⟨e.a, x, e.ct, e.pre, e.last⟩ := by
  obtain ⟨hp, V, hb, hv, hV⟩ := h
  exact ⟨hp, V, hb.sc x, ownsRow_setCell_other hv (a := ⟨p, 1, none⟩) (blk_not_row hb (by decide) hv) _, hV⟩
theorem EW.z {P : Nat → Prop} {w : World} {p : Nat} {e : E} (h : EW P w p e) (i : Nat) : w.frozen? ⟨p, i, none⟩ = false := by obtain ⟨_, V, hb, _⟩ := h; exact hb.z i
theorem EW.p {P : Nat → Prop} {w : World} {p : Nat} {e : E} (h : EW P w p e) : P p := h.1
theorem EW.only {P : Nat → Prop} {w w' : World} {p : Nat} {e : E} {Q : Nat → Prop} (h : EW P w p e) (o : Only Q w w') (hPQ : ∀ k, k < w.heap.size → P k → ¬ Q k) : EW P w' p e := by
  obtain ⟨hp, V, hb, hv, hV⟩ := h
  exact ⟨hp, V, hb.keep (o.block p (hPQ p hb.lt hp)), ownsRow_keep hv o.size (fun k hk => o.block k (hPQ k (hv.lt k hk).2 (hV k hk))), hV⟩
theorem EW.below {P : Nat → Prop} {w w' : World} {p : Nat} {e : E} (h : EW P w p e) (o : Below w.heap.size w w') : EW P w' p e := by
  obtain ⟨hp, V, hb, hv, hV⟩ := h
  exact ⟨hp, V, hb.keep (o.block p hb.lt), ownsRow_keep hv o.size (fun k hk => o.block k (hv.lt k hk).2), hV⟩
/-- What a call on an encoder and its contexts writes. -/
def EC (P : Nat → Prop) (q : Nat) : Nat → Prop := fun k => P k ∨ k = q
theorem Cb.only {Q : Nat → Prop} {w w' : World} {q : Nat} {cx : List Nat} (h : Cb w q cx) (o : Only Q w w') (hq : ¬ Q q) : Cb w' q cx := h.keep (o.block q hq)
theorem bit_of (b : Int) : ∃ n : Nat, n ≤ 1 ∧ (b % 2) = n ∧ n = (b % 2).toNat := ⟨(b % 2).toNat, by omega, by omega, rfl⟩
theorem and_bit (a : Int) : bits .and .i64 a 1 = a % 2 := by
  show IntKind.i64.wrap ((BitVec.ofInt 64 a &&& BitVec.ofInt 64 1).toNat : Int) = _
  have e1 : (BitVec.ofInt 64 (1 : Int)).toNat = 1 := by decide
  rw [BitVec.toNat_and, e1, Nat.and_one_is_mod, BitVec.toNat_ofInt]
  have h64 : ((a % (2 ^ 64 : Nat)).toNat : Int) = a % (2 ^ 64 : Nat) := Int.toNat_of_nonneg (Int.emod_nonneg _ (by decide))
  have e2 : (((a % ((2 ^ 64 : Nat) : Int)).toNat % 2 : Nat) : Int) = a % 2 := by
    rw [Int.natCast_emod, h64]
    omega
  rw [e2]
  exact IntWalk.i64_in _ (by omega)

theorem encode_none {w : World} {p q : Nat} {k b : Int} (hk : k < 0 ∨ 19 ≤ k) : Calls Tryd.prog 19 #[.pointer (some ⟨p, 0, none⟩), .pointer (some ⟨q, 0, none⟩), .int .i64 k, .int .i64 b] w fun e w' => e = .returned (.tuple #[]) ∧ w = w' := by
  have HN := Lib.hid (has_no (w := w) (q := q) hk)
  clear hk
  go_enter Tryd.func19, Tryd.ntmps19
  go_wp2_with fail
  refine HN.out.mono ?_
  rintro e w1 ⟨rfl, rfl⟩
  go_wp2
  refine bodyPost_ret (v := .tuple #[]) (by simp [results, Tryd.results19, go_sem]) rfl ⟨rfl, rfl⟩

set_option maxRecDepth 100000 in
set_option maxHeartbeats 8000000 in
theorem encode_any {P : Nat → Prop} {w : World} {p q k b : Nat} {bit : Int} {cx : List Nat} {e : E} (h : EW P w p e) (hc : Cb w q cx) (hq : ¬ P q) (hT : Tab w) (h0 : ¬ P 0) (h0q : q ≠ 0) (ok : COk cx) (f : Fine e) (hk : k < 19) (hb : bit % 2 = (b : Int)) (hml : e.pre.length ≤ 70000) (hP : ∀ k, w.heap.size ≤ k → P k) :
    Calls Tryd.prog 19 #[.pointer (some ⟨p, 0, none⟩), .pointer (some ⟨q, 0, none⟩), .int .i64 (k : Int), .int .i64 bit] w fun x w' => x = .returned (.tuple #[]) ∧ EW P w' p (sE e cx k b) ∧ Cb w' q (sC e cx k b) ∧ Only (EC P q) w w' := by
  have HY := Lib.hid (has_yes hc hT ok hk)
  have hmp := ok.m k hk
  have hi := ok.i k hk
  have hband := and_bit bit
  rw [hb] at hband
  have HB := Lib.hid hb
  have hbl : b ≤ 1 := by omega
  have HALL := Lib.hid (And.intro h (And.intro hc (And.intro hT (And.intro ok f))))
  have HPn := Lib.hid hP
  have HQ := Lib.hid (And.intro hq (And.intro h0 h0q))
  clear h hc hT ok f hb hP hq h0 h0q
  obtain ⟨i, hi'⟩ : ∃ i, cx.getD (k * 2) 0 = i := ⟨_, rfl⟩
  obtain ⟨m, hm'⟩ : ∃ m, cx.getD (k * 2 + 1) 0 = m := ⟨_, rfl⟩
  have HI := Lib.hid hi'
  have HM := Lib.hid hm'
  rw [hi'] at hi
  rw [hm'] at hmp
  obtain ⟨q1, q2, _, _⟩ := qe_bd i hi
  obtain ⟨Q, hQ⟩ : ∃ Q, qe i = Q := ⟨_, rfl⟩
  rw [hQ] at q1 q2
  have HQE := Lib.hid hQ
  have h1 : (0 : Int) ≤ (k : Int) := by omega
  have h2 : (k : Int) < 19 := by omega
  have a2 := HALL.out.2.2.2.2.a2
  have a3 := HALL.out.2.2.2.2.a3
  have cc := HALL.out.2.2.2.2.toInv.c28
  have hgood := HALL.out.2.2.2.2.toGood
  have hsE : sE e cx k b = if b = m then mSame e i else mOther e i := by unfold sE; rw [hi', hm']
  have hsC : sC e cx k b = if b = m then (if 32768 ≤ e.a - Q then cx else cx.set (k * 2) (mps i)) else mUn cx k (lps i) (swp i) := by unfold sC; rw [hi', hm', hQ]
  obtain ⟨a, c, ct, pre, last⟩ := e
  simp only at a2 a3 cc hml
  rw [hsE, hsC]
  unfold mSame mOther
  rw [hQ]
  simp only
  have HG := Lib.hid hgood
  have HML := Lib.hid hml
  clear hi' hm' hQ hml hsE hsC hgood
  by_cases hbm : b = m
  · by_cases hcase : 32768 ≤ a - Q
    · skip
      rw [if_pos hbm, if_pos hcase, if_pos hbm, if_pos hcase]
      go_enter Tryd.func19, Tryd.ntmps19
      go_wp2_with fail
      refine HY.out.mono ?_
      rintro x w1 ⟨rfl, b1⟩
      have HE1 := Lib.hid (HALL.out.1.below b1)
      have HC1 := Lib.hid (HALL.out.2.1.below b1)
      have HT1 := Lib.hid (HALL.out.2.2.1.below (HALL.out.2.2.1.pos) b1)
      have O1 : Hid (Only P w w1) := Lib.hid (Only.of_below b1 HPn.out)
      have d0 := HC1.out.cell (k * 2) (by omega)
      rw [HI.out] at d0
      have AT := Lib.hid (at_in HT1.out hi)
      rw [HQE.out] at AT
      clear b1 HY
      go_wp2_with fail
      refine AT.out.mono ?_
      rintro x w2 ⟨rfl, b2⟩
      obtain ⟨W3, hW3, x1, x2, x3, b3⟩ := box_facts w2 Q (mps i) (lps i) (swp i)
      have x0 : W3.cell? ⟨w2.heap.size, 0, none⟩ = some (.int .i64 (Q : Int)) := by rw [← hW3]; exact blk_cell (heap_alloc_new w2 _) 0
      have HE3 := Lib.hid ((HE1.out.below b2).below b3)
      have HC3 := Lib.hid ((HC1.out.below b2).below b3)
      have O3 : Hid (Only P w W3) := Lib.hid ((O1.out.trans (Only.of_below b2 (fun k hk => HPn.out k (Nat.le_trans O1.out.size hk)))).trans (Only.of_below b3 (fun k hk => HPn.out k (Nat.le_trans (Nat.le_trans O1.out.size b2.size) hk))))
      have hpb : p ≠ w2.heap.size := by have := (HE1.out.below b2).lt; omega
      have d1 := HC3.out.cell (k * 2 + 1) (by omega)
      rw [HM.out] at d1
      have p0 := HE3.out.c0
      have z0 := HE3.out.z 0
      have p1 := HE3.out.c1
      have z1 := HE3.out.z 1
      simp only at p0 p1
      have hqp : q ≠ p := fun e => HQ.out.1 (e ▸ HE3.out.p)
      clear AT d0 b2 b3 O1 HE1 HC1 HT1
      have em : ((b : Int) == (m : Int)) = true := by simp; omega
      have e5 : (32768 : Int) ≤ (a : Int) - (Q : Int) := by omega
      obtain ⟨X1, hX1⟩ : ∃ X1, W3.setCell ⟨p, 0, none⟩ (.int .u32 ((a : Int) - (Q : Int))) = X1 := ⟨_, rfl⟩
      have HX1 : Hid (EW P X1 p ⟨a - Q, c, ct, pre, last⟩) := Lib.hid (by rw [← hX1, show (a : Int) - (Q : Int) = ((a - Q : Nat) : Int) by omega]; exact HE3.out.setA (a - Q))
      have OX1 : Hid (Only P w X1) := Lib.hid (by rw [← hX1]; exact O3.out.setCell (p := ⟨p, 0, none⟩) HE3.out.p _)
      have blk1 : ∀ j, j ≠ p → X1.heap[j]? = W3.heap[j]? := fun j hj => by rw [← hX1]; exact Below.heap_setCell _ _ _ _ hj
      have HC1 := Lib.hid (HC3.out.keep (blk1 q hqp))
      have y1 := HX1.out.c1
      have y1z := HX1.out.z 1
      have y0 := HX1.out.c0
      have y0z := HX1.out.z 0
      simp only at y1 y0
      rw [show ((a - Q : Nat) : Int) = (a : Int) - (Q : Int) by omega] at y0
      have d1 := (World.cell?_of_block (w := W3) (a := ⟨q, k * 2 + 1, none⟩) (blk1 q hqp)).trans d1
      have x0 := (World.cell?_of_block (w := W3) (a := ⟨w2.heap.size, 0, none⟩) (blk1 w2.heap.size (Ne.symm hpb))).trans x0
      have x1 := (World.cell?_of_block (w := W3) (a := ⟨w2.heap.size, 1, none⟩) (blk1 w2.heap.size (Ne.symm hpb))).trans x1
      have x2 := (World.cell?_of_block (w := W3) (a := ⟨w2.heap.size, 2, none⟩) (blk1 w2.heap.size (Ne.symm hpb))).trans x2
      have x3 := (World.cell?_of_block (w := W3) (a := ⟨w2.heap.size, 3, none⟩) (blk1 w2.heap.size (Ne.symm hpb))).trans x3
      obtain ⟨X2, hX2⟩ : ∃ X2, X1.setCell ⟨p, 1, none⟩ (.int .u32 ((c : Int) + (Q : Int))) = X2 := ⟨_, rfl⟩
      have HX2 : Hid (EW P X2 p ⟨a - Q, c + Q, ct, pre, last⟩) := Lib.hid (by rw [← hX2, show (c : Int) + (Q : Int) = ((c + Q : Nat) : Int) by omega]; exact HX1.out.setC (c + Q))
      have OX2 : Hid (Only P w X2) := Lib.hid (by rw [← hX2]; exact OX1.out.setCell (p := ⟨p, 1, none⟩) HE3.out.p _)
      have blk2 : ∀ j, j ≠ p → X2.heap[j]? = X1.heap[j]? := fun j hj => by rw [← hX2]; exact Below.heap_setCell _ _ _ _ hj
      have HC2 := Lib.hid (HC1.out.keep (blk2 q hqp))
      have x02 := (World.cell?_of_block (w := X1) (a := ⟨w2.heap.size, 0, none⟩) (blk2 w2.heap.size (Ne.symm hpb))).trans x0
      have x12 := (World.cell?_of_block (w := X1) (a := ⟨w2.heap.size, 1, none⟩) (blk2 w2.heap.size (Ne.symm hpb))).trans x1
      have x22 := (World.cell?_of_block (w := X1) (a := ⟨w2.heap.size, 2, none⟩) (blk2 w2.heap.size (Ne.symm hpb))).trans x2
      have x32 := (World.cell?_of_block (w := X1) (a := ⟨w2.heap.size, 3, none⟩) (blk2 w2.heap.size (Ne.symm hpb))).trans x3
      clear blk1 blk2
      have HK := Lib.hid (And.intro a2 (And.intro a3 (And.intro q1 q2)))
      clear HE3 HC3 HC1
      go_wp2
      refine bodyPost_ret (v := .tuple #[]) (by simp [results, Tryd.results19, go_sem]) rfl ⟨rfl, HX2.out, HC2.out, OX2.out.mono fun k hk => Or.inl hk⟩
    · by_cases hcase2 : a - Q < Q
      · skip
        rw [if_pos hbm, if_neg hcase, if_pos hbm, if_neg hcase, if_pos hcase2]
        go_enter Tryd.func19, Tryd.ntmps19
        go_wp2_with fail
        refine HY.out.mono ?_
        rintro x w1 ⟨rfl, b1⟩
        have HE1 := Lib.hid (HALL.out.1.below b1)
        have HC1 := Lib.hid (HALL.out.2.1.below b1)
        have HT1 := Lib.hid (HALL.out.2.2.1.below (HALL.out.2.2.1.pos) b1)
        have O1 : Hid (Only P w w1) := Lib.hid (Only.of_below b1 HPn.out)
        have d0 := HC1.out.cell (k * 2) (by omega)
        rw [HI.out] at d0
        have AT := Lib.hid (at_in HT1.out hi)
        rw [HQE.out] at AT
        clear b1 HY
        go_wp2_with fail
        refine AT.out.mono ?_
        rintro x w2 ⟨rfl, b2⟩
        obtain ⟨W3, hW3, x1, x2, x3, b3⟩ := box_facts w2 Q (mps i) (lps i) (swp i)
        have x0 : W3.cell? ⟨w2.heap.size, 0, none⟩ = some (.int .i64 (Q : Int)) := by rw [← hW3]; exact blk_cell (heap_alloc_new w2 _) 0
        have HE3 := Lib.hid ((HE1.out.below b2).below b3)
        have HC3 := Lib.hid ((HC1.out.below b2).below b3)
        have O3 : Hid (Only P w W3) := Lib.hid ((O1.out.trans (Only.of_below b2 (fun k hk => HPn.out k (Nat.le_trans O1.out.size hk)))).trans (Only.of_below b3 (fun k hk => HPn.out k (Nat.le_trans (Nat.le_trans O1.out.size b2.size) hk))))
        have hpb : p ≠ w2.heap.size := by have := (HE1.out.below b2).lt; omega
        have d1 := HC3.out.cell (k * 2 + 1) (by omega)
        rw [HM.out] at d1
        have p0 := HE3.out.c0
        have z0 := HE3.out.z 0
        have p1 := HE3.out.c1
        have z1 := HE3.out.z 1
        simp only at p0 p1
        have hqp : q ≠ p := fun e => HQ.out.1 (e ▸ HE3.out.p)
        clear AT d0 b2 b3 O1 HE1 HC1 HT1
        have em : ((b : Int) == (m : Int)) = true := by simp; omega
        have e5 : decide ((32768 : Int) ≤ (a : Int) - (Q : Int)) = false := by simp; omega
        have e6 : (a : Int) - (Q : Int) < (Q : Int) := by omega
        obtain ⟨X1, hX1⟩ : ∃ X1, W3.setCell ⟨p, 0, none⟩ (.int .u32 ((a : Int) - (Q : Int))) = X1 := ⟨_, rfl⟩
        have HX1 : Hid (EW P X1 p ⟨a - Q, c, ct, pre, last⟩) := Lib.hid (by rw [← hX1, show (a : Int) - (Q : Int) = ((a - Q : Nat) : Int) by omega]; exact HE3.out.setA (a - Q))
        have OX1 : Hid (Only P w X1) := Lib.hid (by rw [← hX1]; exact O3.out.setCell (p := ⟨p, 0, none⟩) HE3.out.p _)
        have blk1 : ∀ j, j ≠ p → X1.heap[j]? = W3.heap[j]? := fun j hj => by rw [← hX1]; exact Below.heap_setCell _ _ _ _ hj
        have HC1 := Lib.hid (HC3.out.keep (blk1 q hqp))
        have y1 := HX1.out.c1
        have y1z := HX1.out.z 1
        have y0 := HX1.out.c0
        have y0z := HX1.out.z 0
        simp only at y1 y0
        rw [show ((a - Q : Nat) : Int) = (a : Int) - (Q : Int) by omega] at y0
        have d1 := (World.cell?_of_block (w := W3) (a := ⟨q, k * 2 + 1, none⟩) (blk1 q hqp)).trans d1
        have x0 := (World.cell?_of_block (w := W3) (a := ⟨w2.heap.size, 0, none⟩) (blk1 w2.heap.size (Ne.symm hpb))).trans x0
        have x1 := (World.cell?_of_block (w := W3) (a := ⟨w2.heap.size, 1, none⟩) (blk1 w2.heap.size (Ne.symm hpb))).trans x1
        have x2 := (World.cell?_of_block (w := W3) (a := ⟨w2.heap.size, 2, none⟩) (blk1 w2.heap.size (Ne.symm hpb))).trans x2
        have x3 := (World.cell?_of_block (w := W3) (a := ⟨w2.heap.size, 3, none⟩) (blk1 w2.heap.size (Ne.symm hpb))).trans x3
        obtain ⟨X2, hX2⟩ : ∃ X2, X1.setCell ⟨p, 0, none⟩ (.int .u32 (Q : Int)) = X2 := ⟨_, rfl⟩
        have HX2 : Hid (EW P X2 p ⟨Q, c, ct, pre, last⟩) := Lib.hid (by rw [← hX2]; exact HX1.out.setA Q)
        have OX2 : Hid (Only P w X2) := Lib.hid (by rw [← hX2]; exact OX1.out.setCell (p := ⟨p, 0, none⟩) HE3.out.p _)
        have blk2 : ∀ j, j ≠ p → X2.heap[j]? = X1.heap[j]? := fun j hj => by rw [← hX2]; exact Below.heap_setCell _ _ _ _ hj
        have HC2 := Lib.hid (HC1.out.keep (blk2 q hqp))
        have x02 := (World.cell?_of_block (w := X1) (a := ⟨w2.heap.size, 0, none⟩) (blk2 w2.heap.size (Ne.symm hpb))).trans x0
        have x12 := (World.cell?_of_block (w := X1) (a := ⟨w2.heap.size, 1, none⟩) (blk2 w2.heap.size (Ne.symm hpb))).trans x1
        have x22 := (World.cell?_of_block (w := X1) (a := ⟨w2.heap.size, 2, none⟩) (blk2 w2.heap.size (Ne.symm hpb))).trans x2
        have x32 := (World.cell?_of_block (w := X1) (a := ⟨w2.heap.size, 3, none⟩) (blk2 w2.heap.size (Ne.symm hpb))).trans x3
        clear blk1 blk2
        have HK := Lib.hid (And.intro a2 (And.intro a3 (And.intro q1 q2)))
        have LK := Lib.hid (likely_any (a := Q) (b := mps i) (c := lps i) (d := swp i) HC2.out hk)
        have HGN : Hid (Good ⟨Q, c, ct, pre, last⟩ ∧ Q < 32768) := Lib.hid ⟨⟨HG.out.toInv.narrow (by omega) (by omega) (by simp only; omega), HG.out.ct0⟩, by omega⟩
        clear HE3 HC3 HC1 hbm hcase hcase2
        go_wp2_with fail
        refine LK.out.mono ?_
        rintro x W4 ⟨rfl, hc4, o4⟩
        have HE4 := Lib.hid (HX2.out.only o4 (fun j hj hPj e => by
          rcases e with e | e
          · exact HQ.out.1 (e ▸ hPj)
          · omega))
        have RN := Lib.hid (renorm_any HE4.out HGN.out.1 HGN.out.2 (by have := HML.out; simp only; omega) (fun j hj => HPn.out j (Nat.le_trans (Nat.le_trans OX2.out.size o4.size) hj)))
        have HC4 := Lib.hid hc4
        have O4 : Hid (Only (EC P q) w W4) := Lib.hid ((OX2.out.mono fun j hj => Or.inl hj).trans (o4.mono fun j hj => by
          rcases hj with hj | hj
          · exact Or.inr hj
          · exact Or.inl (HPn.out j (Nat.le_trans OX2.out.size hj))))
        clear LK hc4 o4 x0 x1 x2 x3 x02 x12 x22 x32 hX1 hX2 d1 y0 y1 y0z y1z p0 p1 z0 z1
        go_wp2_with fail
        refine RN.out.mono ?_
        rintro x W5 ⟨rfl, he5, o5⟩
        have FIN : Hid (EW P W5 p _ ∧ Cb W5 q _ ∧ Only (EC P q) w W5) := Lib.hid ⟨he5, HC4.out.only o5 HQ.out.1, O4.out.trans (o5.mono fun j hj => Or.inl hj)⟩
        clear he5 o5 RN
        go_wp2
        go_end0
        exact ⟨rfl, FIN.out⟩
      · skip
        rw [if_pos hbm, if_neg hcase, if_pos hbm, if_neg hcase, if_neg hcase2]
        go_enter Tryd.func19, Tryd.ntmps19
        go_wp2_with fail
        refine HY.out.mono ?_
        rintro x w1 ⟨rfl, b1⟩
        have HE1 := Lib.hid (HALL.out.1.below b1)
        have HC1 := Lib.hid (HALL.out.2.1.below b1)
        have HT1 := Lib.hid (HALL.out.2.2.1.below (HALL.out.2.2.1.pos) b1)
        have O1 : Hid (Only P w w1) := Lib.hid (Only.of_below b1 HPn.out)
        have d0 := HC1.out.cell (k * 2) (by omega)
        rw [HI.out] at d0
        have AT := Lib.hid (at_in HT1.out hi)
        rw [HQE.out] at AT
        clear b1 HY
        go_wp2_with fail
        refine AT.out.mono ?_
        rintro x w2 ⟨rfl, b2⟩
        obtain ⟨W3, hW3, x1, x2, x3, b3⟩ := box_facts w2 Q (mps i) (lps i) (swp i)
        have x0 : W3.cell? ⟨w2.heap.size, 0, none⟩ = some (.int .i64 (Q : Int)) := by rw [← hW3]; exact blk_cell (heap_alloc_new w2 _) 0
        have HE3 := Lib.hid ((HE1.out.below b2).below b3)
        have HC3 := Lib.hid ((HC1.out.below b2).below b3)
        have O3 : Hid (Only P w W3) := Lib.hid ((O1.out.trans (Only.of_below b2 (fun k hk => HPn.out k (Nat.le_trans O1.out.size hk)))).trans (Only.of_below b3 (fun k hk => HPn.out k (Nat.le_trans (Nat.le_trans O1.out.size b2.size) hk))))
        have hpb : p ≠ w2.heap.size := by have := (HE1.out.below b2).lt; omega
        have d1 := HC3.out.cell (k * 2 + 1) (by omega)
        rw [HM.out] at d1
        have p0 := HE3.out.c0
        have z0 := HE3.out.z 0
        have p1 := HE3.out.c1
        have z1 := HE3.out.z 1
        simp only at p0 p1
        have hqp : q ≠ p := fun e => HQ.out.1 (e ▸ HE3.out.p)
        clear AT d0 b2 b3 O1 HE1 HC1 HT1
        have em : ((b : Int) == (m : Int)) = true := by simp; omega
        have e5 : decide ((32768 : Int) ≤ (a : Int) - (Q : Int)) = false := by simp; omega
        have e6 : ¬ (a : Int) - (Q : Int) < (Q : Int) := by omega
        obtain ⟨X1, hX1⟩ : ∃ X1, W3.setCell ⟨p, 0, none⟩ (.int .u32 ((a : Int) - (Q : Int))) = X1 := ⟨_, rfl⟩
        have HX1 : Hid (EW P X1 p ⟨a - Q, c, ct, pre, last⟩) := Lib.hid (by rw [← hX1, show (a : Int) - (Q : Int) = ((a - Q : Nat) : Int) by omega]; exact HE3.out.setA (a - Q))
        have OX1 : Hid (Only P w X1) := Lib.hid (by rw [← hX1]; exact O3.out.setCell (p := ⟨p, 0, none⟩) HE3.out.p _)
        have blk1 : ∀ j, j ≠ p → X1.heap[j]? = W3.heap[j]? := fun j hj => by rw [← hX1]; exact Below.heap_setCell _ _ _ _ hj
        have HC1 := Lib.hid (HC3.out.keep (blk1 q hqp))
        have y1 := HX1.out.c1
        have y1z := HX1.out.z 1
        have y0 := HX1.out.c0
        have y0z := HX1.out.z 0
        simp only at y1 y0
        rw [show ((a - Q : Nat) : Int) = (a : Int) - (Q : Int) by omega] at y0
        have d1 := (World.cell?_of_block (w := W3) (a := ⟨q, k * 2 + 1, none⟩) (blk1 q hqp)).trans d1
        have x0 := (World.cell?_of_block (w := W3) (a := ⟨w2.heap.size, 0, none⟩) (blk1 w2.heap.size (Ne.symm hpb))).trans x0
        have x1 := (World.cell?_of_block (w := W3) (a := ⟨w2.heap.size, 1, none⟩) (blk1 w2.heap.size (Ne.symm hpb))).trans x1
        have x2 := (World.cell?_of_block (w := W3) (a := ⟨w2.heap.size, 2, none⟩) (blk1 w2.heap.size (Ne.symm hpb))).trans x2
        have x3 := (World.cell?_of_block (w := W3) (a := ⟨w2.heap.size, 3, none⟩) (blk1 w2.heap.size (Ne.symm hpb))).trans x3
        obtain ⟨X2, hX2⟩ : ∃ X2, X1.setCell ⟨p, 1, none⟩ (.int .u32 ((c : Int) + (Q : Int))) = X2 := ⟨_, rfl⟩
        have HX2 : Hid (EW P X2 p ⟨a - Q, c + Q, ct, pre, last⟩) := Lib.hid (by rw [← hX2, show (c : Int) + (Q : Int) = ((c + Q : Nat) : Int) by omega]; exact HX1.out.setC (c + Q))
        have OX2 : Hid (Only P w X2) := Lib.hid (by rw [← hX2]; exact OX1.out.setCell (p := ⟨p, 1, none⟩) HE3.out.p _)
        have blk2 : ∀ j, j ≠ p → X2.heap[j]? = X1.heap[j]? := fun j hj => by rw [← hX2]; exact Below.heap_setCell _ _ _ _ hj
        have HC2 := Lib.hid (HC1.out.keep (blk2 q hqp))
        have x02 := (World.cell?_of_block (w := X1) (a := ⟨w2.heap.size, 0, none⟩) (blk2 w2.heap.size (Ne.symm hpb))).trans x0
        have x12 := (World.cell?_of_block (w := X1) (a := ⟨w2.heap.size, 1, none⟩) (blk2 w2.heap.size (Ne.symm hpb))).trans x1
        have x22 := (World.cell?_of_block (w := X1) (a := ⟨w2.heap.size, 2, none⟩) (blk2 w2.heap.size (Ne.symm hpb))).trans x2
        have x32 := (World.cell?_of_block (w := X1) (a := ⟨w2.heap.size, 3, none⟩) (blk2 w2.heap.size (Ne.symm hpb))).trans x3
        clear blk1 blk2
        have HK := Lib.hid (And.intro a2 (And.intro a3 (And.intro q1 q2)))
        have LK := Lib.hid (likely_any (a := Q) (b := mps i) (c := lps i) (d := swp i) HC2.out hk)
        have HGN : Hid (Good ⟨(a - Q), (c + Q), ct, pre, last⟩ ∧ (a - Q) < 32768) := Lib.hid ⟨⟨HG.out.toInv.narrow (by omega) (by omega) (by simp only; omega), HG.out.ct0⟩, by omega⟩
        clear HE3 HC3 HC1 hbm hcase hcase2
        go_wp2_with fail
        refine LK.out.mono ?_
        rintro x W4 ⟨rfl, hc4, o4⟩
        have HE4 := Lib.hid (HX2.out.only o4 (fun j hj hPj e => by
          rcases e with e | e
          · exact HQ.out.1 (e ▸ hPj)
          · omega))
        have RN := Lib.hid (renorm_any HE4.out HGN.out.1 HGN.out.2 (by have := HML.out; simp only; omega) (fun j hj => HPn.out j (Nat.le_trans (Nat.le_trans OX2.out.size o4.size) hj)))
        have HC4 := Lib.hid hc4
        have O4 : Hid (Only (EC P q) w W4) := Lib.hid ((OX2.out.mono fun j hj => Or.inl hj).trans (o4.mono fun j hj => by
          rcases hj with hj | hj
          · exact Or.inr hj
          · exact Or.inl (HPn.out j (Nat.le_trans OX2.out.size hj))))
        clear LK hc4 o4 x0 x1 x2 x3 x02 x12 x22 x32 hX1 hX2 d1 y0 y1 y0z y1z p0 p1 z0 z1
        go_wp2_with fail
        refine RN.out.mono ?_
        rintro x W5 ⟨rfl, he5, o5⟩
        have FIN : Hid (EW P W5 p _ ∧ Cb W5 q _ ∧ Only (EC P q) w W5) := Lib.hid ⟨he5, HC4.out.only o5 HQ.out.1, O4.out.trans (o5.mono fun j hj => Or.inl hj)⟩
        clear he5 o5 RN
        go_wp2
        go_end0
        exact ⟨rfl, FIN.out⟩
  · by_cases hcase2 : a - Q < Q
    · skip
      rw [if_neg hbm, if_neg hbm, if_pos hcase2]
      go_enter Tryd.func19, Tryd.ntmps19
      go_wp2_with fail
      refine HY.out.mono ?_
      rintro x w1 ⟨rfl, b1⟩
      have HE1 := Lib.hid (HALL.out.1.below b1)
      have HC1 := Lib.hid (HALL.out.2.1.below b1)
      have HT1 := Lib.hid (HALL.out.2.2.1.below (HALL.out.2.2.1.pos) b1)
      have O1 : Hid (Only P w w1) := Lib.hid (Only.of_below b1 HPn.out)
      have d0 := HC1.out.cell (k * 2) (by omega)
      rw [HI.out] at d0
      have AT := Lib.hid (at_in HT1.out hi)
      rw [HQE.out] at AT
      clear b1 HY
      go_wp2_with fail
      refine AT.out.mono ?_
      rintro x w2 ⟨rfl, b2⟩
      obtain ⟨W3, hW3, x1, x2, x3, b3⟩ := box_facts w2 Q (mps i) (lps i) (swp i)
      have x0 : W3.cell? ⟨w2.heap.size, 0, none⟩ = some (.int .i64 (Q : Int)) := by rw [← hW3]; exact blk_cell (heap_alloc_new w2 _) 0
      have HE3 := Lib.hid ((HE1.out.below b2).below b3)
      have HC3 := Lib.hid ((HC1.out.below b2).below b3)
      have O3 : Hid (Only P w W3) := Lib.hid ((O1.out.trans (Only.of_below b2 (fun k hk => HPn.out k (Nat.le_trans O1.out.size hk)))).trans (Only.of_below b3 (fun k hk => HPn.out k (Nat.le_trans (Nat.le_trans O1.out.size b2.size) hk))))
      have hpb : p ≠ w2.heap.size := by have := (HE1.out.below b2).lt; omega
      have d1 := HC3.out.cell (k * 2 + 1) (by omega)
      rw [HM.out] at d1
      have p0 := HE3.out.c0
      have z0 := HE3.out.z 0
      have p1 := HE3.out.c1
      have z1 := HE3.out.z 1
      simp only at p0 p1
      have hqp : q ≠ p := fun e => HQ.out.1 (e ▸ HE3.out.p)
      clear AT d0 b2 b3 O1 HE1 HC1 HT1
      have em : ((b : Int) == (m : Int)) = false := by simp; omega
      have e6 : (a : Int) - (Q : Int) < (Q : Int) := by omega
      obtain ⟨X1, hX1⟩ : ∃ X1, W3.setCell ⟨p, 0, none⟩ (.int .u32 ((a : Int) - (Q : Int))) = X1 := ⟨_, rfl⟩
      have HX1 : Hid (EW P X1 p ⟨a - Q, c, ct, pre, last⟩) := Lib.hid (by rw [← hX1, show (a : Int) - (Q : Int) = ((a - Q : Nat) : Int) by omega]; exact HE3.out.setA (a - Q))
      have OX1 : Hid (Only P w X1) := Lib.hid (by rw [← hX1]; exact O3.out.setCell (p := ⟨p, 0, none⟩) HE3.out.p _)
      have blk1 : ∀ j, j ≠ p → X1.heap[j]? = W3.heap[j]? := fun j hj => by rw [← hX1]; exact Below.heap_setCell _ _ _ _ hj
      have HC1 := Lib.hid (HC3.out.keep (blk1 q hqp))
      have y1 := HX1.out.c1
      have y1z := HX1.out.z 1
      have y0 := HX1.out.c0
      have y0z := HX1.out.z 0
      simp only at y1 y0
      rw [show ((a - Q : Nat) : Int) = (a : Int) - (Q : Int) by omega] at y0
      have d1 := (World.cell?_of_block (w := W3) (a := ⟨q, k * 2 + 1, none⟩) (blk1 q hqp)).trans d1
      have x0 := (World.cell?_of_block (w := W3) (a := ⟨w2.heap.size, 0, none⟩) (blk1 w2.heap.size (Ne.symm hpb))).trans x0
      have x1 := (World.cell?_of_block (w := W3) (a := ⟨w2.heap.size, 1, none⟩) (blk1 w2.heap.size (Ne.symm hpb))).trans x1
      have x2 := (World.cell?_of_block (w := W3) (a := ⟨w2.heap.size, 2, none⟩) (blk1 w2.heap.size (Ne.symm hpb))).trans x2
      have x3 := (World.cell?_of_block (w := W3) (a := ⟨w2.heap.size, 3, none⟩) (blk1 w2.heap.size (Ne.symm hpb))).trans x3
      obtain ⟨X2, hX2⟩ : ∃ X2, X1.setCell ⟨p, 1, none⟩ (.int .u32 ((c : Int) + (Q : Int))) = X2 := ⟨_, rfl⟩
      have HX2 : Hid (EW P X2 p ⟨a - Q, c + Q, ct, pre, last⟩) := Lib.hid (by rw [← hX2, show (c : Int) + (Q : Int) = ((c + Q : Nat) : Int) by omega]; exact HX1.out.setC (c + Q))
      have OX2 : Hid (Only P w X2) := Lib.hid (by rw [← hX2]; exact OX1.out.setCell (p := ⟨p, 1, none⟩) HE3.out.p _)
      have blk2 : ∀ j, j ≠ p → X2.heap[j]? = X1.heap[j]? := fun j hj => by rw [← hX2]; exact Below.heap_setCell _ _ _ _ hj
      have HC2 := Lib.hid (HC1.out.keep (blk2 q hqp))
      have x02 := (World.cell?_of_block (w := X1) (a := ⟨w2.heap.size, 0, none⟩) (blk2 w2.heap.size (Ne.symm hpb))).trans x0
      have x12 := (World.cell?_of_block (w := X1) (a := ⟨w2.heap.size, 1, none⟩) (blk2 w2.heap.size (Ne.symm hpb))).trans x1
      have x22 := (World.cell?_of_block (w := X1) (a := ⟨w2.heap.size, 2, none⟩) (blk2 w2.heap.size (Ne.symm hpb))).trans x2
      have x32 := (World.cell?_of_block (w := X1) (a := ⟨w2.heap.size, 3, none⟩) (blk2 w2.heap.size (Ne.symm hpb))).trans x3
      clear blk1 blk2
      have HK := Lib.hid (And.intro a2 (And.intro a3 (And.intro q1 q2)))
      have LK := Lib.hid (unlikely_any (a := Q) (b := mps i) (c := lps i) (d := swp i) HC2.out HALL.out.2.2.2.1 hk)
      have HGN : Hid (Good ⟨(a - Q), (c + Q), ct, pre, last⟩ ∧ (a - Q) < 32768) := Lib.hid ⟨⟨HG.out.toInv.narrow (by omega) (by omega) (by simp only; omega), HG.out.ct0⟩, by omega⟩
      clear HE3 HC3 HC1 hbm hcase2
      go_wp2_with fail
      refine LK.out.mono ?_
      rintro x W4 ⟨rfl, hc4, o4⟩
      have HE4 := Lib.hid (HX2.out.only o4 (fun j hj hPj e => by
        rcases e with e | e
        · exact HQ.out.1 (e ▸ hPj)
        · omega))
      have RN := Lib.hid (renorm_any HE4.out HGN.out.1 HGN.out.2 (by have := HML.out; simp only; omega) (fun j hj => HPn.out j (Nat.le_trans (Nat.le_trans OX2.out.size o4.size) hj)))
      have HC4 := Lib.hid hc4
      have O4 : Hid (Only (EC P q) w W4) := Lib.hid ((OX2.out.mono fun j hj => Or.inl hj).trans (o4.mono fun j hj => by
        rcases hj with hj | hj
        · exact Or.inr hj
        · exact Or.inl (HPn.out j (Nat.le_trans OX2.out.size hj))))
      clear LK hc4 o4 x0 x1 x2 x3 x02 x12 x22 x32 hX1 hX2 d1 y0 y1 y0z y1z p0 p1 z0 z1
      go_wp2_with fail
      refine RN.out.mono ?_
      rintro x W5 ⟨rfl, he5, o5⟩
      have FIN : Hid (EW P W5 p _ ∧ Cb W5 q _ ∧ Only (EC P q) w W5) := Lib.hid ⟨he5, HC4.out.only o5 HQ.out.1, O4.out.trans (o5.mono fun j hj => Or.inl hj)⟩
      clear he5 o5 RN
      go_wp2
      go_end0
      exact ⟨rfl, FIN.out⟩
    · skip
      rw [if_neg hbm, if_neg hbm, if_neg hcase2]
      go_enter Tryd.func19, Tryd.ntmps19
      go_wp2_with fail
      refine HY.out.mono ?_
      rintro x w1 ⟨rfl, b1⟩
      have HE1 := Lib.hid (HALL.out.1.below b1)
      have HC1 := Lib.hid (HALL.out.2.1.below b1)
      have HT1 := Lib.hid (HALL.out.2.2.1.below (HALL.out.2.2.1.pos) b1)
      have O1 : Hid (Only P w w1) := Lib.hid (Only.of_below b1 HPn.out)
      have d0 := HC1.out.cell (k * 2) (by omega)
      rw [HI.out] at d0
      have AT := Lib.hid (at_in HT1.out hi)
      rw [HQE.out] at AT
      clear b1 HY
      go_wp2_with fail
      refine AT.out.mono ?_
      rintro x w2 ⟨rfl, b2⟩
      obtain ⟨W3, hW3, x1, x2, x3, b3⟩ := box_facts w2 Q (mps i) (lps i) (swp i)
      have x0 : W3.cell? ⟨w2.heap.size, 0, none⟩ = some (.int .i64 (Q : Int)) := by rw [← hW3]; exact blk_cell (heap_alloc_new w2 _) 0
      have HE3 := Lib.hid ((HE1.out.below b2).below b3)
      have HC3 := Lib.hid ((HC1.out.below b2).below b3)
      have O3 : Hid (Only P w W3) := Lib.hid ((O1.out.trans (Only.of_below b2 (fun k hk => HPn.out k (Nat.le_trans O1.out.size hk)))).trans (Only.of_below b3 (fun k hk => HPn.out k (Nat.le_trans (Nat.le_trans O1.out.size b2.size) hk))))
      have hpb : p ≠ w2.heap.size := by have := (HE1.out.below b2).lt; omega
      have d1 := HC3.out.cell (k * 2 + 1) (by omega)
      rw [HM.out] at d1
      have p0 := HE3.out.c0
      have z0 := HE3.out.z 0
      have p1 := HE3.out.c1
      have z1 := HE3.out.z 1
      simp only at p0 p1
      have hqp : q ≠ p := fun e => HQ.out.1 (e ▸ HE3.out.p)
      clear AT d0 b2 b3 O1 HE1 HC1 HT1
      have em : ((b : Int) == (m : Int)) = false := by simp; omega
      have e6 : decide ((a : Int) - (Q : Int) < (Q : Int)) = false := by simp; omega
      obtain ⟨X1, hX1⟩ : ∃ X1, W3.setCell ⟨p, 0, none⟩ (.int .u32 ((a : Int) - (Q : Int))) = X1 := ⟨_, rfl⟩
      have HX1 : Hid (EW P X1 p ⟨a - Q, c, ct, pre, last⟩) := Lib.hid (by rw [← hX1, show (a : Int) - (Q : Int) = ((a - Q : Nat) : Int) by omega]; exact HE3.out.setA (a - Q))
      have OX1 : Hid (Only P w X1) := Lib.hid (by rw [← hX1]; exact O3.out.setCell (p := ⟨p, 0, none⟩) HE3.out.p _)
      have blk1 : ∀ j, j ≠ p → X1.heap[j]? = W3.heap[j]? := fun j hj => by rw [← hX1]; exact Below.heap_setCell _ _ _ _ hj
      have HC1 := Lib.hid (HC3.out.keep (blk1 q hqp))
      have y1 := HX1.out.c1
      have y1z := HX1.out.z 1
      have y0 := HX1.out.c0
      have y0z := HX1.out.z 0
      simp only at y1 y0
      rw [show ((a - Q : Nat) : Int) = (a : Int) - (Q : Int) by omega] at y0
      have d1 := (World.cell?_of_block (w := W3) (a := ⟨q, k * 2 + 1, none⟩) (blk1 q hqp)).trans d1
      have x0 := (World.cell?_of_block (w := W3) (a := ⟨w2.heap.size, 0, none⟩) (blk1 w2.heap.size (Ne.symm hpb))).trans x0
      have x1 := (World.cell?_of_block (w := W3) (a := ⟨w2.heap.size, 1, none⟩) (blk1 w2.heap.size (Ne.symm hpb))).trans x1
      have x2 := (World.cell?_of_block (w := W3) (a := ⟨w2.heap.size, 2, none⟩) (blk1 w2.heap.size (Ne.symm hpb))).trans x2
      have x3 := (World.cell?_of_block (w := W3) (a := ⟨w2.heap.size, 3, none⟩) (blk1 w2.heap.size (Ne.symm hpb))).trans x3
      obtain ⟨X2, hX2⟩ : ∃ X2, X1.setCell ⟨p, 0, none⟩ (.int .u32 (Q : Int)) = X2 := ⟨_, rfl⟩
      have HX2 : Hid (EW P X2 p ⟨Q, c, ct, pre, last⟩) := Lib.hid (by rw [← hX2]; exact HX1.out.setA Q)
      have OX2 : Hid (Only P w X2) := Lib.hid (by rw [← hX2]; exact OX1.out.setCell (p := ⟨p, 0, none⟩) HE3.out.p _)
      have blk2 : ∀ j, j ≠ p → X2.heap[j]? = X1.heap[j]? := fun j hj => by rw [← hX2]; exact Below.heap_setCell _ _ _ _ hj
      have HC2 := Lib.hid (HC1.out.keep (blk2 q hqp))
      have x02 := (World.cell?_of_block (w := X1) (a := ⟨w2.heap.size, 0, none⟩) (blk2 w2.heap.size (Ne.symm hpb))).trans x0
      have x12 := (World.cell?_of_block (w := X1) (a := ⟨w2.heap.size, 1, none⟩) (blk2 w2.heap.size (Ne.symm hpb))).trans x1
      have x22 := (World.cell?_of_block (w := X1) (a := ⟨w2.heap.size, 2, none⟩) (blk2 w2.heap.size (Ne.symm hpb))).trans x2
      have x32 := (World.cell?_of_block (w := X1) (a := ⟨w2.heap.size, 3, none⟩) (blk2 w2.heap.size (Ne.symm hpb))).trans x3
      clear blk1 blk2
      have HK := Lib.hid (And.intro a2 (And.intro a3 (And.intro q1 q2)))
      have LK := Lib.hid (unlikely_any (a := Q) (b := mps i) (c := lps i) (d := swp i) HC2.out HALL.out.2.2.2.1 hk)
      have HGN : Hid (Good ⟨Q, c, ct, pre, last⟩ ∧ Q < 32768) := Lib.hid ⟨⟨HG.out.toInv.narrow (by omega) (by omega) (by simp only; omega), HG.out.ct0⟩, by omega⟩
      clear HE3 HC3 HC1 hbm hcase2
      go_wp2_with fail
      refine LK.out.mono ?_
      rintro x W4 ⟨rfl, hc4, o4⟩
      have HE4 := Lib.hid (HX2.out.only o4 (fun j hj hPj e => by
        rcases e with e | e
        · exact HQ.out.1 (e ▸ hPj)
        · omega))
      have RN := Lib.hid (renorm_any HE4.out HGN.out.1 HGN.out.2 (by have := HML.out; simp only; omega) (fun j hj => HPn.out j (Nat.le_trans (Nat.le_trans OX2.out.size o4.size) hj)))
      have HC4 := Lib.hid hc4
      have O4 : Hid (Only (EC P q) w W4) := Lib.hid ((OX2.out.mono fun j hj => Or.inl hj).trans (o4.mono fun j hj => by
        rcases hj with hj | hj
        · exact Or.inr hj
        · exact Or.inl (HPn.out j (Nat.le_trans OX2.out.size hj))))
      clear LK hc4 o4 x0 x1 x2 x3 x02 x12 x22 x32 hX1 hX2 d1 y0 y1 y0z y1z p0 p1 z0 z1
      go_wp2_with fail
      refine RN.out.mono ?_
      rintro x W5 ⟨rfl, he5, o5⟩
      have FIN : Hid (EW P W5 p _ ∧ Cb W5 q _ ∧ Only (EC P q) w W5) := Lib.hid ⟨he5, HC4.out.only o5 HQ.out.1, O4.out.trans (o5.mono fun j hj => Or.inl hj)⟩
      clear he5 o5 RN
      go_wp2
      go_end0
      exact ⟨rfl, FIN.out⟩
end Go.Proofs.YtdgkeghgfibolaaDoor
