/- The decoder of package mq: a sign. -/
import Derived.Test.YtdgkeghgfibolaaDoorMqR
set_option linter.unusedVariables false
set_option linter.unusedSimpArgs false
namespace Go.Proofs.YtdgkeghgfibolaaDoor
open Go.RowKit

/-- What a sign makes of a decoder and its contexts, and what it is. -/
def dB (f : Nat → Nat) (d : D) (cx : List Nat) (k : Nat) : Nat × D × List Nat :=
  if d.c / 65536 < (qe (cx.getD (k * 2) 0) : Int) then
    (if d.a - qe (cx.getD (k * 2) 0) < qe (cx.getD (k * 2) 0) then (cx.getD (k * 2 + 1) 0, dNorm f 16 ⟨qe (cx.getD (k * 2) 0), d.c, d.ct, d.at_⟩, cx.set (k * 2) (mps (cx.getD (k * 2) 0)))
      else (1 - cx.getD (k * 2 + 1) 0, dNorm f 16 ⟨qe (cx.getD (k * 2) 0), d.c, d.ct, d.at_⟩, mUn cx k (lps (cx.getD (k * 2) 0)) (swp (cx.getD (k * 2) 0))))
  else if 32768 ≤ d.a - qe (cx.getD (k * 2) 0) then (cx.getD (k * 2 + 1) 0, ⟨d.a - qe (cx.getD (k * 2) 0), wrap64 (d.c - (qe (cx.getD (k * 2) 0) : Int) * 65536), d.ct, d.at_⟩, cx)
  else if d.a - qe (cx.getD (k * 2) 0) < qe (cx.getD (k * 2) 0) then (1 - cx.getD (k * 2 + 1) 0, dNorm f 16 ⟨d.a - qe (cx.getD (k * 2) 0), wrap64 (d.c - (qe (cx.getD (k * 2) 0) : Int) * 65536), d.ct, d.at_⟩, mUn cx k (lps (cx.getD (k * 2) 0)) (swp (cx.getD (k * 2) 0)))
  else (cx.getD (k * 2 + 1) 0, dNorm f 16 ⟨d.a - qe (cx.getD (k * 2) 0), wrap64 (d.c - (qe (cx.getD (k * 2) 0) : Int) * 65536), d.ct, d.at_⟩, cx.set (k * 2) (mps (cx.getD (k * 2) 0)))

theorem decode_none {w : World} {p q : Nat} {k : Int} (hk : k < 0 ∨ 19 ≤ k) : Calls Tryd.prog 27 #[.pointer (some ⟨p, 0, none⟩), .pointer (some ⟨q, 0, none⟩), .int .i64 k] w fun e w' => e = .returned (.int .i64 0) ∧ w = w' := by
  have HN := Lib.hid (has_no (w := w) (q := q) hk)
  clear hk
  go_enter Tryd.func27, Tryd.ntmps27
  go_wp2_with fail
  refine HN.out.mono ?_
  rintro e w1 ⟨rfl, rfl⟩
  go_wp2
  go_ret
  exact ⟨rfl, rfl⟩

set_option maxRecDepth 100000 in
set_option maxHeartbeats 8000000 in
theorem decode_any {P : Nat → Prop} {w : World} {p q k : Nat} {cx : List Nat} {d : D} {bs : List Nat} (h : DW P w p d bs) (hc : Cb w q cx) (hq : ¬ P q) (hT : Tab w) (h0 : ¬ P 0) (h0q : q ≠ 0) (ok : COk cx) (a3 : 32768 ≤ d.a) (a2 : d.a < 65536) (hct : d.ct ≤ 8) (hat : d.at_ ≤ 150000) (hk : k < 19) (hP : ∀ k, w.heap.size ≤ k → P k) :
    Calls Tryd.prog 27 #[.pointer (some ⟨p, 0, none⟩), .pointer (some ⟨q, 0, none⟩), .int .i64 (k : Int)] w fun x w' => x = .returned (.int .i64 ((dB (fB bs) d cx k).1 : Nat)) ∧ DW P w' p (dB (fB bs) d cx k).2.1 bs ∧ Cb w' q (dB (fB bs) d cx k).2.2 ∧ Only (EC P q) w w' := by
  have HY := Lib.hid (has_yes hc hT ok hk)
  have hmp := ok.m k hk
  have hi := ok.i k hk
  have HALL := Lib.hid (And.intro h (And.intro hc (And.intro hT ok)))
  have HPn := Lib.hid hP
  have HQ := Lib.hid (And.intro hq (And.intro h0 h0q))
  unfold dB
  obtain ⟨i, hi'⟩ : ∃ i, cx.getD (k * 2) 0 = i := ⟨_, rfl⟩
  obtain ⟨m, hm'⟩ : ∃ m, cx.getD (k * 2 + 1) 0 = m := ⟨_, rfl⟩
  have HI := Lib.hid hi'
  have HM := Lib.hid hm'
  rw [hi'] at hi
  rw [hm'] at hmp
  rw [hi', hm']
  obtain ⟨q1, q2, _, _⟩ := qe_bd i hi
  obtain ⟨Q, hQ⟩ : ∃ Q, qe i = Q := ⟨_, rfl⟩
  rw [hQ] at q1 q2 ⊢
  have HQE := Lib.hid hQ
  have h1 : (0 : Int) ≤ (k : Int) := by omega
  have h2 : (k : Int) < 19 := by omega
  obtain ⟨a, c, ct, at_⟩ := d
  simp only at a2 a3 hct hat
  simp only
  have HB := Lib.hid (And.intro hct hat)
  clear h hc hT ok hP hq h0 h0q hi' hm' hQ hct hat
  by_cases hlow : c / 65536 < (Q : Int)
  · by_cases hcase2 : a - Q < Q
    · skip
      rw [if_pos hlow, if_pos hcase2]
      go_enter Tryd.func27, Tryd.ntmps27
      go_wp2_with fail
      refine HY.out.mono ?_
      rintro x w1 ⟨rfl, b1⟩
      have HE1 := Lib.hid (HALL.out.1.below b1)
      have HC1 := Lib.hid (HALL.out.2.1.below b1)
      have HT1 := Lib.hid (HALL.out.2.2.1.below (HALL.out.2.2.1.pos) b1)
      have O1 : Hid (Only P w w1) := Lib.hid (Only.of_below b1 HPn.out)
      have d0 := HC1.out.cell (k * 2) (by omega)
      rw [HI.out] at d0
      have AT := Lib.hid (at_in HT1.out hi)
      rw [HQE.out] at AT
      clear b1 HY
      go_wp2_with fail
      refine AT.out.mono ?_
      rintro x w2 ⟨rfl, b2⟩
      obtain ⟨W3, hW3, x1, x2, x3, b3⟩ := box_facts w2 Q (mps i) (lps i) (swp i)
      have x0 : W3.cell? ⟨w2.heap.size, 0, none⟩ = some (.int .i64 (Q : Int)) := by rw [← hW3]; exact blk_cell (heap_alloc_new w2 _) 0
      have HE3 := Lib.hid ((HE1.out.below b2).below b3)
      have HC3 := Lib.hid ((HC1.out.below b2).below b3)
      have O3 : Hid (Only P w W3) := Lib.hid ((O1.out.trans (Only.of_below b2 (fun k hk => HPn.out k (Nat.le_trans O1.out.size hk)))).trans (Only.of_below b3 (fun k hk => HPn.out k (Nat.le_trans (Nat.le_trans O1.out.size b2.size) hk))))
      have hpb : p ≠ w2.heap.size := by have := (HE1.out.below b2).lt; omega
      have d1 := HC3.out.cell (k * 2 + 1) (by omega)
      rw [HM.out] at d1
      have p0 := HE3.out.c0
      have z0 := HE3.out.z 0
      have p1 := HE3.out.c1
      have z1 := HE3.out.z 1
      simp only at p0 p1
      have hqp : q ≠ p := fun e => HQ.out.1 (e ▸ HE3.out.pp)
      clear AT d0 b2 b3 O1 HE1 HC1 HT1
      have e4 : decide (c / 65536 < (Q : Int)) = true := by simp; omega
      have e6 : decide ((a : Int) - (Q : Int) < (Q : Int)) = true := by simp; omega
      obtain ⟨X1, hX1⟩ : ∃ X1, W3.setCell ⟨p, 0, none⟩ (.int .i64 ((a : Int) - (Q : Int))) = X1 := ⟨_, rfl⟩
      have HX1 : Hid (DW P X1 p ⟨a - Q, c, ct, at_⟩ bs) := Lib.hid (by rw [← hX1, show (a : Int) - (Q : Int) = ((a - Q : Nat) : Int) by omega]; exact HE3.out.sa (a - Q))
      have OX1 : Hid (Only P w X1) := Lib.hid (by rw [← hX1]; exact O3.out.setCell (p := ⟨p, 0, none⟩) HE3.out.pp _)
      have blk1 : ∀ j, j ≠ p → X1.heap[j]? = W3.heap[j]? := fun j hj => by rw [← hX1]; exact Below.heap_setCell _ _ _ _ hj
      have HC1 := Lib.hid (HC3.out.keep (blk1 q hqp))
      have y1 := HX1.out.c1
      have y1z := HX1.out.z 1
      have y0 := HX1.out.c0
      have y0z := HX1.out.z 0
      simp only at y1 y0
      rw [show ((a - Q : Nat) : Int) = (a : Int) - (Q : Int) by omega] at y0
      have d1 := (World.cell?_of_block (w := W3) (a := ⟨q, k * 2 + 1, none⟩) (blk1 q hqp)).trans d1
      have x0 := (World.cell?_of_block (w := W3) (a := ⟨w2.heap.size, 0, none⟩) (blk1 w2.heap.size (Ne.symm hpb))).trans x0
      have x1 := (World.cell?_of_block (w := W3) (a := ⟨w2.heap.size, 1, none⟩) (blk1 w2.heap.size (Ne.symm hpb))).trans x1
      have x2 := (World.cell?_of_block (w := W3) (a := ⟨w2.heap.size, 2, none⟩) (blk1 w2.heap.size (Ne.symm hpb))).trans x2
      have x3 := (World.cell?_of_block (w := W3) (a := ⟨w2.heap.size, 3, none⟩) (blk1 w2.heap.size (Ne.symm hpb))).trans x3
      obtain ⟨X2, hX2⟩ : ∃ X2, X1.setCell ⟨p, 0, none⟩ (.int .i64 (Q : Int)) = X2 := ⟨_, rfl⟩
      have HX2 : Hid (DW P X2 p ⟨Q, c, ct, at_⟩ bs) := Lib.hid (by rw [← hX2]; exact HX1.out.sa Q)
      have OX2 : Hid (Only P w X2) := Lib.hid (by rw [← hX2]; exact OX1.out.setCell (p := ⟨p, 0, none⟩) HE3.out.pp _)
      have blk2 : ∀ j, j ≠ p → X2.heap[j]? = X1.heap[j]? := fun j hj => by rw [← hX2]; exact Below.heap_setCell _ _ _ _ hj
      have HC2 := Lib.hid (HC1.out.keep (blk2 q hqp))
      have d12 := (World.cell?_of_block (w := X1) (a := ⟨q, k * 2 + 1, none⟩) (blk2 q hqp)).trans d1
      have x02 := (World.cell?_of_block (w := X1) (a := ⟨w2.heap.size, 0, none⟩) (blk2 w2.heap.size (Ne.symm hpb))).trans x0
      have x12 := (World.cell?_of_block (w := X1) (a := ⟨w2.heap.size, 1, none⟩) (blk2 w2.heap.size (Ne.symm hpb))).trans x1
      have x22 := (World.cell?_of_block (w := X1) (a := ⟨w2.heap.size, 2, none⟩) (blk2 w2.heap.size (Ne.symm hpb))).trans x2
      have x32 := (World.cell?_of_block (w := X1) (a := ⟨w2.heap.size, 3, none⟩) (blk2 w2.heap.size (Ne.symm hpb))).trans x3
      clear blk1 blk2
      have LK := Lib.hid (likely_any (a := Q) (b := mps i) (c := lps i) (d := swp i) HC2.out hk)
      have HGN : Hid (1 ≤ Q ∧ Q < 32768) := Lib.hid ⟨by omega, by omega⟩
      clear HE3 HC3 HC1 hlow hcase2
      go_wp2_with fail
      refine LK.out.mono ?_
      rintro x W4 ⟨rfl, hc4, o4⟩
      have HE4 := Lib.hid (HX2.out.only o4 (fun j hj hPj e => by
        rcases e with e | e
        · exact HQ.out.1 (e ▸ hPj)
        · omega))
      have RN := Lib.hid (drenorm_any HE4.out HGN.out.1 HGN.out.2 HB.out.1 HB.out.2)
      have HC4 := Lib.hid hc4
      have O4 : Hid (Only (EC P q) w W4) := Lib.hid ((OX2.out.mono fun j hj => Or.inl hj).trans (o4.mono fun j hj => by
        rcases hj with hj | hj
        · exact Or.inr hj
        · exact Or.inl (HPn.out j (Nat.le_trans OX2.out.size hj))))
      clear LK hc4 o4 x0 x1 x2 x3 x02 x12 x22 x32 hX1 hX2 d1 d12 y0 y1 y0z y1z p0 p1 z0 z1
      go_wp2_with fail
      refine RN.out.mono ?_
      rintro x W5 ⟨rfl, he5, o5⟩
      have FIN : Hid (DW P W5 p _ _ ∧ Cb W5 q _ ∧ Only (EC P q) w W5) := Lib.hid ⟨he5, HC4.out.only o5 HQ.out.1, O4.out.trans (o5.mono fun j hj => Or.inl hj)⟩
      clear he5 o5 RN
      go_wp2
      go_ret
      exact ⟨rfl, FIN.out⟩
    · skip
      rw [if_pos hlow, if_neg hcase2]
      go_enter Tryd.func27, Tryd.ntmps27
      go_wp2_with fail
      refine HY.out.mono ?_
      rintro x w1 ⟨rfl, b1⟩
      have HE1 := Lib.hid (HALL.out.1.below b1)
      have HC1 := Lib.hid (HALL.out.2.1.below b1)
      have HT1 := Lib.hid (HALL.out.2.2.1.below (HALL.out.2.2.1.pos) b1)
      have O1 : Hid (Only P w w1) := Lib.hid (Only.of_below b1 HPn.out)
      have d0 := HC1.out.cell (k * 2) (by omega)
      rw [HI.out] at d0
      have AT := Lib.hid (at_in HT1.out hi)
      rw [HQE.out] at AT
      clear b1 HY
      go_wp2_with fail
      refine AT.out.mono ?_
      rintro x w2 ⟨rfl, b2⟩
      obtain ⟨W3, hW3, x1, x2, x3, b3⟩ := box_facts w2 Q (mps i) (lps i) (swp i)
      have x0 : W3.cell? ⟨w2.heap.size, 0, none⟩ = some (.int .i64 (Q : Int)) := by rw [← hW3]; exact blk_cell (heap_alloc_new w2 _) 0
      have HE3 := Lib.hid ((HE1.out.below b2).below b3)
      have HC3 := Lib.hid ((HC1.out.below b2).below b3)
      have O3 : Hid (Only P w W3) := Lib.hid ((O1.out.trans (Only.of_below b2 (fun k hk => HPn.out k (Nat.le_trans O1.out.size hk)))).trans (Only.of_below b3 (fun k hk => HPn.out k (Nat.le_trans (Nat.le_trans O1.out.size b2.size) hk))))
      have hpb : p ≠ w2.heap.size := by have := (HE1.out.below b2).lt; omega
      have d1 := HC3.out.cell (k * 2 + 1) (by omega)
      rw [HM.out] at d1
      have p0 := HE3.out.c0
      have z0 := HE3.out.z 0
      have p1 := HE3.out.c1
      have z1 := HE3.out.z 1
      simp only at p0 p1
      have hqp : q ≠ p := fun e => HQ.out.1 (e ▸ HE3.out.pp)
      clear AT d0 b2 b3 O1 HE1 HC1 HT1
      have e4 : decide (c / 65536 < (Q : Int)) = true := by simp; omega
      have e6 : decide ((a : Int) - (Q : Int) < (Q : Int)) = false := by simp; omega
      obtain ⟨X1, hX1⟩ : ∃ X1, W3.setCell ⟨p, 0, none⟩ (.int .i64 ((a : Int) - (Q : Int))) = X1 := ⟨_, rfl⟩
      have HX1 : Hid (DW P X1 p ⟨a - Q, c, ct, at_⟩ bs) := Lib.hid (by rw [← hX1, show (a : Int) - (Q : Int) = ((a - Q : Nat) : Int) by omega]; exact HE3.out.sa (a - Q))
      have OX1 : Hid (Only P w X1) := Lib.hid (by rw [← hX1]; exact O3.out.setCell (p := ⟨p, 0, none⟩) HE3.out.pp _)
      have blk1 : ∀ j, j ≠ p → X1.heap[j]? = W3.heap[j]? := fun j hj => by rw [← hX1]; exact Below.heap_setCell _ _ _ _ hj
      have HC1 := Lib.hid (HC3.out.keep (blk1 q hqp))
      have y1 := HX1.out.c1
      have y1z := HX1.out.z 1
      have y0 := HX1.out.c0
      have y0z := HX1.out.z 0
      simp only at y1 y0
      rw [show ((a - Q : Nat) : Int) = (a : Int) - (Q : Int) by omega] at y0
      have d1 := (World.cell?_of_block (w := W3) (a := ⟨q, k * 2 + 1, none⟩) (blk1 q hqp)).trans d1
      have x0 := (World.cell?_of_block (w := W3) (a := ⟨w2.heap.size, 0, none⟩) (blk1 w2.heap.size (Ne.symm hpb))).trans x0
      have x1 := (World.cell?_of_block (w := W3) (a := ⟨w2.heap.size, 1, none⟩) (blk1 w2.heap.size (Ne.symm hpb))).trans x1
      have x2 := (World.cell?_of_block (w := W3) (a := ⟨w2.heap.size, 2, none⟩) (blk1 w2.heap.size (Ne.symm hpb))).trans x2
      have x3 := (World.cell?_of_block (w := W3) (a := ⟨w2.heap.size, 3, none⟩) (blk1 w2.heap.size (Ne.symm hpb))).trans x3
      obtain ⟨X2, hX2⟩ : ∃ X2, X1.setCell ⟨p, 0, none⟩ (.int .i64 (Q : Int)) = X2 := ⟨_, rfl⟩
      have HX2 : Hid (DW P X2 p ⟨Q, c, ct, at_⟩ bs) := Lib.hid (by rw [← hX2]; exact HX1.out.sa Q)
      have OX2 : Hid (Only P w X2) := Lib.hid (by rw [← hX2]; exact OX1.out.setCell (p := ⟨p, 0, none⟩) HE3.out.pp _)
      have blk2 : ∀ j, j ≠ p → X2.heap[j]? = X1.heap[j]? := fun j hj => by rw [← hX2]; exact Below.heap_setCell _ _ _ _ hj
      have HC2 := Lib.hid (HC1.out.keep (blk2 q hqp))
      have d12 := (World.cell?_of_block (w := X1) (a := ⟨q, k * 2 + 1, none⟩) (blk2 q hqp)).trans d1
      have x02 := (World.cell?_of_block (w := X1) (a := ⟨w2.heap.size, 0, none⟩) (blk2 w2.heap.size (Ne.symm hpb))).trans x0
      have x12 := (World.cell?_of_block (w := X1) (a := ⟨w2.heap.size, 1, none⟩) (blk2 w2.heap.size (Ne.symm hpb))).trans x1
      have x22 := (World.cell?_of_block (w := X1) (a := ⟨w2.heap.size, 2, none⟩) (blk2 w2.heap.size (Ne.symm hpb))).trans x2
      have x32 := (World.cell?_of_block (w := X1) (a := ⟨w2.heap.size, 3, none⟩) (blk2 w2.heap.size (Ne.symm hpb))).trans x3
      clear blk1 blk2
      have LK := Lib.hid (unlikely_any (a := Q) (b := mps i) (c := lps i) (d := swp i) HC2.out HALL.out.2.2.2 hk)
      have em1 : (0 : Int) ≤ 1 - (m : Int) := by omega
      have HGN : Hid (1 ≤ Q ∧ Q < 32768) := Lib.hid ⟨by omega, by omega⟩
      clear HE3 HC3 HC1 hlow hcase2
      go_wp2_with fail
      refine LK.out.mono ?_
      rintro x W4 ⟨rfl, hc4, o4⟩
      have HE4 := Lib.hid (HX2.out.only o4 (fun j hj hPj e => by
        rcases e with e | e
        · exact HQ.out.1 (e ▸ hPj)
        · omega))
      have RN := Lib.hid (drenorm_any HE4.out HGN.out.1 HGN.out.2 HB.out.1 HB.out.2)
      have HC4 := Lib.hid hc4
      have O4 : Hid (Only (EC P q) w W4) := Lib.hid ((OX2.out.mono fun j hj => Or.inl hj).trans (o4.mono fun j hj => by
        rcases hj with hj | hj
        · exact Or.inr hj
        · exact Or.inl (HPn.out j (Nat.le_trans OX2.out.size hj))))
      clear LK hc4 o4 x0 x1 x2 x3 x02 x12 x22 x32 hX1 hX2 d1 d12 y0 y1 y0z y1z p0 p1 z0 z1
      go_wp2_with fail
      refine RN.out.mono ?_
      rintro x W5 ⟨rfl, he5, o5⟩
      have FIN : Hid (DW P W5 p _ _ ∧ Cb W5 q _ ∧ Only (EC P q) w W5) := Lib.hid ⟨he5, HC4.out.only o5 HQ.out.1, O4.out.trans (o5.mono fun j hj => Or.inl hj)⟩
      clear he5 o5 RN
      go_wp2
      go_ret
      exact ⟨ret_i64 (by omega), FIN.out⟩
  · by_cases hcase : 32768 ≤ a - Q
    · skip
      rw [if_neg hlow, if_pos hcase]
      go_enter Tryd.func27, Tryd.ntmps27
      go_wp2_with fail
      refine HY.out.mono ?_
      rintro x w1 ⟨rfl, b1⟩
      have HE1 := Lib.hid (HALL.out.1.below b1)
      have HC1 := Lib.hid (HALL.out.2.1.below b1)
      have HT1 := Lib.hid (HALL.out.2.2.1.below (HALL.out.2.2.1.pos) b1)
      have O1 : Hid (Only P w w1) := Lib.hid (Only.of_below b1 HPn.out)
      have d0 := HC1.out.cell (k * 2) (by omega)
      rw [HI.out] at d0
      have AT := Lib.hid (at_in HT1.out hi)
      rw [HQE.out] at AT
      clear b1 HY
      go_wp2_with fail
      refine AT.out.mono ?_
      rintro x w2 ⟨rfl, b2⟩
      obtain ⟨W3, hW3, x1, x2, x3, b3⟩ := box_facts w2 Q (mps i) (lps i) (swp i)
      have x0 : W3.cell? ⟨w2.heap.size, 0, none⟩ = some (.int .i64 (Q : Int)) := by rw [← hW3]; exact blk_cell (heap_alloc_new w2 _) 0
      have HE3 := Lib.hid ((HE1.out.below b2).below b3)
      have HC3 := Lib.hid ((HC1.out.below b2).below b3)
      have O3 : Hid (Only P w W3) := Lib.hid ((O1.out.trans (Only.of_below b2 (fun k hk => HPn.out k (Nat.le_trans O1.out.size hk)))).trans (Only.of_below b3 (fun k hk => HPn.out k (Nat.le_trans (Nat.le_trans O1.out.size b2.size) hk))))
      have hpb : p ≠ w2.heap.size := by have := (HE1.out.below b2).lt; omega
      have d1 := HC3.out.cell (k * 2 + 1) (by omega)
      rw [HM.out] at d1
      have p0 := HE3.out.c0
      have z0 := HE3.out.z 0
      have p1 := HE3.out.c1
      have z1 := HE3.out.z 1
      simp only at p0 p1
      have hqp : q ≠ p := fun e => HQ.out.1 (e ▸ HE3.out.pp)
      clear AT d0 b2 b3 O1 HE1 HC1 HT1
      have e4 : decide (c / 65536 < (Q : Int)) = false := by simp; omega
      have e5 : decide ((32768 : Int) ≤ (a : Int) - (Q : Int)) = true := by simp; omega
      obtain ⟨X1, hX1⟩ : ∃ X1, W3.setCell ⟨p, 0, none⟩ (.int .i64 ((a : Int) - (Q : Int))) = X1 := ⟨_, rfl⟩
      have HX1 : Hid (DW P X1 p ⟨a - Q, c, ct, at_⟩ bs) := Lib.hid (by rw [← hX1, show (a : Int) - (Q : Int) = ((a - Q : Nat) : Int) by omega]; exact HE3.out.sa (a - Q))
      have OX1 : Hid (Only P w X1) := Lib.hid (by rw [← hX1]; exact O3.out.setCell (p := ⟨p, 0, none⟩) HE3.out.pp _)
      have blk1 : ∀ j, j ≠ p → X1.heap[j]? = W3.heap[j]? := fun j hj => by rw [← hX1]; exact Below.heap_setCell _ _ _ _ hj
      have HC1 := Lib.hid (HC3.out.keep (blk1 q hqp))
      have y1 := HX1.out.c1
      have y1z := HX1.out.z 1
      have y0 := HX1.out.c0
      have y0z := HX1.out.z 0
      simp only at y1 y0
      rw [show ((a - Q : Nat) : Int) = (a : Int) - (Q : Int) by omega] at y0
      have d1 := (World.cell?_of_block (w := W3) (a := ⟨q, k * 2 + 1, none⟩) (blk1 q hqp)).trans d1
      have x0 := (World.cell?_of_block (w := W3) (a := ⟨w2.heap.size, 0, none⟩) (blk1 w2.heap.size (Ne.symm hpb))).trans x0
      have x1 := (World.cell?_of_block (w := W3) (a := ⟨w2.heap.size, 1, none⟩) (blk1 w2.heap.size (Ne.symm hpb))).trans x1
      have x2 := (World.cell?_of_block (w := W3) (a := ⟨w2.heap.size, 2, none⟩) (blk1 w2.heap.size (Ne.symm hpb))).trans x2
      have x3 := (World.cell?_of_block (w := W3) (a := ⟨w2.heap.size, 3, none⟩) (blk1 w2.heap.size (Ne.symm hpb))).trans x3
      obtain ⟨X2, hX2⟩ : ∃ X2, X1.setCell ⟨p, 1, none⟩ (.int .i64 (wrap64 (c - (Q : Int) * 65536))) = X2 := ⟨_, rfl⟩
      have HX2 : Hid (DW P X2 p ⟨a - Q, wrap64 (c - (Q : Int) * 65536), ct, at_⟩ bs) := Lib.hid (by rw [← hX2]; exact HX1.out.sc _)
      have y20 := HX2.out.c0
      simp only at y20
      rw [show ((a - Q : Nat) : Int) = (a : Int) - (Q : Int) by omega] at y20
      have OX2 : Hid (Only P w X2) := Lib.hid (by rw [← hX2]; exact OX1.out.setCell (p := ⟨p, 1, none⟩) HE3.out.pp _)
      have blk2 : ∀ j, j ≠ p → X2.heap[j]? = X1.heap[j]? := fun j hj => by rw [← hX2]; exact Below.heap_setCell _ _ _ _ hj
      have HC2 := Lib.hid (HC1.out.keep (blk2 q hqp))
      have d12 := (World.cell?_of_block (w := X1) (a := ⟨q, k * 2 + 1, none⟩) (blk2 q hqp)).trans d1
      have x02 := (World.cell?_of_block (w := X1) (a := ⟨w2.heap.size, 0, none⟩) (blk2 w2.heap.size (Ne.symm hpb))).trans x0
      have x12 := (World.cell?_of_block (w := X1) (a := ⟨w2.heap.size, 1, none⟩) (blk2 w2.heap.size (Ne.symm hpb))).trans x1
      have x22 := (World.cell?_of_block (w := X1) (a := ⟨w2.heap.size, 2, none⟩) (blk2 w2.heap.size (Ne.symm hpb))).trans x2
      have x32 := (World.cell?_of_block (w := X1) (a := ⟨w2.heap.size, 3, none⟩) (blk2 w2.heap.size (Ne.symm hpb))).trans x3
      clear blk1 blk2
      clear HE3 HC3 HC1
      go_wp2
      go_ret
      exact ⟨rfl, HX2.out, HC2.out, OX2.out.mono fun k hk => Or.inl hk⟩
    · by_cases hcase2 : a - Q < Q
      · skip
        rw [if_neg hlow, if_neg hcase, if_pos hcase2]
        go_enter Tryd.func27, Tryd.ntmps27
        go_wp2_with fail
        refine HY.out.mono ?_
        rintro x w1 ⟨rfl, b1⟩
        have HE1 := Lib.hid (HALL.out.1.below b1)
        have HC1 := Lib.hid (HALL.out.2.1.below b1)
        have HT1 := Lib.hid (HALL.out.2.2.1.below (HALL.out.2.2.1.pos) b1)
        have O1 : Hid (Only P w w1) := Lib.hid (Only.of_below b1 HPn.out)
        have d0 := HC1.out.cell (k * 2) (by omega)
        rw [HI.out] at d0
        have AT := Lib.hid (at_in HT1.out hi)
        rw [HQE.out] at AT
        clear b1 HY
        go_wp2_with fail
        refine AT.out.mono ?_
        rintro x w2 ⟨rfl, b2⟩
        obtain ⟨W3, hW3, x1, x2, x3, b3⟩ := box_facts w2 Q (mps i) (lps i) (swp i)
        have x0 : W3.cell? ⟨w2.heap.size, 0, none⟩ = some (.int .i64 (Q : Int)) := by rw [← hW3]; exact blk_cell (heap_alloc_new w2 _) 0
        have HE3 := Lib.hid ((HE1.out.below b2).below b3)
        have HC3 := Lib.hid ((HC1.out.below b2).below b3)
        have O3 : Hid (Only P w W3) := Lib.hid ((O1.out.trans (Only.of_below b2 (fun k hk => HPn.out k (Nat.le_trans O1.out.size hk)))).trans (Only.of_below b3 (fun k hk => HPn.out k (Nat.le_trans (Nat.le_trans O1.out.size b2.size) hk))))
        have hpb : p ≠ w2.heap.size := by have := (HE1.out.below b2).lt; omega
        have d1 := HC3.out.cell (k * 2 + 1) (by omega)
        rw [HM.out] at d1
        have p0 := HE3.out.c0
        have z0 := HE3.out.z 0
        have p1 := HE3.out.c1
        have z1 := HE3.out.z 1
        simp only at p0 p1
        have hqp : q ≠ p := fun e => HQ.out.1 (e ▸ HE3.out.pp)
        clear AT d0 b2 b3 O1 HE1 HC1 HT1
        have e4 : decide (c / 65536 < (Q : Int)) = false := by simp; omega
        have e6 : decide ((a : Int) - (Q : Int) < (Q : Int)) = true := by simp; omega
        have e5 : decide ((32768 : Int) ≤ (a : Int) - (Q : Int)) = false := by simp; omega
        obtain ⟨X1, hX1⟩ : ∃ X1, W3.setCell ⟨p, 0, none⟩ (.int .i64 ((a : Int) - (Q : Int))) = X1 := ⟨_, rfl⟩
        have HX1 : Hid (DW P X1 p ⟨a - Q, c, ct, at_⟩ bs) := Lib.hid (by rw [← hX1, show (a : Int) - (Q : Int) = ((a - Q : Nat) : Int) by omega]; exact HE3.out.sa (a - Q))
        have OX1 : Hid (Only P w X1) := Lib.hid (by rw [← hX1]; exact O3.out.setCell (p := ⟨p, 0, none⟩) HE3.out.pp _)
        have blk1 : ∀ j, j ≠ p → X1.heap[j]? = W3.heap[j]? := fun j hj => by rw [← hX1]; exact Below.heap_setCell _ _ _ _ hj
        have HC1 := Lib.hid (HC3.out.keep (blk1 q hqp))
        have y1 := HX1.out.c1
        have y1z := HX1.out.z 1
        have y0 := HX1.out.c0
        have y0z := HX1.out.z 0
        simp only at y1 y0
        rw [show ((a - Q : Nat) : Int) = (a : Int) - (Q : Int) by omega] at y0
        have d1 := (World.cell?_of_block (w := W3) (a := ⟨q, k * 2 + 1, none⟩) (blk1 q hqp)).trans d1
        have x0 := (World.cell?_of_block (w := W3) (a := ⟨w2.heap.size, 0, none⟩) (blk1 w2.heap.size (Ne.symm hpb))).trans x0
        have x1 := (World.cell?_of_block (w := W3) (a := ⟨w2.heap.size, 1, none⟩) (blk1 w2.heap.size (Ne.symm hpb))).trans x1
        have x2 := (World.cell?_of_block (w := W3) (a := ⟨w2.heap.size, 2, none⟩) (blk1 w2.heap.size (Ne.symm hpb))).trans x2
        have x3 := (World.cell?_of_block (w := W3) (a := ⟨w2.heap.size, 3, none⟩) (blk1 w2.heap.size (Ne.symm hpb))).trans x3
        obtain ⟨X2, hX2⟩ : ∃ X2, X1.setCell ⟨p, 1, none⟩ (.int .i64 (wrap64 (c - (Q : Int) * 65536))) = X2 := ⟨_, rfl⟩
        have HX2 : Hid (DW P X2 p ⟨a - Q, wrap64 (c - (Q : Int) * 65536), ct, at_⟩ bs) := Lib.hid (by rw [← hX2]; exact HX1.out.sc _)
        have y20 := HX2.out.c0
        simp only at y20
        rw [show ((a - Q : Nat) : Int) = (a : Int) - (Q : Int) by omega] at y20
        have OX2 : Hid (Only P w X2) := Lib.hid (by rw [← hX2]; exact OX1.out.setCell (p := ⟨p, 1, none⟩) HE3.out.pp _)
        have blk2 : ∀ j, j ≠ p → X2.heap[j]? = X1.heap[j]? := fun j hj => by rw [← hX2]; exact Below.heap_setCell _ _ _ _ hj
        have HC2 := Lib.hid (HC1.out.keep (blk2 q hqp))
        have d12 := (World.cell?_of_block (w := X1) (a := ⟨q, k * 2 + 1, none⟩) (blk2 q hqp)).trans d1
        have x02 := (World.cell?_of_block (w := X1) (a := ⟨w2.heap.size, 0, none⟩) (blk2 w2.heap.size (Ne.symm hpb))).trans x0
        have x12 := (World.cell?_of_block (w := X1) (a := ⟨w2.heap.size, 1, none⟩) (blk2 w2.heap.size (Ne.symm hpb))).trans x1
        have x22 := (World.cell?_of_block (w := X1) (a := ⟨w2.heap.size, 2, none⟩) (blk2 w2.heap.size (Ne.symm hpb))).trans x2
        have x32 := (World.cell?_of_block (w := X1) (a := ⟨w2.heap.size, 3, none⟩) (blk2 w2.heap.size (Ne.symm hpb))).trans x3
        clear blk1 blk2
        have LK := Lib.hid (unlikely_any (a := Q) (b := mps i) (c := lps i) (d := swp i) HC2.out HALL.out.2.2.2 hk)
        have em1 : (0 : Int) ≤ 1 - (m : Int) := by omega
        have HGN : Hid (1 ≤ (a - Q) ∧ (a - Q) < 32768) := Lib.hid ⟨by omega, by omega⟩
        clear HE3 HC3 HC1 hlow hcase hcase2
        go_wp2_with fail
        refine LK.out.mono ?_
        rintro x W4 ⟨rfl, hc4, o4⟩
        have HE4 := Lib.hid (HX2.out.only o4 (fun j hj hPj e => by
          rcases e with e | e
          · exact HQ.out.1 (e ▸ hPj)
          · omega))
        have RN := Lib.hid (drenorm_any HE4.out HGN.out.1 HGN.out.2 HB.out.1 HB.out.2)
        have HC4 := Lib.hid hc4
        have O4 : Hid (Only (EC P q) w W4) := Lib.hid ((OX2.out.mono fun j hj => Or.inl hj).trans (o4.mono fun j hj => by
          rcases hj with hj | hj
          · exact Or.inr hj
          · exact Or.inl (HPn.out j (Nat.le_trans OX2.out.size hj))))
        clear LK hc4 o4 x0 x1 x2 x3 x02 x12 x22 x32 hX1 hX2 d1 d12 y0 y1 y0z y1z p0 p1 z0 z1
        go_wp2_with fail
        refine RN.out.mono ?_
        rintro x W5 ⟨rfl, he5, o5⟩
        have FIN : Hid (DW P W5 p _ _ ∧ Cb W5 q _ ∧ Only (EC P q) w W5) := Lib.hid ⟨he5, HC4.out.only o5 HQ.out.1, O4.out.trans (o5.mono fun j hj => Or.inl hj)⟩
        clear he5 o5 RN
        go_wp2
        go_ret
        exact ⟨ret_i64 (by omega), FIN.out⟩
      · skip
        rw [if_neg hlow, if_neg hcase, if_neg hcase2]
        go_enter Tryd.func27, Tryd.ntmps27
        go_wp2_with fail
        refine HY.out.mono ?_
        rintro x w1 ⟨rfl, b1⟩
        have HE1 := Lib.hid (HALL.out.1.below b1)
        have HC1 := Lib.hid (HALL.out.2.1.below b1)
        have HT1 := Lib.hid (HALL.out.2.2.1.below (HALL.out.2.2.1.pos) b1)
        have O1 : Hid (Only P w w1) := Lib.hid (Only.of_below b1 HPn.out)
        have d0 := HC1.out.cell (k * 2) (by omega)
        rw [HI.out] at d0
        have AT := Lib.hid (at_in HT1.out hi)
        rw [HQE.out] at AT
        clear b1 HY
        go_wp2_with fail
        refine AT.out.mono ?_
        rintro x w2 ⟨rfl, b2⟩
        obtain ⟨W3, hW3, x1, x2, x3, b3⟩ := box_facts w2 Q (mps i) (lps i) (swp i)
        have x0 : W3.cell? ⟨w2.heap.size, 0, none⟩ = some (.int .i64 (Q : Int)) := by rw [← hW3]; exact blk_cell (heap_alloc_new w2 _) 0
        have HE3 := Lib.hid ((HE1.out.below b2).below b3)
        have HC3 := Lib.hid ((HC1.out.below b2).below b3)
        have O3 : Hid (Only P w W3) := Lib.hid ((O1.out.trans (Only.of_below b2 (fun k hk => HPn.out k (Nat.le_trans O1.out.size hk)))).trans (Only.of_below b3 (fun k hk => HPn.out k (Nat.le_trans (Nat.le_trans O1.out.size b2.size) hk))))
        have hpb : p ≠ w2.heap.size := by have := (HE1.out.below b2).lt; omega
        have d1 := HC3.out.cell (k * 2 + 1) (by omega)
        rw [HM.out] at d1
        have p0 := HE3.out.c0
        have z0 := HE3.out.z 0
        have p1 := HE3.out.c1
        have z1 := HE3.out.z 1
        simp only at p0 p1
        have hqp : q ≠ p := fun e => HQ.out.1 (e ▸ HE3.out.pp)
        clear AT d0 b2 b3 O1 HE1 HC1 HT1
        have e4 : decide (c / 65536 < (Q : Int)) = false := by simp; omega
        have e6 : decide ((a : Int) - (Q : Int) < (Q : Int)) = false := by simp; omega
        have e5 : decide ((32768 : Int) ≤ (a : Int) - (Q : Int)) = false := by simp; omega
        obtain ⟨X1, hX1⟩ : ∃ X1, W3.setCell ⟨p, 0, none⟩ (.int .i64 ((a : Int) - (Q : Int))) = X1 := ⟨_, rfl⟩
        have HX1 : Hid (DW P X1 p ⟨a - Q, c, ct, at_⟩ bs) := Lib.hid (by rw [← hX1, show (a : Int) - (Q : Int) = ((a - Q : Nat) : Int) by omega]; exact HE3.out.sa (a - Q))
        have OX1 : Hid (Only P w X1) := Lib.hid (by rw [← hX1]; exact O3.out.setCell (p := ⟨p, 0, none⟩) HE3.out.pp _)
        have blk1 : ∀ j, j ≠ p → X1.heap[j]? = W3.heap[j]? := fun j hj => by rw [← hX1]; exact Below.heap_setCell _ _ _ _ hj
        have HC1 := Lib.hid (HC3.out.keep (blk1 q hqp))
        have y1 := HX1.out.c1
        have y1z := HX1.out.z 1
        have y0 := HX1.out.c0
        have y0z := HX1.out.z 0
        simp only at y1 y0
        rw [show ((a - Q : Nat) : Int) = (a : Int) - (Q : Int) by omega] at y0
        have d1 := (World.cell?_of_block (w := W3) (a := ⟨q, k * 2 + 1, none⟩) (blk1 q hqp)).trans d1
        have x0 := (World.cell?_of_block (w := W3) (a := ⟨w2.heap.size, 0, none⟩) (blk1 w2.heap.size (Ne.symm hpb))).trans x0
        have x1 := (World.cell?_of_block (w := W3) (a := ⟨w2.heap.size, 1, none⟩) (blk1 w2.heap.size (Ne.symm hpb))).trans x1
        have x2 := (World.cell?_of_block (w := W3) (a := ⟨w2.heap.size, 2, none⟩) (blk1 w2.heap.size (Ne.symm hpb))).trans x2
        have x3 := (World.cell?_of_block (w := W3) (a := ⟨w2.heap.size, 3, none⟩) (blk1 w2.heap.size (Ne.symm hpb))).trans x3
        obtain ⟨X2, hX2⟩ : ∃ X2, X1.setCell ⟨p, 1, none⟩ (.int .i64 (wrap64 (c - (Q : Int) * 65536))) = X2 := ⟨_, rfl⟩
        have HX2 : Hid (DW P X2 p ⟨a - Q, wrap64 (c - (Q : Int) * 65536), ct, at_⟩ bs) := Lib.hid (by rw [← hX2]; exact HX1.out.sc _)
        have y20 := HX2.out.c0
        simp only at y20
        rw [show ((a - Q : Nat) : Int) = (a : Int) - (Q : Int) by omega] at y20
        have OX2 : Hid (Only P w X2) := Lib.hid (by rw [← hX2]; exact OX1.out.setCell (p := ⟨p, 1, none⟩) HE3.out.pp _)
        have blk2 : ∀ j, j ≠ p → X2.heap[j]? = X1.heap[j]? := fun j hj => by rw [← hX2]; exact Below.heap_setCell _ _ _ _ hj
        have HC2 := Lib.hid (HC1.out.keep (blk2 q hqp))
        have d12 := (World.cell?_of_block (w := X1) (a := ⟨q, k * 2 + 1, none⟩) (blk2 q hqp)).trans d1
        have x02 := (World.cell?_of_block (w := X1) (a := ⟨w2.heap.size, 0, none⟩) (blk2 w2.heap.size (Ne.symm hpb))).trans x0
        have x12 := (World.cell?_of_block (w := X1) (a := ⟨w2.heap.size, 1, none⟩) (blk2 w2.heap.size (Ne.symm hpb))).trans x1
        have x22 := (World.cell?_of_block (w := X1) (a := ⟨w2.heap.size, 2, none⟩) (blk2 w2.heap.size (Ne.symm hpb))).trans x2
        have x32 := (World.cell?_of_block (w := X1) (a := ⟨w2.heap.size, 3, none⟩) (blk2 w2.heap.size (Ne.symm hpb))).trans x3
        clear blk1 blk2
        have LK := Lib.hid (likely_any (a := Q) (b := mps i) (c := lps i) (d := swp i) HC2.out hk)
        have HGN : Hid (1 ≤ (a - Q) ∧ (a - Q) < 32768) := Lib.hid ⟨by omega, by omega⟩
        clear HE3 HC3 HC1 hlow hcase hcase2
        go_wp2_with fail
        refine LK.out.mono ?_
        rintro x W4 ⟨rfl, hc4, o4⟩
        have HE4 := Lib.hid (HX2.out.only o4 (fun j hj hPj e => by
          rcases e with e | e
          · exact HQ.out.1 (e ▸ hPj)
          · omega))
        have RN := Lib.hid (drenorm_any HE4.out HGN.out.1 HGN.out.2 HB.out.1 HB.out.2)
        have HC4 := Lib.hid hc4
        have O4 : Hid (Only (EC P q) w W4) := Lib.hid ((OX2.out.mono fun j hj => Or.inl hj).trans (o4.mono fun j hj => by
          rcases hj with hj | hj
          · exact Or.inr hj
          · exact Or.inl (HPn.out j (Nat.le_trans OX2.out.size hj))))
        clear LK hc4 o4 x0 x1 x2 x3 x02 x12 x22 x32 hX1 hX2 d1 d12 y0 y1 y0z y1z p0 p1 z0 z1
        go_wp2_with fail
        refine RN.out.mono ?_
        rintro x W5 ⟨rfl, he5, o5⟩
        have FIN : Hid (DW P W5 p _ _ ∧ Cb W5 q _ ∧ Only (EC P q) w W5) := Lib.hid ⟨he5, HC4.out.only o5 HQ.out.1, O4.out.trans (o5.mono fun j hj => Or.inl hj)⟩
        clear he5 o5 RN
        go_wp2
        go_ret
        exact ⟨rfl, FIN.out⟩
end Go.Proofs.YtdgkeghgfibolaaDoor
