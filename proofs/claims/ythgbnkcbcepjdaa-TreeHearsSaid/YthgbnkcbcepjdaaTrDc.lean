/- Trees: Decode, by its contract, beside other objects. -/
import Derived.Test.YthgbnkcbcepjdaaTrD
set_option linter.unusedVariables false
set_option linter.unusedSimpArgs false
namespace Go.Proofs.Ythgbnkcbcepjdaa
open Go.RowKit
set_option maxRecDepth 100000
/-- A Reader whose blocks are j's. -/
def RdO (o : Nat → Nat) (j : Nat) (w : World) (q : Nat) (F : List Int) (s : RS) : Prop := ∃ V, RbV w q V F s ∧ o q = j ∧ q < w.heap.size ∧ ∀ k, V.ownBlock = some k → o k = j ∧ k < w.heap.size
theorem RdO.other {o o' : Nat → Nat} {a x b q : Nat} {w w' : World} {F : List Int} {s : RS} (h : RdO o b w q F s) (hn : Onl o a x w w') (ho : ∀ k, k < w.heap.size → o' k = o k) (ha : b ≠ a) (hx : b ≠ x) : RdO o' b w' q F s := by
  obtain ⟨V, h1, h2, h3, h4⟩ := h
  refine ⟨V, h1.keep hn.size (hn.at h3 (by rw [h2]; exact ha) (by rw [h2]; exact hx)) (fun k hk => hn.at (h4 k hk).2 (by rw [(h4 k hk).1]; exact ha) (by rw [(h4 k hk).1]; exact hx)), (ho q h3).trans h2, Nat.lt_of_lt_of_le h3 hn.size, fun k hk => ⟨(ho k (h4 k hk).2).trans (h4 k hk).1, Nat.lt_of_lt_of_le (h4 k hk).2 hn.size⟩⟩
theorem RdO.below {o o' : Nat → Nat} {b q : Nat} {w w' : World} {F : List Int} {s : RS} (h : RdO o b w q F s) (hb : Below w.heap.size w w') (ho : ∀ k, k < w.heap.size → o' k = o k) : RdO o' b w' q F s := h.other (onl_below (a := b + 1) (x := b + 1) hb) ho (by omega) (by omega)
def DJ (F : List Int) (qr qb rp : Nat) (V : Value) (bound : Int) (s : RS) (w : World) : Prop := qb < w.heap.size ∧ rp < w.heap.size ∧ (∀ k, V.ownBlock = some k → k < w.heap.size) ∧ RbV w rp V F s ∧ s.l ≤ 8 ∧ w.cell? ⟨qr, 0, none⟩ = some (.pointer (some ⟨rp, 0, none⟩)) ∧ w.cell? ⟨qb, 0, none⟩ = some (.int .i64 bound)
theorem ask_dec {o : Nat → Nat} {a x : Nat} {w : World} {p L cl W0 H0 rp : Nat} {sh : Sh} {T : TT} {V : Value} {F : List Int} {bound : Int} (h : Tr w p L cl sh T) (hs : Shp W0 H0 sh) (h5 : ∀ k, TB p L sh k → o k = a) (hne : a ≠ x)
    (hl : F.length ≤ 80000) (hF : ∀ x ∈ F, 0 ≤ x ∧ x ≤ 255) (hb : -1 ≤ bound ∧ bound ≤ 500) (hrp : o rp = x ∧ rp < w.heap.size) (hV : ∀ k, V.ownBlock = some k → o k = x ∧ k < w.heap.size) :
    Ask RS 28 #[.pointer (some ⟨w.heap.size, 0, none⟩), .pointer (some ⟨w.heap.size + 1, 0, none⟩)] p L cl sh bound (dstep F bound) (DJ F w.heap.size (w.heap.size + 1) rp V bound) (fun s => s.n) (fun k => k < w.heap.size → o k = a ∨ o k = x) where
  ent := enters28
  keep := by
    rintro s w1 w2 ⟨h1, h2, h2', h3, h4, h6, h7⟩ hsz hk
    have hT : ∀ k, TB p L sh k → k < w.heap.size := fun k hk => h.lt hs.len.1 hk
    have hq : ¬ TB p L sh w.heap.size := fun e => by have := hT _ e; omega
    have hq1 : ¬ TB p L sh (w.heap.size + 1) := fun e => by have := hT _ e; omega
    have hr : ¬ TB p L sh rp := fun e => hne ((h5 _ e).symm.trans hrp.1)
    have hv : ∀ k, V.ownBlock = some k → ¬ TB p L sh k := fun k hk e => hne ((h5 _ e).symm.trans (hV k hk).1)
    have hqs : w.heap.size < w1.heap.size := by omega
    have c6 : w2.cell? ⟨w.heap.size, 0, none⟩ = w1.cell? ⟨w.heap.size, 0, none⟩ := World.cell?_of_block (w := w1) (hk _ hq hqs)
    have c7 : w2.cell? ⟨w.heap.size + 1, 0, none⟩ = w1.cell? ⟨w.heap.size + 1, 0, none⟩ := World.cell?_of_block (w := w1) (hk _ hq1 h1)
    exact ⟨by omega, by omega, fun k hk => Nat.lt_of_lt_of_le (h2' k hk) hsz, h3.keep hsz (hk _ hr h2) (fun k e => hk k (hv k e) (h2' k e)), h4, c6.trans h6, c7.trans h7⟩
  up := by
    intro s nd
    show (rsnext F s).n ≤ s.n + 1
    unfold rsnext pstep
    simp only
    split <;> simp
  no := by
    intro s nd he h0 hlb
    unfold dstep at *
    by_cases hb1 : rsbit F s = 1
    · simp [hb1] at he
    · simp only [hb1, if_false]
      split
      · refine ⟨?_, ?_⟩ <;> (try simp only) <;> omega
      · refine ⟨?_, ?_⟩ <;> (try simp only) <;> omega
  yes := by
    intro s nd he
    unfold dstep at *
    by_cases hb1 : rsbit F s = 1
    · simp [hb1]
    · simp [hb1] at he
  call := by
    rintro w1 s T i m W H I hT ⟨h1, h2, h2', h3, h4, h6, h7⟩ hi hm hsd hl0 hlb hms
    have hTl : ∀ k, TB p L sh k → k < w.heap.size := fun k hk => h.lt hs.len.1 hk
    refine (decOne (qr := w.heap.size) (qb := w.heap.size + 1) hT hs.len.1 hi hm h3 hl hms h4 hF hb h6 h7 (fun k hk => ⟨fun e => hne ((h5 _ hk).symm.trans (e ▸ hrp.1)), fun e => hne ((h5 _ hk).symm.trans (hV k e).1)⟩) (by omega)).mono ?_
    rintro e w2 ⟨rfl, hT2, hv2, ho⟩
    have kq : ∀ q, w.heap.size ≤ q → w2.heap[q]? = w1.heap[q]? := fun q hq => ho.block q (fun e => by
      rcases e with e | e
      · omega
      · have := hTl q e; omega)
    refine ⟨rfl, hT2, ⟨Nat.lt_of_lt_of_le h1 ho.size, Nat.lt_of_lt_of_le h2 ho.size, fun k hk => Nat.lt_of_lt_of_le (h2' k hk) ho.size, hv2, Nat.le_trans (rsnext_rng F s h4).1 (by omega), (World.cell?_of_block (w := w1) (kq _ (by show _ ≤ w.heap.size; omega))).trans h6, (World.cell?_of_block (w := w1) (kq _ (by show _ ≤ w.heap.size + 1; omega))).trans h7⟩, ho.mono (fun k hk _ => ?_)⟩
    rcases hk with rfl | e
    · exact .inr hrp.1
    · exact .inl (h5 k e)
  pt := fun k hk _ => .inl (h5 k hk)
def decM (F : List Int) (bound : Int) (W0 d k : Nat) (s : RS) (T : TT) : RS × TT × Int := walkT (dstep F bound) bound (bound.toNat + 2) W0 (k % W0) (k / W0) d (s, T, 0)
/-- What is known of a leaf. -/
def knF (T : TT) (k : Nat) : Int := if (T 0 k).said then (T 0 k).num else -1
set_option maxHeartbeats 2000000 in
theorem dec_o {o : Nat → Nat} {a x : Nat} {w : World} {p W0 H0 d q k : Nat} {T : TT} {F : List Int} {s : RS} (ha : TrO o a w p W0 H0 d T) (hx : RdO o x w q F s) (hne : a ≠ x) (hk : k < W0 * H0) (bound : Int) (hb : -1 ≤ bound ∧ bound ≤ 500)
    (hl : F.length ≤ 80000) (hF : ∀ x ∈ F, 0 ≤ x ∧ x ≤ 255) (hsl : s.l ≤ 8) (hn : s.n + d * (bound.toNat + 2) ≤ 80000) :
    Calls Try.prog 14 #[.pointer (some ⟨p, 0, none⟩), .pointer (some ⟨q, 0, none⟩), .int .i64 (k : Int), .int .i64 bound] w fun e w' => e = .returned (.bool (decide (0 ≤ knF (decM F bound W0 d k s T).2.1 k) && decide (knF (decM F bound W0 d k s T).2.1 k < bound))) ∧ TrO (onew o w x) a w' p W0 H0 d (decM F bound W0 d k s T).2.1 ∧ RdO (onew o w x) x w' q F (decM F bound W0 d k s T).1 ∧ Onl o a x w w' := by
  obtain ⟨L, cl, sh, h1, h2, rfl, h4, h5⟩ := ha
  obtain ⟨V, r1, r2, r3, r4⟩ := hx
  have hA := ask_dec (bound := bound) h1 h2 h5 hne hl hF hb ⟨r2, r3⟩ r4
  have hTl : ∀ k, TB p L sh k → k < w.heap.size := fun k hk => h1.lt h2.len.1 hk
  obtain ⟨W1, hW1⟩ : ∃ W1, (w.alloc (Obj.cells #[.pointer (some ⟨q, 0, none⟩)] 30)).alloc (Obj.cells #[.int .i64 bound] 3) = W1 := ⟨_, rfl⟩
  have hB1 : Below w.heap.size w W1 := by rw [← hW1]; exact ((Below.refl _ w).alloc (Nat.le_refl _) _).alloc (by simp) _
  have hs1 : W1.heap.size = w.heap.size + 1 + 1 := by rw [← hW1]; simp
  have hz : (w.alloc (Obj.cells #[.pointer (some ⟨q, 0, none⟩)] 30)).heap.size = w.heap.size + 1 := by simp
  have hq1 : W1.heap[w.heap.size]? = some (.cells #[.pointer (some ⟨q, 0, none⟩)] 30 (0, 0)) := by rw [← hW1, Below.heap_alloc _ _ _ (by simp)]; exact World.alloc_heap_new w _
  have hq2 : W1.heap[w.heap.size + 1]? = some (.cells #[.int .i64 bound] 3 (0, 0)) := by rw [← hW1, ← hz]; exact World.alloc_heap_new _ _
  have hJ : DJ F w.heap.size (w.heap.size + 1) q V bound s W1 :=
    ⟨by omega, by omega, fun k hk => by have := (r4 k hk).2; omega, r1.keep hB1.size (hB1.block _ r3) (fun k hk => hB1.block k (r4 k hk).2), hsl, by simp [World.cell?, hq1], by simp [World.cell?, hq2]⟩
  have hC := walk_tr hA (h1.below h2.len.1 hB1) h2 hk hb hJ h4 hn (fun b hb' => fun hb2 => by omega)
  have HC := Lib.hid hC
  have HW1 := Lib.hid hW1
  have HK := Lib.hid hk
  have qc : W1.cell? ⟨w.heap.size + 1, 0, none⟩ = some (.int .i64 bound) := by simp [World.cell?, hq2]
  clear hC hA hJ hW1 hq1 hz
  go_enter Try.func14, Try.ntmps14
  go_wp2_with fail
  rw [HW1.out]
  refine HC.out.mono ?_
  rintro e w2 ⟨rfl, hT, ⟨hj1, hj2, hj3, hv, hj4, _, hcb⟩, ho, hlo, hlen⟩
  have hOn : Onl o a x w w2 := ((Only.refl _ w).trans ⟨hB1.os, hB1.tape, hB1.output, hB1.size, fun k hk => hB1.block k (by
    rcases Nat.lt_or_ge k w.heap.size with e | e
    · exact e
    · exact absurd (fun h => absurd h (by omega)) hk)⟩).trans ho
  have HT : Hid (TrO (onew o w x) a w2 p W0 H0 sh.length (decM F bound W0 sh.length k s T).2.1) := Lib.hid ⟨L, cl, sh, hT, h2, rfl, hlo, fun k hk => (onew_old o w x k (hTl k hk)).trans (h5 k hk)⟩
  have HR : Hid (RdO (onew o w x) x w2 q F (decM F bound W0 sh.length k s T).1) := Lib.hid ⟨V, hv, (onew_old o w x q r3).trans r2, hj2, fun k hk => ⟨(onew_old o w x k (r4 k hk).2).trans (r4 k hk).1, hj3 k hk⟩⟩
  have HO := Lib.hid hOn
  have hkn := known_o HT.out HK.out
  have KN : Hid (Calls Try.prog 16 #[.pointer (some ⟨p, 0, none⟩), .int .i64 (k : Int)] w2 fun e w' => e = .returned (.int .i64 (knF (decM F bound W0 sh.length k s T).2.1 k)) ∧ Below w2.heap.size w2 w') := Lib.hid hkn
  clear hT hv ho hlo hlen hOn h1 h2 h4 h5 hkn hj3 HC qc hq2
  obtain ⟨D, hD⟩ : ∃ D, decM F bound W0 sh.length k s T = D := ⟨_, rfl⟩
  obtain ⟨kv, hkv⟩ : ∃ kv, knF D.2.1 k = kv := ⟨_, rfl⟩
  rw [hD] at HT HR KN
  rw [hkv] at KN
  have HD := Lib.hid hD
  have HKV := Lib.hid hkv
  clear hD hkv
  go_wp2_with fail
  refine KN.out.mono ?_
  rintro e w3 ⟨rfl, hb3⟩
  have hcb3 : w3.cell? ⟨w.heap.size + 1, 0, none⟩ = some (.int .i64 bound) := (hb3.cell (p := ⟨w.heap.size + 1, 0, none⟩) hj1).trans hcb
  have HF : Hid (TrO (onew o w x) a w3 p W0 H0 sh.length D.2.1 ∧ RdO (onew o w x) x w3 q F D.1 ∧ Onl o a x w w3) := Lib.hid ⟨HT.out.below hb3 (fun _ _ => rfl), HR.out.below hb3 (fun _ _ => rfl), HO.out.trans ⟨hb3.os, hb3.tape, hb3.output, hb3.size, fun k hk => hb3.block k (by
    rcases Nat.lt_or_ge k w2.heap.size with e | e
    · exact e
    · exact absurd (fun h => by have := HO.out.size; omega) hk)⟩⟩
  clear hb3 hcb
  by_cases c1 : 0 ≤ kv
  · have e1 : decide ((0 : Int) ≤ kv) = true := by simp [c1]
    go_wp2
    go_ret
    exact ⟨ret_bool (by rw [HD.out, HKV.out, e1]; rfl), by rw [HD.out]; exact HF.out⟩
  · have e1 : decide ((0 : Int) ≤ kv) = false := by simp; omega
    go_wp2
    go_ret
    exact ⟨ret_bool (by rw [HD.out, HKV.out, e1]; rfl), by rw [HD.out]; exact HF.out⟩
end Go.Proofs.Ythgbnkcbcepjdaa
