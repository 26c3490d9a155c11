/- Trees: reading, with the bytes named; Decode. -/
import Derived.Test.YthgbnkcbcepjdaaTrZ
import Derived.Test.YthgbnkcbcepjdaaTrKn
set_option linter.unusedVariables false
set_option linter.unusedSimpArgs false
namespace Go.Proofs.Ythgbnkcbcepjdaa
open Go.RowKit
set_option maxRecDepth 100000
/-- Block p is a Reader of the bytes F, which lie at V. -/
def RbV (w : World) (p : Nat) (V : Value) (F : List Int) (s : RS) : Prop :=
  w.heap[p]? = some (.cells #[V, .int .i64 (s.n : Int), .int .i64 (s.l : Int), .bool s.bad] 73 (0, 0)) ∧ w.ownsRow 0 5 1 V F.length (F.map (Value.int .u8))
theorem RbV.rb {w : World} {p : Nat} {V : Value} {F : List Int} {s : RS} (h : RbV w p V F s) : Rb w 0 p F s := ⟨Nat.zero_le _, V, h.1, h.2⟩
theorem RbV.keep {w w' : World} {p : Nat} {V : Value} {F : List Int} {s : RS} (h : RbV w p V F s) (hs : w.heap.size ≤ w'.heap.size) (hp : w'.heap[p]? = w.heap[p]?) (hV : ∀ k, V.ownBlock = some k → w'.heap[k]? = w.heap[k]?) : RbV w' p V F s := ⟨hp.trans h.1, ownsRow_keep h.2 hs hV⟩
set_option maxHeartbeats 4000000 in
theorem rbv_bit {w : World} {p : Nat} {V : Value} {F : List Int} {s : RS} (h : RbV w p V F s) (hl : F.length ≤ 100000) (h1 : s.n ≤ 90000) (h2 : s.l ≤ 8) (hF : ∀ x ∈ F, 0 ≤ x ∧ x ≤ 255) :
    Calls Try.prog 24 #[.pointer (some ⟨p, 0, none⟩)] w fun e w' => e = .returned (.int .i64 (rsbit F s)) ∧ RbV w' p V F (rsnext F s) ∧ Only (· = p) w w' := by
  obtain ⟨n, l, bad⟩ := s
  obtain ⟨hb, hown⟩ := h
  simp only at h1 h2
  have hVp := blk_not_row hb (by decide) hown
  have hps := pstep_rng F (n, l) h2
  unfold rsbit rsnext
  simp only
  have CU := Lib.hid (current_any (w := w) (p := p) (n := n) (V := V) (F := F) (by have := blk_cell hb 0; simpa using this) (by have := blk_cell hb 1; simpa using this) hown hl (by omega))
  have PA : Hid (∀ w2 : World, w2.heap[p]? = some (.cells #[V, .int .i64 (n : Int), .int .i64 (l : Int), .bool bad] 73 (0, 0)) → w2.ownsRow 0 5 1 V F.length (F.map (Value.int .u8)) → Calls Try.prog 40 #[.pointer (some ⟨p, 0, none⟩)] w2 fun e w' => e = .returned (.int .i64 ((pstep F (n, l)).2 : Int)) ∧ w'.heap[p]? = some (.cells #[V, .int .i64 ((pstep F (n, l)).1 : Int), .int .i64 ((pstep F (n, l)).2 : Int), .bool bad] 73 (0, 0)) ∧ w'.ownsRow 0 5 1 V F.length (F.map (Value.int .u8)) ∧ Only (· = p) w2 w') := Lib.hid (fun w2 a b => passR a b hl (by omega) h2)
  generalize pstep F (n, l) = q at *
  obtain ⟨n1, l1⟩ := q
  simp only at hps PA ⊢
  have CU2 : Hid (∀ w2 : World, w2.heap[p]? = some (.cells #[V, .int .i64 (n1 : Int), .int .i64 (l1 : Int), .bool bad] 73 (0, 0)) → w2.ownsRow 0 5 1 V F.length (F.map (Value.int .u8)) → Calls Try.prog 33 #[.pointer (some ⟨p, 0, none⟩)] w2 fun e w' => e = .returned (.int .u8 (curF F n1)) ∧ Drew w2 w') := Lib.hid (fun w2 a b => current_any (w := w2) (p := p) (n := n1) (V := V) (F := F) (by have := blk_cell a 0; simpa using this) (by have := blk_cell a 1; simpa using this) b hl (by omega))
  have hx := curF_rng hF n1
  generalize curF F n1 = x at *
  generalize curF F n = y at *
  have hand := and_bit (x / 2 ^ l1)
  have q0 : 0 ≤ x / 2 ^ l1 := Int.ediv_nonneg hx.1 (by have := pow_pos' l1; omega)
  have q1 : x / 2 ^ l1 ≤ x := Int.ediv_le_self _ hx.1
  have HB := Lib.hid hb
  have HO := Lib.hid hown
  have HND := Lib.hid hand
  clear hb hown hand
  by_cases h0 : l = 0
  · subst h0
    have FO := Lib.hid (fun w2 => follows_any w2 y x)
    by_cases hbd : (decide (y = 255) && decide (128 ≤ x)) = true
    · go_enter Try.func24, Try.ntmps24
      go_wp2_with fail
      refine CU.out.mono ?_
      rintro e w1 ⟨rfl, dn, hd⟩
      have HB1 : Hid (w1.heap[p]? = some (.cells #[V, .int .i64 (n : Int), .int .i64 (0 : Int), .bool bad] 73 (0, 0))) := by rw [hd]; exact HB.out
      have HO1 : Hid (w1.ownsRow 0 5 1 V F.length (F.map (Value.int .u8))) := by rw [hd]; exact HO.out
      have B1 : Only (· = p) w w1 := by rw [hd]; exact only_drewN (Only.refl _ _) dn
      have c2 := blk_cell HB1.out 2
      simp at c2
      clear hd HB HO CU
      go_wp2_with fail
      refine (PA.out _ HB1.out HO1.out).mono ?_
      rintro e w2 ⟨rfl, hb2, ho2, B2⟩
      have B2 := B1.trans B2
      have HB2 := Lib.hid hb2
      have HO2 := Lib.hid ho2
      clear hb2 ho2 HB1 HO1 B1 PA c2
      go_wp2_with fail
      refine (CU2.out _ HB2.out HO2.out).mono ?_
      rintro e w3 ⟨rfl, dn, hd⟩
      have HB3 : Hid (w3.heap[p]? = some (.cells #[V, .int .i64 (n1 : Int), .int .i64 (l1 : Int), .bool bad] 73 (0, 0))) := by rw [hd]; exact HB2.out
      have HO3 : Hid (w3.ownsRow 0 5 1 V F.length (F.map (Value.int .u8))) := by rw [hd]; exact HO2.out
      have B3 : Only (· = p) w w3 := by rw [hd]; exact only_drewN B2 dn
      clear hd HB2 HO2 B2 CU2
      have z3 := blk_frozen HB3.out 3
      have c3 := blk_cell HB3.out 3
      simp at c3
      go_wp2_with fail
      refine (FO.out _).mono ?_
      rintro e w3' ⟨rfl, rfl⟩
      rw [hbd]
      have e4b := blk_set HB3.out 3 (.bool true)
      have e4o := ownsRow_setCell_other HO3.out (a := ⟨p, 3, none⟩) hVp (.bool true)
      have B4 := B3.setCell (p := ⟨p, 3, none⟩) (show p = p from rfl) (.bool true)
      generalize e4w : w3.setCell ⟨p, 3, none⟩ (.bool true) = W4 at *
      have HB4 : Hid (W4.heap[p]? = some (.cells #[V, .int .i64 (n1 : Int), .int .i64 (l1 : Int), .bool true] 73 (0, 0))) := e4b
      have HO4 := Lib.hid e4o
      clear e4b e4o HB3 HO3 B3 FO
      go_wp2
      go_ret
      refine ⟨ret_i64 ?_, ⟨?_, HO4.out⟩, B4⟩
      · rw [← HND.out]
      · have key : ∀ b', b' = true → W4.heap[p]? = some (.cells #[V, .int .i64 (n1 : Int), .int .i64 (l1 : Int), .bool b'] 73 (0, 0)) := fun b' hb' => by rw [hb']; exact HB4.out
        exact key _ (by simp at hbd; simp [hbd])
    · have hbd : (decide (y = 255) && decide (128 ≤ x)) = false := by simpa using hbd
      go_enter Try.func24, Try.ntmps24
      go_wp2_with fail
      refine CU.out.mono ?_
      rintro e w1 ⟨rfl, dn, hd⟩
      have HB1 : Hid (w1.heap[p]? = some (.cells #[V, .int .i64 (n : Int), .int .i64 (0 : Int), .bool bad] 73 (0, 0))) := by rw [hd]; exact HB.out
      have HO1 : Hid (w1.ownsRow 0 5 1 V F.length (F.map (Value.int .u8))) := by rw [hd]; exact HO.out
      have B1 : Only (· = p) w w1 := by rw [hd]; exact only_drewN (Only.refl _ _) dn
      have c2 := blk_cell HB1.out 2
      simp at c2
      clear hd HB HO CU
      go_wp2_with fail
      refine (PA.out _ HB1.out HO1.out).mono ?_
      rintro e w2 ⟨rfl, hb2, ho2, B2⟩
      have B2 := B1.trans B2
      have HB2 := Lib.hid hb2
      have HO2 := Lib.hid ho2
      clear hb2 ho2 HB1 HO1 B1 PA c2
      go_wp2_with fail
      refine (CU2.out _ HB2.out HO2.out).mono ?_
      rintro e w3 ⟨rfl, dn, hd⟩
      have HB3 : Hid (w3.heap[p]? = some (.cells #[V, .int .i64 (n1 : Int), .int .i64 (l1 : Int), .bool bad] 73 (0, 0))) := by rw [hd]; exact HB2.out
      have HO3 : Hid (w3.ownsRow 0 5 1 V F.length (F.map (Value.int .u8))) := by rw [hd]; exact HO2.out
      have B3 : Only (· = p) w w3 := by rw [hd]; exact only_drewN B2 dn
      clear hd HB2 HO2 B2 CU2
      go_wp2_with fail
      refine (FO.out _).mono ?_
      rintro e w3' ⟨rfl, rfl⟩
      rw [hbd]
      go_wp2
      go_ret
      refine ⟨ret_i64 ?_, ⟨?_, HO3.out⟩, B3⟩
      · rw [← HND.out]
      · have key : ∀ b', b' = bad → w3.heap[p]? = some (.cells #[V, .int .i64 (n1 : Int), .int .i64 (l1 : Int), .bool b'] 73 (0, 0)) := fun b' hb' => by rw [hb']; exact HB3.out
        exact key _ (by simp at hbd; simp; intro h1 h2; have := hbd h1; omega)
  · have hlb : ((l : Int) == 0) = false := by simpa using h0
    go_enter Try.func24, Try.ntmps24
    go_wp2_with fail
    refine CU.out.mono ?_
    rintro e w1 ⟨rfl, dn, hd⟩
    have HB1 : Hid (w1.heap[p]? = some (.cells #[V, .int .i64 (n : Int), .int .i64 (l : Int), .bool bad] 73 (0, 0))) := by rw [hd]; exact HB.out
    have HO1 : Hid (w1.ownsRow 0 5 1 V F.length (F.map (Value.int .u8))) := by rw [hd]; exact HO.out
    have B1 : Only (· = p) w w1 := by rw [hd]; exact only_drewN (Only.refl _ _) dn
    have c2 := blk_cell HB1.out 2
    simp at c2
    clear hd HB HO CU
    go_wp2_with fail
    refine (PA.out _ HB1.out HO1.out).mono ?_
    rintro e w2 ⟨rfl, hb2, ho2, B2⟩
    have B2 := B1.trans B2
    have HB2 := Lib.hid hb2
    have HO2 := Lib.hid ho2
    clear hb2 ho2 HB1 HO1 B1 PA c2
    go_wp2_with fail
    refine (CU2.out _ HB2.out HO2.out).mono ?_
    rintro e w3 ⟨rfl, dn, hd⟩
    have HB3 : Hid (w3.heap[p]? = some (.cells #[V, .int .i64 (n1 : Int), .int .i64 (l1 : Int), .bool bad] 73 (0, 0))) := by rw [hd]; exact HB2.out
    have HO3 : Hid (w3.ownsRow 0 5 1 V F.length (F.map (Value.int .u8))) := by rw [hd]; exact HO2.out
    have B3 : Only (· = p) w w3 := by rw [hd]; exact only_drewN B2 dn
    clear hd HB2 HO2 B2 CU2
    go_wp2
    go_ret
    refine ⟨ret_i64 ?_, ⟨?_, HO3.out⟩, B3⟩
    · rw [← HND.out]
    · rw [show (bad || (decide (l = 0) && decide (y = 255) && decide (128 ≤ x))) = bad from by simp [h0]]
      exact HB3.out

/-- What Decode's question does. -/
def dstep (F : List Int) (bound : Int) (s : RS) (nd : Nd) : Bool × Nd × RS :=
  (decide (rsbit F s = 1), if rsbit F s = 1 then ⟨nd.low, nd.low, nd.said⟩ else ⟨nd.num, if endE F (rsnext F s) = 8 then bound - 1 else nd.low, nd.said⟩, rsnext F s)
theorem enters28 : Enters Try.prog 28 := enters_of Try.func28 (by kernel_rfl) rfl
set_option maxHeartbeats 4000000 in
theorem decOne {w : World} {p L cl qr qb rp i m W H I : Nat} {sh : Sh} {T : TT} {V : Value} {F : List Int} {s : RS} {bound : Int} (hT : Tr w p L cl sh T) (hl1 : 1 ≤ sh.length) (hi : sh[i]? = some (W, H, I)) (hm : m < W * H) (h : RbV w rp V F s)
    (hl : F.length ≤ 80000) (h1 : s.n ≤ 80000) (h2 : s.l ≤ 8) (hF : ∀ x ∈ F, 0 ≤ x ∧ x ≤ 255) (hb : -1 ≤ bound ∧ bound ≤ 500)
    (q0 : w.cell? ⟨qr, 0, none⟩ = some (.pointer (some ⟨rp, 0, none⟩))) (q1 : w.cell? ⟨qb, 0, none⟩ = some (.int .i64 bound)) (hr : ∀ k, TB p L sh k → k ≠ rp ∧ V.ownBlock ≠ some k) (hq : qr ≠ rp ∧ qb ≠ rp) :
    Calls Try.prog 28 #[.pointer (some ⟨I, m * 3, none⟩), .pointer (some ⟨qr, 0, none⟩), .pointer (some ⟨qb, 0, none⟩)] w fun e w' => e = .returned (.bool (dstep F bound s (T i m)).1) ∧ Tr w' p L cl sh (T.upd i m (dstep F bound s (T i m)).2.1) ∧ RbV w' rp V F (rsnext F s) ∧ Only (fun k => k = rp ∨ TB p L sh k) w w' := by
  have hbt := rsbit_rng F s
  have hsn := rsnext_rng F s h2
  have CB := Lib.hid (rbv_bit h (by omega) (by omega) h2 hF)
  have CE := Lib.hid (fun (u : World) (hu : RbV u rp V F (rsnext F s)) => rb_end hu.rb (by omega) (by omega))
  have HT := Lib.hid hT
  have HI := Lib.hid hi
  have HM := Lib.hid hm
  have HR := Lib.hid hr
  have htl := fun k (hk : TB p L sh k) => hT.lt hl1 hk
  have HTL := Lib.hid htl
  have HQ1 := Lib.hid q1
  by_cases hb1 : rsbit F s = 1
  · have e0 : dstep F bound s (T i m) = (true, ⟨(T i m).low, (T i m).low, (T i m).said⟩, rsnext F s) := by simp [dstep, hb1]
    rw [e0]
    simp only
    have e1 : (rsbit F s == 1) = true := by simp [hb1]
    rw [hb1] at CB
    have hb1H := Lib.hid hb1
    clear hb1 e1 hT hi hm hr h e0 htl q1
    go_enter Try.func28, Try.ntmps28
    go_wp2_with fail
    refine CB.out.mono ?_
    rintro e w1 ⟨rfl, hv, ho⟩
    have hT1 : Tr w1 p L cl sh T := HT.out.keep fun k hk => ho.block k (fun e => (HR.out k hk).1 e)
    obtain ⟨c0, c1, c2, cf⟩ := hT1.cells HI.out HM.out
    have kf := cf (m * 3)
    have HT2 := Lib.hid (hT1.setNum HI.out HM.out (T i m).low)
    have hTB : TB p L sh I := .inr (.inr ⟨i, _, HI.out, rfl⟩)
    have HV2 : Hid (RbV (w1.setCell ⟨I, m * 3, none⟩ (.int .i64 (T i m).low)) rp V F (rsnext F s)) := Lib.hid (hv.keep (by simp [World.setCell]) (Below.heap_setCell _ _ _ _ (by have := (HR.out I hTB).1; simp; omega)) (fun k hk => Below.heap_setCell _ _ _ _ (by intro e; exact (HR.out I hTB).2 (by rw [hk, show k = I from e]))))
    have HO2 : Hid (Only (fun k => k = rp ∨ TB p L sh k) w (w1.setCell ⟨I, m * 3, none⟩ (.int .i64 (T i m).low))) := Lib.hid ((ho.mono (fun k hk => .inl hk)).setCell (.inr hTB) _)
    clear hv ho hT1 cf hTB q0
    go_wp2
    go_ret
    exact ⟨rfl, HT2.out, HV2.out, HO2.out⟩
  · have hb0 : rsbit F s = 0 := by omega
    rw [hb0] at CB
    by_cases hcut : endE F (rsnext F s) = 8
    · have e0 : dstep F bound s (T i m) = (false, ⟨(T i m).num, bound - 1, (T i m).said⟩, rsnext F s) := by simp [dstep, hb1, hcut]
      rw [e0]
      simp only
      rw [hcut] at CE
      clear hb1 hb0 hcut hT hi hm hr h e0 htl q1
      go_enter Try.func28, Try.ntmps28
      go_wp2_with fail
      refine CB.out.mono ?_
      rintro e w1 ⟨rfl, hv, ho⟩
      have q0' : w1.cell? ⟨qr, 0, none⟩ = some (.pointer (some ⟨rp, 0, none⟩)) := (ho.cell (p := ⟨qr, 0, none⟩) (by simpa using hq.1)).trans q0
      have HV := Lib.hid hv
      have HO := Lib.hid ho
      clear hv ho q0
      go_wp2_with fail
      refine (CE.out _ HV.out).mono ?_
      rintro e w2 ⟨rfl, dn, rfl⟩
      have hT1 : Tr (w1.drewN dn) p L cl sh T := HT.out.keep fun k hk => HO.out.block k (fun e => (HR.out k hk).1 e)
      obtain ⟨c0, c1, c2, cf⟩ := hT1.cells HI.out HM.out
      have kf := cf (m * 3 + 1)
      have q1' : (w1.drewN dn).cell? ⟨qb, 0, none⟩ = some (.int .i64 bound) := (HO.out.cell (p := ⟨qb, 0, none⟩) (by simpa using hq.2)).trans HQ1.out
      have HT2 := Lib.hid (hT1.setLow HI.out HM.out (bound - 1))
      have hTB : TB p L sh I := .inr (.inr ⟨i, _, HI.out, rfl⟩)
      have HV2 : Hid (RbV ((w1.drewN dn).setCell ⟨I, m * 3 + 1, none⟩ (.int .i64 (bound - 1))) rp V F (rsnext F s)) := Lib.hid (HV.out.keep (w' := (w1.drewN dn).setCell ⟨I, m * 3 + 1, none⟩ (.int .i64 (bound - 1))) (by simp [World.setCell, World.drewN]) (Below.heap_setCell (w1.drewN dn) _ _ _ (by have := (HR.out I hTB).1; simp; omega)) (fun k hk => Below.heap_setCell (w1.drewN dn) _ _ _ (by intro e; exact (HR.out I hTB).2 (by rw [hk, show k = I from e]))))
      have HO2 : Hid (Only (fun k => k = rp ∨ TB p L sh k) w ((w1.drewN dn).setCell ⟨I, m * 3 + 1, none⟩ (.int .i64 (bound - 1)))) := Lib.hid ((only_drewN (HO.out.mono (fun k hk => .inl hk)) dn).setCell (.inr hTB) _)
      clear hT1 cf hTB q0' HO HV
      go_wp2
      go_ret
      exact ⟨rfl, HT2.out, HV2.out, HO2.out⟩
    · have e0 : dstep F bound s (T i m) = (false, T i m, rsnext F s) := by simp [dstep, hb1, hcut]
      rw [e0]
      simp only [TT.upd_same]
      obtain ⟨ee, hee⟩ : ∃ ee, endE F (rsnext F s) = ee := ⟨_, rfl⟩
      rw [hee] at CE hcut
      have e8 : (ee == 8) = false := by simp [hcut]
      have e8' : decide (ee = 8) = false := by simp [hcut]
      clear hb1 hb0 hcut hT hi hm hr h e0 htl q1 hee
      go_enter Try.func28, Try.ntmps28
      go_wp2_with fail
      refine CB.out.mono ?_
      rintro e w1 ⟨rfl, hv, ho⟩
      have q0' : w1.cell? ⟨qr, 0, none⟩ = some (.pointer (some ⟨rp, 0, none⟩)) := (ho.cell (p := ⟨qr, 0, none⟩) (by simpa using hq.1)).trans q0
      have HV := Lib.hid hv
      have HO := Lib.hid ho
      clear hv ho q0
      go_wp2_with fail
      refine (CE.out _ HV.out).mono ?_
      rintro e w2 ⟨rfl, dn, rfl⟩
      have HT1 : Hid (Tr (w1.drewN dn) p L cl sh T) := Lib.hid (HT.out.keep fun k hk => HO.out.block k (fun e => (HR.out k hk).1 e))
      have HV2 : Hid (RbV (w1.drewN dn) rp V F (rsnext F s)) := Lib.hid HV.out
      have HO2 : Hid (Only (fun k => k = rp ∨ TB p L sh k) w (w1.drewN dn)) := Lib.hid (only_drewN (HO.out.mono (fun k hk => .inl hk)) dn)
      clear q0' HO HV
      go_wp2
      go_ret
      exact ⟨rfl, HT1.out, HV2.out, HO2.out⟩
end Go.Proofs.Ythgbnkcbcepjdaa
