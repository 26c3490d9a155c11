/- packet: the head of a packet that says nothing; Decode of it. -/
import Derived.Test.YtobbkdhndojggaaPkE
set_option linter.unusedVariables false
set_option linter.unusedSimpArgs false
namespace Go.Proofs.Ytobbkdhndojggaa
open Go.RowKit
set_option maxRecDepth 100000
def RHead (w : World) (rp p : Nat) (st ly : Int) : Prop := w.heap[rp]? = some (.cells #[.pointer (some ⟨p, 0, none⟩), .int .i64 st, .int .i64 ly, .slice none 0 0] 107 (0, 0))
theorem rb_below {w w' : World} {lo p : Nat} {F : List Int} {s : RS} (h : Rb w lo p F s) (hb : Below w.heap.size w w') : Rb w' lo p F s := by
  obtain ⟨q1, V, q2, q3⟩ := h
  exact ⟨q1, V, (hb.block _ (blk_lt q2)).trans q2, ownsRow_keep q3 hb.size fun k hk => hb.block _ (own_lt q3 hk).2⟩
set_option maxHeartbeats 4000000 in
theorem head0 {w : World} {rp p lo A : Nat} {st ly : Int} {F : List Int} {s : RS} (hr : RHead w rp p st ly) (h : Rb w lo p F s) (hne : rp ≠ p) (hb : rsbit F s = 0) (hl : F.length ≤ 100000) (h1 : s.n ≤ 90000) (h2 : s.l ≤ 8) (hF : ∀ x ∈ F, 0 ≤ x ∧ x ≤ 255) :
    Calls Try.prog 43 #[.pointer (some ⟨rp, 0, none⟩), .slice (some ⟨A, 0, none⟩) 1 1] w fun e w' => e = .returned (.bool true) ∧ Rb w' lo p F (rsnext F s) ∧ Only (fun k => k = p ∨ w.heap.size ≤ k) w w' := by
  obtain ⟨W2, hW2⟩ : ∃ W2, (w.alloc (Obj.cells #[.pointer (some ⟨rp, 0, none⟩)] 101)).alloc (Obj.cells #[.bool false] 4) = W2 := ⟨_, rfl⟩
  have hz1 : (w.alloc (Obj.cells #[.pointer (some ⟨rp, 0, none⟩)] 101)).heap.size = w.heap.size + 1 := by simp
  have b1 : W2.heap[w.heap.size]? = some (.cells #[.pointer (some ⟨rp, 0, none⟩)] 101 (0, 0)) := by rw [← hW2, Below.heap_alloc _ _ _ (by simp)]; exact World.alloc_heap_new w _
  have b2 : W2.heap[w.heap.size + 1]? = some (.cells #[.bool false] 4 (0, 0)) := by rw [← hW2, ← hz1]; exact World.alloc_heap_new _ _
  have hB2 : Below w.heap.size w W2 := by rw [← hW2]; exact ((Below.refl _ w).alloc (Nat.le_refl _) _).alloc (by simp) _
  have hrl : rp < w.heap.size := blk_lt (by unfold RHead at hr; exact hr)
  have hpl := h.lt
  have hr2 : RHead W2 rp p st ly := by unfold RHead at hr ⊢; exact (hB2.block _ hrl).trans hr
  have hR2 := rb_below h hB2
  have k0 : W2.cell? ⟨w.heap.size, 0, none⟩ = some (.pointer (some ⟨rp, 0, none⟩)) := blk_cell b1 0
  have k1 : W2.cell? ⟨rp, 0, none⟩ = some (.pointer (some ⟨p, 0, none⟩)) := by unfold RHead at hr2; exact blk_cell hr2 0
  have CB := Lib.hid (rb_bit hR2 hl h1 h2 hF)
  rw [hb] at CB
  have HB2 := Lib.hid b2
  have HBB := Lib.hid hB2
  clear hz1 b1 b2 hB2 hr hr2 h hR2 hb
  go_enter Try.func43, Try.ntmps43
  go_wp2_with fail
  try rw [hW2]
  clear hW2
  refine CB.out.mono ?_
  rintro e w3 ⟨rfl, hv, ho⟩
  have b3 : w3.heap[w.heap.size + 1]? = some (.cells #[.bool false] 4 (0, 0)) := (ho.block _ (by omega)).trans HB2.out
  have j0 : w3.cell? ⟨w.heap.size + 1, 0, none⟩ = some (.bool false) := blk_cell b3 0
  have jf : w3.frozen? ⟨w.heap.size + 1, 0, none⟩ = false := blk_frozen b3 0
  have b4 := blk_set b3 0 (.bool true)
  have j1 : (w3.setCell ⟨w.heap.size + 1, 0, none⟩ (.bool true)).cell? ⟨w.heap.size + 1, 0, none⟩ = some (.bool true) := blk_cell b4 0
  have HO : Hid (Only (fun k => k = p ∨ w.heap.size ≤ k) w (w3.setCell ⟨w.heap.size + 1, 0, none⟩ (.bool true))) := Lib.hid ((((⟨HBB.out.os, HBB.out.tape, HBB.out.output, HBB.out.size, fun k hk => HBB.out.block k (by
    rcases Nat.lt_or_ge k w.heap.size with e | e
    · exact e
    · exact absurd (.inr e) hk)⟩ : Only (fun k => k = p ∨ w.heap.size ≤ k) w W2).trans (ho.mono fun k e => .inl e))).setCell (p := ⟨w.heap.size + 1, 0, none⟩) (.inr (by show w.heap.size ≤ w.heap.size + 1; omega)) _)
  have HV : Hid (Rb (w3.setCell ⟨w.heap.size + 1, 0, none⟩ (.bool true)) lo p F (rsnext F s)) := Lib.hid (by
    obtain ⟨q1, V, q2, q3⟩ := hv
    refine ⟨q1, V, (Below.heap_setCell _ _ _ _ (by simp; omega)).trans q2, ownsRow_keep q3 (by simp [World.setCell]) fun k hk => Below.heap_setCell _ _ _ _ (by
      intro e
      have e : k = w.heap.size + 1 := e
      rcases q3.2 with ⟨rfl, _⟩ | ⟨g, cap, cur, rfl, _, hgb, _⟩
      · simp [Value.ownBlock] at hk
      · obtain rfl : g = k := by simpa [Value.ownBlock] using hk
        rw [e, b3] at hgb
        simp at hgb)⟩)
  clear hv ho b3 b4 CB k0 k1 HB2 HBB
  go_wp2
  exact bodyPost_ret (v := .bool true) (by simp [results, Try.results43, go_sem, j1]) rfl ⟨rfl, HV.out, HO.out⟩
theorem rd09 : rsbit [0, 9] ⟨0, 0, false⟩ = 0 ∧ endK [0, 9] (rsnext [0, 9] ⟨0, 0, false⟩) = 1 ∧ endE [0, 9] (rsnext [0, 9] ⟨0, 0, false⟩) = 0 ∧ (rsnext [0, 9] ⟨0, 0, false⟩).n ≤ 90000 := by decide
set_option maxHeartbeats 4000000 in
theorem decode0 (A pb ib n pl ly c : Nat) (B : Addr) (w : World) (hh : BHead w pb ib n pl) (hA : w.cell? ⟨A, 0, none⟩ = some (.pointer (some ⟨pb, 0, none⟩))) (hn : n ≤ 100) (hp : pl ≤ 37) (hly : ly ≤ 1000) (hL : Lst w w.heap.size (some B) [.int .u8 0, .int .u8 9]) (hc : 2 ≤ c ∧ c ≤ maxLen) :
    Calls Try.prog 14 #[.slice (some ⟨A, 0, none⟩) 1 1, .int .i64 0, .int .i64 (ly : Int), .slice (some B) 2 c, .bool false] w fun e w' => e = .returned (.tuple #[.int .i64 1, .int .i64 0]) ∧ Below w.heap.size w w' := by
  have LO := Lib.hid (longest0 A pb ib n pl ly w hh hA hn hp hly)
  have HL := Lib.hid hL
  have hcI : (2 : Int) ≤ (c : Int) ∧ (0 : Int) ≤ 2 := by omega
  clear hh hA hL
  go_enter Try.func14, Try.ntmps14
  go_wp2_with fail
  refine LO.out.mono ?_
  rintro e w1 ⟨K, rfl, hK1, hK2, rfl⟩
  have hmin : (if K < 2 then K else (2 : Int)) = 2 := if_neg (by omega)
  have hmin2 : ¬ K < 2 := by omega
  have hmin3 : (2 : Int) ≤ K := by omega
  go_wp2_with fail
  have hF09 : ∀ x ∈ ([0, 9] : List Int), 0 ≤ x ∧ x ≤ 255 := by decide
  refine (brnew_any (F := [0, 9]) (n := 2) rfl (fun e => by cases e) HL.out (by omega)).mono ?_
  rintro e w2 ⟨p, rfl, hr, hb2⟩
  have hs2 := hb2.size
  have hpl := hr.lt
  have hpw : w.heap.size ≤ p := hr.1
  obtain ⟨rp, hrp⟩ : ∃ rp, w2.heap.size = rp := ⟨_, rfl⟩
  obtain ⟨W3, hW3⟩ : ∃ W3, w2.alloc (Obj.cells #[.pointer (some ⟨p, 0, none⟩), .int .i64 0, .int .i64 (ly : Int), .slice none 0 0] 107) = W3 := ⟨_, rfl⟩
  have r3 : RHead W3 rp p 0 ly := by unfold RHead; rw [← hW3, ← hrp]; exact World.alloc_heap_new w2 _
  have hb23 : Below w2.heap.size w2 W3 := by rw [← hW3]; exact (Below.refl _ _).alloc (Nat.le_refl _) _
  have HR3 := Lib.hid (rb_below hr hb23)
  have HB3 := Lib.hid (hb2.trans (hb23.mono hs2))
  have H3 := Lib.hid r3
  have hs3 : W3.heap.size = rp + 1 := by rw [← hW3, ← hrp]; simp
  have HD := Lib.hid (head0 (A := A) r3 HR3.out (by omega) rd09.1 (by simp) (by simp) (by simp) hF09)
  have hrw : w.heap.size ≤ rp := by omega
  have hprp : p < rp := by omega
  clear hr hb2 hb23 r3 hs2
  go_wp2_with fail
  clear hW3
  refine HD.out.mono ?_
  rintro e w4 ⟨rfl, hv4, ho4⟩
  have hs4 := ho4.size
  have H4 : Hid (RHead w4 rp p 0 ly) := Lib.hid (by have h := H3.out; unfold RHead at h ⊢; exact (ho4.block _ (by omega)).trans h)
  have HB4 : Hid (Below w.heap.size w w4) := Lib.hid (HB3.out.trans (ho4.below fun k hk => by omega))
  have HV4 := Lib.hid hv4
  have k0 : w4.cell? ⟨rp, 0, none⟩ = some (.pointer (some ⟨p, 0, none⟩)) := by have h := H4.out; unfold RHead at h; exact blk_cell h 0
  have EN := Lib.hid (rb_end HV4.out (by simp) rd09.2.2.2)
  rw [rd09.2.1, rd09.2.2.1] at EN
  clear hv4 ho4 HD H3 HR3 HB3
  go_wp2_with fail
  refine EN.out.mono ?_
  rintro e w5 ⟨rfl, nd, rfl⟩
  obtain ⟨W5, hW5⟩ : ∃ W5, w4.drewN nd = W5 := ⟨_, rfl⟩
  have h5 : W5.heap[rp]? = some (.cells #[.pointer (some ⟨p, 0, none⟩), .int .i64 0, .int .i64 (ly : Int), .slice none 0 0] 107 (0, 0)) := by rw [← hW5]; exact H4.out
  have HB5 : Hid (Below w.heap.size w W5) := Lib.hid (by rw [← hW5]; exact below_drewN HB4.out nd)
  rw [hW5]
  have k3 : W5.cell? ⟨rp, 3, none⟩ = some (.slice none 0 0) := blk_cell h5 3
  have BD := Lib.hid (fun A n cc => @body0 W5 rp _ _ _ A n cc h5)
  clear hW5 h5 EN k0 H4 HB4 HV4
  go_wp2_with fail
  go_loopg [13, 72] 0 (fun g v13 v wr => v13 = .int .i64 0 ∧ v = .int .i64 0 ∧ wr = W5)
  case atStart => exact ⟨rfl, rfl, rfl⟩
  case round =>
    obtain ⟨rfl, rfl, rfl⟩ := hrel
    have hc1 : (1 : Int) ≤ (c : Int) := by omega
    go_wp2_with fail
    refine (BD.out _ _ _).mono ?_
    rintro e w6 ⟨rfl, rfl⟩
    go_wp2
    go_ret2
    exact ⟨rfl, HB5.out⟩
end Go.Proofs.Ytobbkdhndojggaa
