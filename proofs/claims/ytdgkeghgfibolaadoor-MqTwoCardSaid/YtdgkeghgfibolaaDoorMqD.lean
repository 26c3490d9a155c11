/- The decoder of package mq: a byte comes in. -/
import Derived.Test.YtdgkeghgfibolaaDoorMqL
set_option linter.unusedVariables false
set_option linter.unusedSimpArgs false
namespace Go.Proofs.YtdgkeghgfibolaaDoor
open Go.RowKit

structure D where
  a : Nat
  c : Int
  ct : Nat
  at_ : Nat
def dTake (f : Nat → Nat) (d : D) : D :=
  if f d.at_ = 255 then (if 143 < f (d.at_ + 1) then ⟨d.a, wrap64 (d.c + 65280), 8, d.at_⟩ else ⟨d.a, wrap64 (d.c + (f (d.at_ + 1) : Nat) * 512), 7, d.at_ + 1⟩)
  else ⟨d.a, wrap64 (d.c + (f (d.at_ + 1) : Nat) * 256), 8, d.at_ + 1⟩
def dDbl (d : D) : D := ⟨2 * d.a, wrap64 (d.c * 2), d.ct - 1, d.at_⟩
def dTick (f : Nat → Nat) (d : D) : D := dDbl (if d.ct = 0 then dTake f d else d)
def dNorm (f : Nat → Nat) : Nat → D → D
  | 0, d => d
  | n + 1, d => if 32768 ≤ (dTick f d).a then dTick f d else dNorm f n (dTick f d)
/-- The bytes, and what lacks behind them. -/
def fB (bs : List Nat) (i : Nat) : Nat := bs.getD i 255

/-- Block p is a decoder of the bytes bs, all of whose blocks are of P. -/
def DW (P : Nat → Prop) (w : World) (p : Nat) (d : D) (bs : List Nat) : Prop :=
  P p ∧ (∀ x ∈ bs, x ≤ 255) ∧ bs.length ≤ 100000 ∧ ∃ V, w.heap[p]? = some (.cells #[.int .i64 (d.a : Int), .int .i64 d.c, .int .i64 (d.ct : Int), V, .int .i64 (d.at_ : Int)] 78 (0, 0)) ∧ w.ownsRow 0 5 1 V bs.length (bs.map bv) ∧ ∀ k, V.ownBlock = some k → P k
section
variable {P Q : Nat → Prop} {w w' : World} {p : Nat} {d : D} {bs : List Nat}
theorem DW.pp (h : DW P w p d bs) : P p := h.1
theorem DW.lt (h : DW P w p d bs) : p < w.heap.size := by obtain ⟨_, _, _, V, hb, _⟩ := h; exact blk_lt hb
theorem DW.imp (h : DW P w p d bs) (hPQ : ∀ k, k < w.heap.size → P k → Q k) : DW Q w p d bs := by
  obtain ⟨hp, h1, h2, V, hb, hv, hV⟩ := h
  exact ⟨hPQ _ (blk_lt hb) hp, h1, h2, V, hb, hv, fun k hk => hPQ _ (hv.lt k hk).2 (hV k hk)⟩
theorem DW.only (h : DW P w p d bs) (o : Only Q w w') (hPQ : ∀ k, k < w.heap.size → P k → ¬ Q k) : DW P w' p d bs := by
  obtain ⟨hp, h1, h2, V, hb, hv, hV⟩ := h
  exact ⟨hp, h1, h2, V, (o.block p (hPQ p (blk_lt hb) hp)).trans hb, ownsRow_keep hv o.size (fun k hk => o.block k (hPQ k (hv.lt k hk).2 (hV k hk))), hV⟩
theorem DW.below (h : DW P w p d bs) (o : Below w.heap.size w w') : DW P w' p d bs := by
  obtain ⟨hp, h1, h2, V, hb, hv, hV⟩ := h
  exact ⟨hp, h1, h2, V, (o.block p (blk_lt hb)).trans hb, ownsRow_keep hv o.size (fun k hk => o.block k (hv.lt k hk).2), hV⟩
theorem DW.c0 (h : DW P w p d bs) : w.cell? ⟨p, 0, none⟩ = some (.int .i64 (d.a : Int)) := by obtain ⟨_, _, _, V, hb, _⟩ := h; have := blk_cell hb 0; simpa using this
theorem DW.c1 (h : DW P w p d bs) : w.cell? ⟨p, 1, none⟩ = some (.int .i64 d.c) := by obtain ⟨_, _, _, V, hb, _⟩ := h; have := blk_cell hb 1; simpa using this
theorem DW.c2 (h : DW P w p d bs) : w.cell? ⟨p, 2, none⟩ = some (.int .i64 (d.ct : Int)) := by obtain ⟨_, _, _, V, hb, _⟩ := h; have := blk_cell hb 2; simpa using this
theorem DW.c4 (h : DW P w p d bs) : w.cell? ⟨p, 4, none⟩ = some (.int .i64 (d.at_ : Int)) := by obtain ⟨_, _, _, V, hb, _⟩ := h; have := blk_cell hb 4; simpa using this
theorem DW.z (h : DW P w p d bs) (i : Nat) : w.frozen? ⟨p, i, none⟩ = false := by obtain ⟨_, _, _, V, hb, _⟩ := h; exact blk_frozen hb i
theorem DW.fb (h : DW P w p d bs) (i : Nat) : fB bs i ≤ 255 := by
  unfold fB
  rw [List.getD_eq_getElem?_getD]
  cases e : bs[i]? with
  | none => exact Nat.le_refl _
  | some x => exact h.2.1 x (List.mem_of_getElem? e)
theorem DW.sa (h : DW P w p d bs) (x : Nat) : DW P (w.setCell ⟨p, 0, none⟩ (.int .i64 (x : Int))) p ⟨x, d.c, d.ct, d.at_⟩ bs := by
  obtain ⟨hp, h1, h2, V, hb, hv, hV⟩ := h
  exact ⟨hp, h1, h2, V, blk_set hb 0 _, ownsRow_setCell_other hv (a := ⟨p, 0, none⟩) (blk_not_row hb (by decide) hv) _, hV⟩
theorem DW.sc (h : DW P w p d bs) (x : Int) : DW P (w.setCell ⟨p, 1, none⟩ (.int .i64 x)) p ⟨d.a, x, d.ct, d.at_⟩ bs := by
  obtain ⟨hp, h1, h2, V, hb, hv, hV⟩ := h
  exact ⟨hp, h1, h2, V, blk_set hb 1 _, ownsRow_setCell_other hv (a := ⟨p, 1, none⟩) (blk_not_row hb (by decide) hv) _, hV⟩
theorem DW.st (h : DW P w p d bs) (x : Nat) : DW P (w.setCell ⟨p, 2, none⟩ (.int .i64 (x : Int))) p ⟨d.a, d.c, x, d.at_⟩ bs := by
  obtain ⟨hp, h1, h2, V, hb, hv, hV⟩ := h
  exact ⟨hp, h1, h2, V, blk_set hb 2 _, ownsRow_setCell_other hv (a := ⟨p, 2, none⟩) (blk_not_row hb (by decide) hv) _, hV⟩
theorem DW.sat (h : DW P w p d bs) (x : Nat) : DW P (w.setCell ⟨p, 4, none⟩ (.int .i64 (x : Int))) p ⟨d.a, d.c, d.ct, x⟩ bs := by
  obtain ⟨hp, h1, h2, V, hb, hv, hV⟩ := h
  exact ⟨hp, h1, h2, V, blk_set hb 4 _, ownsRow_setCell_other hv (a := ⟨p, 4, none⟩) (blk_not_row hb (by decide) hv) _, hV⟩
end

set_option maxHeartbeats 2000000 in
theorem byteAt_any {P : Nat → Prop} {w : World} {p : Nat} {d : D} {bs : List Nat} (h : DW P w p d bs) (i : Nat) : Calls Tryd.prog 40 #[.pointer (some ⟨p, 0, none⟩), .int .i64 (i : Int)] w fun e w' => e = .returned (.int .i64 ((fB bs i : Nat) : Int)) ∧ w = w' := by
  have hfb := h.fb i
  obtain ⟨hp, h1, h2, V, hb, hv, hV⟩ := h
  have c3 : w.cell? ⟨p, 3, none⟩ = some V := by have := blk_cell hb 3; simpa using this
  have i0 : (0 : Int) ≤ (i : Int) := by omega
  have i0' : ¬ (i : Int) < 0 := by omega
  by_cases hc : i < bs.length
  · obtain ⟨g, cap, rfl, hg, hgl, hcm, _⟩ := own_form hv (by omega)
    have f1 := hv.cellAt i (by omega)
    have e1 : (bs.map bv)[i]? = some (.int .u8 ((fB bs i : Nat) : Int)) := by
      rw [List.getElem?_map]; unfold fB; rw [List.getD_eq_getElem?_getD, List.getElem?_eq_getElem hc]; rfl
    rw [e1] at f1
    have c2 : (i : Int) < (bs.length : Int) := by omega
    have c3' : ¬ (bs.length : Int) ≤ (i : Int) := by omega
    clear hv e1 hb
    generalize fB bs i = x at *
    generalize bs.length = n at *
    go_enter Tryd.func40, Tryd.ntmps40
    go_wp2
    go_ret
    exact ⟨rfl, rfl⟩
  · obtain ⟨A, cap, rfl, _, _, _⟩ := own_any hv
    have e1 : fB bs i = 255 := by unfold fB; rw [List.getD_eq_getElem?_getD, List.getElem?_eq_none (by omega)]; rfl
    rw [e1]
    have c3' : (bs.length : Int) ≤ (i : Int) := by omega
    clear hv e1 hb
    generalize bs.length = n at *
    go_enter Tryd.func40, Tryd.ntmps40
    go_wp2
    go_ret
    exact ⟨rfl, rfl⟩
set_option maxHeartbeats 2000000 in
theorem ddbl_any {P : Nat → Prop} {w : World} {p : Nat} {d : D} {bs : List Nat} (h : DW P w p d bs) (ha : d.a < 65536) (h1 : 1 ≤ d.ct) (h2 : d.ct ≤ 100) : Calls Tryd.prog 46 #[.pointer (some ⟨p, 0, none⟩)] w fun e w' => e = .returned (.tuple #[]) ∧ DW P w' p (dDbl d) bs ∧ Only P w w' := by
  have k0 := h.c0
  have k1 := h.c1
  have k2 := h.c2
  have z0 := h.z 0
  have z1 := h.z 1
  have z2 := h.z 2
  obtain ⟨a, c, ct, at_⟩ := d
  simp only at k0 k1 k2 ha h1 h2
  obtain ⟨n, rfl⟩ : ∃ n, ct = n + 1 := ⟨ct - 1, by omega⟩
  have H := Lib.hid h
  clear h
  go_enter Tryd.func46, Tryd.ntmps46
  go_wp2
  go_end0
  rw [show (a : Int) * 2 = ((2 * a : Nat) : Int) by omega]
  exact ⟨rfl, ((H.out.sa _).sc _).st _, (((Only.refl P w).setCell (p := ⟨p, 0, none⟩) H.out.pp _).setCell (p := ⟨p, 1, none⟩) H.out.pp _).setCell (p := ⟨p, 2, none⟩) H.out.pp _⟩
set_option maxHeartbeats 4000000 in
theorem take_any {P : Nat → Prop} {w : World} {p : Nat} {d : D} {bs : List Nat} (h : DW P w p d bs) (hat : d.at_ ≤ 200000) : Calls Tryd.prog 41 #[.pointer (some ⟨p, 0, none⟩)] w fun e w' => e = .returned (.tuple #[]) ∧ DW P w' p (dTake (fB bs) d) bs ∧ Only P w w' := by
  have k1 := h.c1
  have k2 := h.c2
  have k4 := h.c4
  have z1 := h.z 1
  have z2 := h.z 2
  have z4 := h.z 4
  obtain ⟨a, c, ct, at_⟩ := d
  simp only at k1 k2 k4 hat
  have B0 := Lib.hid (byteAt_any h at_)
  have B1 := Lib.hid (byteAt_any h (at_ + 1))
  rw [show ((at_ + 1 : Nat) : Int) = (at_ : Int) + 1 by omega] at B1
  have f0 := h.fb at_
  have f1 := h.fb (at_ + 1)
  have H := Lib.hid h
  unfold dTake
  simp only
  generalize fB bs at_ = x0 at *
  generalize fB bs (at_ + 1) = x1 at *
  clear h
  have hx1 : (x1 : Int) ≤ 255 := by omega
  have hx0 : (0 : Int) ≤ (x1 : Int) := by omega
  by_cases h255 : x0 = 255
  · rw [if_pos h255]
    have e1 : ((x0 : Int) != 255) = false := by simp; omega
    by_cases h143 : 143 < x1
    · rw [if_pos h143]
      have e2 : (143 : Int) < (x1 : Int) := by omega
      clear h255 h143
      go_enter Tryd.func41, Tryd.ntmps41
      go_wp2_with fail
      refine B1.out.mono ?_
      rintro e w1 ⟨rfl, rfl⟩
      go_wp2_with fail
      refine B0.out.mono ?_
      rintro e w1 ⟨rfl, rfl⟩
      go_wp2
      go_end0
      exact ⟨rfl, (H.out.sc _).st 8, ((Only.refl P w).setCell (p := ⟨p, 1, none⟩) H.out.pp _).setCell (p := ⟨p, 2, none⟩) H.out.pp _⟩
    · rw [if_neg h143]
      have e2 : ¬ (143 : Int) < (x1 : Int) := by omega
      clear h255 h143
      go_enter Tryd.func41, Tryd.ntmps41
      go_wp2_with fail
      refine B1.out.mono ?_
      rintro e w1 ⟨rfl, rfl⟩
      go_wp2_with fail
      refine B0.out.mono ?_
      rintro e w1 ⟨rfl, rfl⟩
      go_wp2
      go_end0
      exact ⟨rfl, ((H.out.sat (at_ + 1)).sc _).st 7, (((Only.refl P w).setCell (p := ⟨p, 4, none⟩) H.out.pp _).setCell (p := ⟨p, 1, none⟩) H.out.pp _).setCell (p := ⟨p, 2, none⟩) H.out.pp _⟩
  · rw [if_neg h255]
    have e1 : ((x0 : Int) != 255) = true := by simp; omega
    clear h255
    go_enter Tryd.func41, Tryd.ntmps41
    go_wp2_with fail
    refine B1.out.mono ?_
    rintro e w1 ⟨rfl, rfl⟩
    go_wp2_with fail
    refine B0.out.mono ?_
    rintro e w1 ⟨rfl, rfl⟩
    go_wp2
    go_end0
    exact ⟨rfl, ((H.out.sat (at_ + 1)).sc _).st 8, (((Only.refl P w).setCell (p := ⟨p, 4, none⟩) H.out.pp _).setCell (p := ⟨p, 1, none⟩) H.out.pp _).setCell (p := ⟨p, 2, none⟩) H.out.pp _⟩
theorem dTake_a (f : Nat → Nat) (d : D) : (dTake f d).a = d.a := by unfold dTake; (repeat' split) <;> rfl
theorem dTake_ct (f : Nat → Nat) (d : D) : 7 ≤ (dTake f d).ct ∧ (dTake f d).ct ≤ 8 := by unfold dTake; (repeat' split) <;> (constructor <;> simp)
theorem dTake_at (f : Nat → Nat) (d : D) : (dTake f d).at_ ≤ d.at_ + 1 := by unfold dTake; (repeat' split) <;> simp
theorem dTick_a (f : Nat → Nat) (d : D) : (dTick f d).a = 2 * d.a := by unfold dTick dDbl; simp only; split <;> simp [dTake_a]
theorem dTick_ct (f : Nat → Nat) (d : D) (h : d.ct ≤ 8) : (dTick f d).ct ≤ 7 := by
  unfold dTick dDbl; simp only; split
  · have := dTake_ct f d; omega
  · omega
theorem dTick_at (f : Nat → Nat) (d : D) : (dTick f d).at_ ≤ d.at_ + 1 := by
  unfold dTick dDbl; simp only; split
  · exact dTake_at f d
  · omega
def daOf (p : Nat) (w : World) : Nat := match w.cell? ⟨p, 0, none⟩ with | some (.int _ v) => 65536 - v.toNat | _ => 0
theorem DW.aOf {P : Nat → Prop} {w : World} {p : Nat} {d : D} {bs : List Nat} (h : DW P w p d bs) : daOf p w = 65536 - d.a := by
  unfold daOf
  rw [h.c0]
  simp
/-- The loop's state. -/
def Rd (P : Nat → Prop) (w : World) (p : Nat) (bs : List Nat) (D1 : D) (wr : World) : Prop := ∃ n d, DW P wr p d bs ∧ 1 ≤ d.a ∧ d.a < 32768 ∧ d.ct ≤ 8 ∧ 32768 ≤ d.a * 2 ^ n ∧ dNorm (fB bs) n d = D1 ∧ d.at_ + n ≤ 200000 ∧ Only P w wr
theorem Rd.next {P : Nat → Prop} {w : World} {p : Nat} {bs : List Nat} {D1 : D} {w2 : World} {n : Nat} {d : D} (h1 : 1 ≤ d.a) (ha : d.a < 32768) (hct : d.ct ≤ 8) (hn : 32768 ≤ d.a * 2 ^ n) (hE : dNorm (fB bs) n d = D1) (hl : d.at_ + n ≤ 200000) (ho : Only P w w2) (h : DW P w2 p (dTick (fB bs) d) bs) :
    (32768 ≤ (dTick (fB bs) d).a → DW P w2 p D1 bs ∧ Only P w w2) ∧ ((dTick (fB bs) d).a < 32768 → Rd P w p bs D1 w2) := by
  obtain ⟨m, rfl⟩ : ∃ m, n = m + 1 := ⟨n - 1, by rcases n with _ | n <;> omega⟩
  unfold dNorm at hE
  have hta := dTick_a (fB bs) d
  refine ⟨fun h1 => ?_, fun h2 => ?_⟩
  · rw [if_pos h1] at hE
    rw [← hE]; exact ⟨h, ho⟩
  · rw [if_neg (by omega)] at hE
    refine ⟨m, dTick (fB bs) d, h, by omega, h2, by have := dTick_ct (fB bs) d hct; omega, ?_, hE, by have := dTick_at (fB bs) d; omega, ho⟩
    rw [hta, Nat.mul_assoc, Nat.mul_left_comm, ← Nat.mul_assoc]
    rw [Nat.pow_succ] at hn
    have : d.a * 2 * 2 ^ m = d.a * (2 ^ m * 2) := by rw [Nat.mul_assoc, Nat.mul_comm 2]
    omega
end Go.Proofs.YtdgkeghgfibolaaDoor
