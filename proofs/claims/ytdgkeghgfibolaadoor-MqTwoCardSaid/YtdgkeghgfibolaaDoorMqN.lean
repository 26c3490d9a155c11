/- The encoder of package mq: put and renorm. -/
import Derived.Test.YtdgkeghgfibolaaDoorMqP
set_option linter.unusedVariables false
set_option linter.unusedSimpArgs false
namespace Go.Proofs.YtdgkeghgfibolaaDoor
open Go.RowKit

theorem put_any {P : Nat → Prop} {w : World} {p : Nat} {e : E} (h : EW P w p e) (hc : e.c < 268435456) (hl : e.last ≤ 255) (hml : e.pre.length ≤ 90000) (hP : ∀ k, w.heap.size ≤ k → P k) :
    Calls Tryd.prog 38 #[.pointer (some ⟨p, 0, none⟩)] w fun x w' => x = .returned (.tuple #[]) ∧ EW P w' p (mPut e) ∧ Only P w w' := by
  obtain ⟨hp, V, hb, hv, hV⟩ := h
  obtain ⟨g, cap, rfl, _⟩ := own_form hv (by omega)
  exact put_cut (a := e.a) (ct := e.ct) ⟨hb, hv, Only.refl _ _⟩ rfl hp (hV g rfl) hc hl hml hP
theorem dbl_ew {P : Nat → Prop} {w : World} {p : Nat} {e : E} (h : EW P w p e) (ha : e.a < 32768) (hc : e.c < 268435456) (h1 : 1 ≤ e.ct) (h2 : e.ct ≤ 12) :
    Calls Tryd.prog 45 #[.pointer (some ⟨p, 0, none⟩)] w fun x w' => x = .returned (.tuple #[]) ∧ EW P w' p (mDbl e) ∧ Only P w w' := by
  obtain ⟨hp, V, hb, hv, hV⟩ := h
  obtain ⟨n, hn⟩ : ∃ n, e.ct = n + 1 := ⟨e.ct - 1, by omega⟩
  have hVp := blk_not_row hb (by decide) hv
  rw [hn] at hb
  refine (dbl_any hb (by omega) (by omega) (by omega)).mono ?_
  rintro x w' ⟨rfl, hb', ho⟩
  refine ⟨rfl, ⟨hp, V, ?_, ownsRow_keep hv ho.size (fun k hk => ho.block k (fun e => hVp (e ▸ hk))), hV⟩, ho.mono fun k hk => by subst hk; exact hp⟩
  show Eb w' p (2 * e.a) (2 * e.c) (e.ct - 1) V
  rw [hn]; exact hb'
def aOf (p : Nat) (w : World) : Nat := match w.cell? ⟨p, 0, none⟩ with | some (.int _ v) => 65536 - v.toNat | _ => 0
theorem EW.aOf {P : Nat → Prop} {w : World} {p : Nat} {e : E} (h : EW P w p e) : aOf p w = 65536 - e.a := by
  obtain ⟨_, V, hb, _⟩ := h
  unfold Proofs.YtdgkeghgfibolaaDoor.aOf
  rw [hb.c0]
  simp
theorem EW.c0 {P : Nat → Prop} {w : World} {p : Nat} {e : E} (h : EW P w p e) : w.cell? ⟨p, 0, none⟩ = some (.int .u32 (e.a : Int)) := by obtain ⟨_, V, hb, _⟩ := h; exact hb.c0
theorem EW.c1 {P : Nat → Prop} {w : World} {p : Nat} {e : E} (h : EW P w p e) : w.cell? ⟨p, 1, none⟩ = some (.int .u32 (e.c : Int)) := by obtain ⟨_, V, hb, _⟩ := h; exact hb.c1
theorem EW.c2 {P : Nat → Prop} {w : World} {p : Nat} {e : E} (h : EW P w p e) : w.cell? ⟨p, 2, none⟩ = some (.int .i64 (e.ct : Int)) := by obtain ⟨_, V, hb, _⟩ := h; exact hb.c2
theorem Inv.c28 {e : E} (h : Inv e) : e.c < 268435456 := by
  have := h.c1
  have h1 := h.a1
  have : 2 ^ (28 - e.ct) ≤ 2 ^ 28 := Nat.pow_le_pow_right (by decide) (by omega)
  omega
/-- The loop's state. -/
def Rn (P : Nat → Prop) (w : World) (p : Nat) (E1 : E) (wr : World) : Prop := ∃ n e, EW P wr p e ∧ Good e ∧ e.a < 32768 ∧ 32768 ≤ e.a * 2 ^ n ∧ mNorm n e = E1 ∧ e.pre.length + n ≤ 90000 ∧ Only P w wr
theorem mTick_len (e : E) : (mTick e).pre.length ≤ e.pre.length + 1 := by
  unfold mTick
  split
  · rw [mPut_len]; exact Nat.le_refl _
  · exact Nat.le_succ _
theorem Rn.next {P : Nat → Prop} {w : World} {p : Nat} {E1 : E} {wr w2 : World} {n : Nat} {e : E} (hg : Good e) (ha : e.a < 32768) (hn : 32768 ≤ e.a * 2 ^ n) (hE : mNorm n e = E1) (hl : e.pre.length + n ≤ 90000) (ho : Only P w w2) (h : EW P w2 p (mTick e)) :
    (32768 ≤ (mTick e).a → EW P w2 p E1 ∧ Only P w w2) ∧ ((mTick e).a < 32768 → Rn P w p E1 w2) := by
  obtain ⟨m, rfl⟩ : ∃ m, n = m + 1 := ⟨n - 1, by rcases n with _ | n <;> omega⟩
  unfold mNorm at hE
  refine ⟨fun h1 => ?_, fun h1 => ?_⟩
  · rw [if_pos h1] at hE
    rw [← hE]; exact ⟨h, ho⟩
  · rw [if_neg (by omega)] at hE
    refine ⟨m, mTick e, h, hg.tick ha, h1, ?_, hE, by have := mTick_len e; omega, ho⟩
    rw [mTick_a, Nat.mul_assoc, Nat.mul_left_comm, ← Nat.mul_assoc]
    rw [Nat.pow_succ] at hn
    have : e.a * 2 * 2 ^ m = e.a * (2 ^ m * 2) := by rw [Nat.mul_assoc, Nat.mul_comm 2]
    omega

set_option maxRecDepth 100000 in
set_option maxHeartbeats 2000000 in
theorem renorm_any {P : Nat → Prop} {w : World} {p : Nat} {e : E} (h : EW P w p e) (hg : Good e) (ha : e.a < 32768) (hml : e.pre.length ≤ 80000) (hP : ∀ k, w.heap.size ≤ k → P k) :
    Calls Tryd.prog 36 #[.pointer (some ⟨p, 0, none⟩)] w fun x w' => x = .returned (.tuple #[]) ∧ EW P w' p (mNorm 16 e) ∧ Only P w w' := by
  have h0 : Rn P w p (mNorm 16 e) w := ⟨16, e, h, hg, ha, by have := hg.a1; omega, rfl, by omega, Only.refl _ _⟩
  have H0 := Lib.hid h0
  generalize mNorm 16 e = E1 at *
  clear h hg ha hml h0
  have HP := Lib.hid hP
  clear hP
  go_enter Tryd.func36, Tryd.ntmps36
  go_wp2
  go_loopw [] (fun wr => Rn P w p E1 wr) (fun wr => aOf p wr)
  case atStart => exact H0.out
  case round =>
    obtain ⟨n, e, hE, hgd, ha, hn, hnm, hln, hO⟩ := hrel
    have hO1 := Lib.hid hO
    have hmes := Lib.hid hE.aOf
    have D := Lib.hid (dbl_ew hE ha hgd.c28 hgd.ct0 hgd.ct1)
    have NX := Lib.hid (fun w2 (ho : Only P w w2) (h : EW P w2 p (mTick e)) => Rn.next (w := w) (wr := wr) hgd ha hn hnm hln ho h)
    have HG := Lib.hid hgd
    clear hO hE hgd hn hnm H0
    go_wp2_with fail
    refine D.out.mono ?_
    rintro x W1 ⟨rfl, hd, ho⟩
    have O1 := Lib.hid (hO1.out.trans ho)
    have k2 := hd.c2
    have HD := Lib.hid hd
    have a2 : (mDbl e).a = 2 * e.a := rfl
    have hti : (mTick e).a = 2 * e.a := mTick_a e
    have HA := Lib.hid (And.intro a2 hti)
    clear D hd ho a2 hti
    by_cases hct : (mDbl e).ct = 0
    · have htk : mTick e = mPut (mDbl e) := if_pos hct
      have PU := Lib.hid (put_any HD.out (by have := HG.out.c1; have := HG.out.ct0; have h3 := HG.out.a1; have h4 := (HG.out.toInv.dbl HG.out.ct0 ha).c28; exact h4) HG.out.l1 (by show e.pre.length ≤ 90000; omega) (fun k hk => HP.out k (Nat.le_trans O1.out.size hk)))
      rw [hct] at k2
      have HT := Lib.hid htk
      clear hct htk
      go_wp2_with fail
      refine PU.out.mono ?_
      rintro x W2 ⟨rfl, hp2, ho2⟩
      rw [← HT.out] at hp2
      have k0 := hp2.c0
      rw [HA.out.2] at k0
      have X := NX.out W2 (O1.out.trans ho2) hp2
      rw [HA.out.2] at X
      have m2 := hp2.aOf
      rw [HA.out.2] at m2
      have hae : e.a < 2 * e.a := by have := HG.out.a1; omega
      have M2 := Lib.hid m2
      have HAE := Lib.hid (And.intro hae ha)
      obtain ⟨A2, hA2⟩ : ∃ A2, 2 * e.a = A2 := ⟨_, rfl⟩
      rw [hA2] at k0 X M2 HAE
      have HX := Lib.hid X
      clear X hp2 ho2 PU m2 hA2 hae ha
      by_cases hh : 32768 ≤ A2
      · have e1 : (32768 : Int) ≤ (A2 : Int) := by omega
        have HH := Lib.hid hh
        clear hh
        go_wp2
        refine bodyPost_ret (v := .tuple #[]) (by simp [results, Tryd.results36, go_sem]) rfl ?_
        exact ⟨rfl, HX.out.1 HH.out⟩
      · have e1 : decide ((32768 : Int) ≤ (A2 : Int)) = false := by simp; omega
        have HH := Lib.hid hh
        clear hh
        go_wp2
        exact ⟨HX.out.2 (by have := HH.out; omega), by rw [M2.out, hmes.out]; have := HAE.out; have := HH.out; omega⟩
    · have htk : mTick e = mDbl e := if_neg hct
      have HT := Lib.hid htk
      obtain ⟨c', hc'⟩ : ∃ c', (mDbl e).ct = c' := ⟨_, rfl⟩
      rw [hc'] at k2 hct
      have e0 : ((c' : Int) == 0) = false := by simp; omega
      have hd := HD.out
      rw [← HT.out] at hd
      have k0 := hd.c0
      rw [HA.out.2] at k0
      have X := NX.out W1 O1.out hd
      rw [HA.out.2] at X
      have m2 := hd.aOf
      rw [HA.out.2] at m2
      have hae : e.a < 2 * e.a := by have := HG.out.a1; omega
      have M2 := Lib.hid m2
      have HAE := Lib.hid (And.intro hae ha)
      obtain ⟨A2, hA2⟩ : ∃ A2, 2 * e.a = A2 := ⟨_, rfl⟩
      rw [hA2] at k0 X M2 HAE
      have HX := Lib.hid X
      clear X hd m2 hA2 hae ha hc' hct htk
      by_cases hh : 32768 ≤ A2
      · have e1 : (32768 : Int) ≤ (A2 : Int) := by omega
        have HH := Lib.hid hh
        clear hh
        go_wp2
        refine bodyPost_ret (v := .tuple #[]) (by simp [results, Tryd.results36, go_sem]) rfl ?_
        exact ⟨rfl, HX.out.1 HH.out⟩
      · have e1 : decide ((32768 : Int) ≤ (A2 : Int)) = false := by simp; omega
        have HH := Lib.hid hh
        clear hh
        go_wp2
        exact ⟨HX.out.2 (by have := HH.out; omega), by rw [M2.out, hmes.out]; have := HAE.out; have := HH.out; omega⟩
end Go.Proofs.YtdgkeghgfibolaaDoor
