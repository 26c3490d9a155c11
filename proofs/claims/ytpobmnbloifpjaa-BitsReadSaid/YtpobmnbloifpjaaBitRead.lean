/- BitsRead, walked. -/
import Derived.Test.YtpobmnbloifpjaaBitNe
import Derived.Test.YtpobmnbloifpjaaBitNone
set_option linter.unusedVariables false
namespace Go.Proofs.Ytpobmnbloifpjaa
open Go.RowKit

theorem Rb.hp {w : World} {lo p : Nat} {F : List Int} {s : RS} (h : Rb w lo p F s) : ∃ cs, w.heap[p]? = some (.cells cs 63 (0, 0)) := by
  obtain ⟨hp, V, hb, hv⟩ := h
  exact ⟨_, hb⟩
theorem rk_ne {w : World} {lo p q : Nat} {a0 : Option Addr} {cap0 : Nat} {F : List Int} {s s' : RS} (h : Rb w lo p F s) (hq : Qr w q a0 cap0 F s') : p ≠ q := by
  obtain ⟨hp, V, hb, hv⟩ := h
  unfold Qr at hq
  intro e
  subst e
  rw [hb] at hq
  injection hq with hq
  injection hq with _ hq _
  exact absurd hq (by decide)
theorem Qr.keepp {w w' : World} {p q : Nat} {a0 : Option Addr} {cap0 : Nat} {F : List Int} {s : RS} (h : Qr w q a0 cap0 F s) (_ : ∃ cs, w'.heap[p]? = some (.cells cs 63 (0, 0))) (hpq : p ≠ q) (o : Only (· = p) w w') : Qr w' q a0 cap0 F s :=
  (o.block q (fun e => hpq e.symm)).trans h
theorem Rb.keepq {w w' : World} {lo p q : Nat} {a0 : Option Addr} {cap0 : Nat} {F : List Int} {s s' : RS} (h : Rb w lo p F s) (hq : Qr w q a0 cap0 F s') (o : Only (· = q) w w') : Rb w' lo p F s := by
  have hne := rk_ne h hq
  obtain ⟨hp, V, hb, hv⟩ := h
  unfold Qr at hq
  have hVq := blk_not_row hq (by decide) hv
  exact ⟨hp, V, (o.block p hne).trans hb, ownsRow_keep hv o.size (fun k hk => o.block k (fun e => hVq (by rw [hk, e])))⟩
theorem Qr.below {w w' : World} {q : Nat} {a0 : Option Addr} {cap0 : Nat} {F : List Int} {s : RS} (h : Qr w q a0 cap0 F s) (hb : Below w.heap.size w w') : Qr w' q a0 cap0 F s :=
  (hb.block q (blk_lt h)).trans h
theorem row_u8' {w : World} {a : Option Addr} {len cap : Nat} {zs : List Int} (h : IsRow .u8 w a len cap zs) : ∀ x ∈ zs.take len, 0 ≤ x ∧ x ≤ 255 := by
  rcases h with ⟨_, _, _, rfl⟩ | ⟨x, _, _, _, _, _, hw⟩
  · simp
  · intro n hn
    have := hw n (List.mem_of_mem_take hn)
    have hmin : IntKind.u8.min = 0 := rfl
    have hmax : IntKind.u8.max = 255 := rfl
    simp only [Lit.wf, Bool.and_eq_true, decide_eq_true_eq] at this
    omega

set_option maxHeartbeats 8000000 in
theorem walk_bitsRead (a0 : Option Addr) (len0 cap0 : Nat) (z0 : List Int) (a1 : Option Addr) (len1 cap1 : Nat) (z1 : List Int) (w : World) (w0 : IsRow .u8 w a0 len0 cap0 z0) (w1 : IsRow .i64 w a1 len1 cap1 z1) :
    Calls Try.prog 4 #[.slice a0 len0 cap0, .slice a1 len1 cap1] w fun e w' => e = .returned (.bool true) ∧ Below w.heap.size w w' := by
  have hl := lst_of_row w0
  obtain ⟨hlen, hlc, hcm, hnil⟩ := row_len w0
  have hb8 := row_u8' w0
  have hl1 := lst_of_row w1
  obtain ⟨hlen1, hlc1, hcm1, _⟩ := row_len w1
  clear w0 w1
  generalize hz : z0.take len0 = l at *
  clear hz
  generalize hz : z1.take len1 = x1 at *
  clear hz
  have HL := Lib.hid hl
  have HLen := Lib.hid hlen
  have HNil := Lib.hid hnil
  have HB8 := Lib.hid hb8
  have HL1 := Lib.hid (And.intro hl1 hlen1)
  unfold maxLen at hcm hcm1
  clear hl hlen hnil hb8 hl1 hlen1
  by_cases c : len0 ≤ 200
  · have QN : Hid (∀ u : World, Calls Try.prog 21 #[.slice a0 len0 cap0] u fun e w' => ∃ q, e = .returned (.pointer (some ⟨q, 0, none⟩)) ∧ u.heap.size ≤ q ∧ Qr w' q a0 cap0 l ⟨0, 0, false⟩ ∧ Below u.heap.size u w') := Lib.hid (fun u => by
      have := @qbnew_any a0 cap0 l u
      rwa [HLen.out] at this)
    have cni : ¬ (200 : Int) < (len0 : Int) := by omega
    go_enter Try.func4, Try.ntmps4
    go_wp2_with fail
    refine (known2 _).mono ?_
    rintro e w1 ⟨rfl, h1⟩
    have s1 := h1.size
    have HLb := Lib.hid ((HL.out.below h1).more s1)
    go_wp2_with (at_builtin; refine wpList_clone8 rfl (.tmp 18) (.tmp 19) rfl rfl rfl HLen.out HNil.out HLb.out (by omega) ?_)
    intro V cv w2 hown2 b2
    obtain ⟨A2, c2, hv2, hA2, hc2, hcm2⟩ := own_any hown2
    injection hv2 with hv2 _ hv3
    subst hv2 hv3
    have HL2 := Lib.hid (Lst.own hown2)
    have HA2 := Lib.hid hA2
    have h2 := h1.trans (b2.mono s1)
    have s2 := h2.size
    clear hown2 hA2 h1 b2 HLb
    go_wp2_with fail
    refine (brnew_any HLen.out HA2.out HL2.out (by omega)).mono ?_
    rintro e w3 ⟨p, rfl, h3, b3⟩
    have h3' := h2.trans (b3.mono s2)
    have s3 := h3'.size
    have H3 := Lib.hid h3
    clear h3 h2 b3 HL2 HA2
    go_wp2_with fail
    refine (QN.out _).mono ?_
    rintro e w4 ⟨q, rfl, hq3, h4, b4⟩
    have h4' := h3'.trans (b4.mono s3)
    have H4 := Lib.hid h4
    have HR4 := Lib.hid (H3.out.below b4)
    have hw2 : w.heap.size ≤ p := by have := H3.out.1; omega
    have hq2 : w.heap.size ≤ q := by omega
    have HRK : Hid (∀ (wr : World) (s s' : RS), Rb wr w2.heap.size p l s → Qr wr q a0 cap0 l s' → p ≠ q) := Lib.hid (fun wr s s' a b => rk_ne a b)
    clear h4 b4 h3' H3 QN
    go_wp2
    go_loopw [7] (fun i wr => ∃ (k : Nat) (s : RS), (k ≤ len1 ∧ k ≤ 40) ∧ i = .int .i64 (k : Int) ∧ Rb wr w2.heap.size p l s ∧ Qr wr q a0 cap0 l s ∧ s.n ≤ 32 * k ∧ s.l ≤ 8 ∧ Below w.heap.size w wr) (fun i _ => 40 - (intOf i).toNat)
    case atStart => exact ⟨0, ⟨0, 0, false⟩, by omega, rfl, HR4.out, H4.out, by simp, by simp, h4'⟩
    case round =>
      obtain ⟨k, s, ⟨k1, k40⟩, rfl, hr, hq, sn, s8, hb⟩ := hrel
      clear H4 HR4 h4'
      by_cases e1 : k < len1
      · by_cases e2 : k < 40
        · have c4 : (k : Int) < (len1 : Int) := by omega
          have c5 : (k : Int) < 40 := by omega
          obtain ⟨b', o', rfl, hbb', f2⟩ := lst_ati (HL1.out.1.below hb) (k := k) (by rw [HL1.out.2]; omega)
          have HR := Lib.hid hr
          have HQ := Lib.hid hq
          generalize x1.getD k 0 = y at *
          clear hr hq
          by_cases h7 : 0 < y.tmod 7
          · obtain ⟨r, hrr⟩ : ∃ r : Nat, y % 12 = (r : Int) := ⟨(y % 12).toNat, by omega⟩
            have hr12 : r < 12 := by omega
            have WI : Hid (∀ u, Calls Try.prog 13 #[.int .i64 y, .int .i64 12] u fun e w'' => e = .returned (.int .i64 (r : Int)) ∧ u = w'') := fun u =>
              (within_any y 12 u (by omega) (by omega)).mono fun e w'' ⟨he, hw''⟩ => ⟨by rw [he]; exact ret_i64 hrr, hw''⟩
            clear hrr
            rcases r with _ | r
            · go_wp2_with fail
              refine (WI.out _).mono ?_
              rintro e w' ⟨rfl, rfl⟩
              clear WI
              go_wp2_with fail
              refine (rb_bit HR.out (by rw [HLen.out]; omega) (by omega) s8 HB8.out).mono ?_
              rintro e w5 ⟨rfl, h5, o5⟩
              have hq5 := HQ.out.keepp h5.hp (HRK.out _ _ _ HR.out HQ.out) o5
              have hb5 := hb.trans (o5.below (lo := w.heap.size) (fun k hk => by subst hk; exact hw2))
              have H5 := Lib.hid h5
              have HQ5 := Lib.hid hq5
              have HL5 := Lib.hid (HL.out.below hb5)
              clear HR HQ h5 hq5 o5 hb
              go_wp2_with fail
              refine (qb_bit HQ5.out HL5.out hq2 (by rw [HLen.out]; omega) (by omega) s8 HB8.out).mono ?_
              rintro e w6 ⟨rfl, h6, o6⟩
              have hr6 := H5.out.keepq HQ5.out o6
              have hb6 := hb5.trans (o6.below (lo := w.heap.size) (fun k hk => by subst hk; exact hq2))
              have HQ6 := Lib.hid h6
              have HR6 := Lib.hid hr6
              clear H5 HQ5 HL5 h6 hr6 o6 hb5
              have hrn := rsnext_rng l s s8
              obtain ⟨s6, hs6⟩ : ∃ s6, rsnext l s = s6 := ⟨_, rfl⟩
              rw [hs6] at HQ6 HR6 hrn
              clear hs6
              generalize rsbit l s = vv at *
              have hrn1 := hrn.1
              have hrn2 := hrn.2
              clear hrn
              have hqp6 := HRK.out _ _ _ HR6.out HQ6.out
              have HL6 := Lib.hid (HL.out.below hb6)
              go_wp2_with fail
              refine (rb_end HR6.out (by rw [HLen.out]; omega) (by omega)).mono ?_
              rintro e w7 ⟨rfl, d7⟩
              have hb7 := Drew.to hb6 d7
              have H7 : Hid (Rb w7 w2.heap.size p l s6 ∧ Qr w7 q a0 cap0 l s6) := Lib.hid (by obtain ⟨n7, rfl⟩ := d7; exact ⟨HR6.out, HQ6.out⟩)
              have HL7 := Lib.hid (HL.out.below hb7)
              clear HR6 HQ6 HL6 d7 hb6
              go_wp2_with fail
              refine (qb_end H7.out.2 HL7.out hq2 (by rw [HLen.out]; omega) (by omega) (by omega) HB8.out).mono ?_
              rintro e w8 ⟨rfl, b8⟩
              have hb8 := hb7.trans (b8.mono hb7.size)
              have H8 := Lib.hid (And.intro (H7.out.1.below b8) (H7.out.2.below b8))
              clear H7 HL7 hb7 b8
              generalize (endK l s6 : Int) = kk at *
              generalize endE l s6 = ee at *
              go_wp2
              go_roundw
              case rel => exact ⟨k + 1, s6, ⟨by omega, by omega⟩, by go_num, H8.out.1, H8.out.2, by omega, by omega, hb8⟩
              case measure => simp [intOf] <;> omega
            · obtain ⟨sz, hsz⟩ : ∃ sz, r + 2 = sz := ⟨_, rfl⟩
              have hszi : 1 + (((r + 1 : Nat)) : Int) = (sz : Int) := by omega
              have hszj : 1 + ((r : Int) + 1) = (sz : Int) := by omega
              have hw1 : IntKind.i64.wrap (sz : Int) = (sz : Int) := IntWalk.i64_in _ (by omega)
              have hsb : ((sz : Int) == 1) = false := by simp; omega
              go_wp2_with fail
              refine (WI.out _).mono ?_
              rintro e w' ⟨rfl, rfl⟩
              clear WI
              go_wp2_with fail
              refine (rb_bits (size := sz) HR.out (by rw [HLen.out]; omega) (by omega) s8 HB8.out (by omega) (by omega)).mono ?_
              rintro e w5 ⟨rfl, h5, o5⟩
              have hq5 := HQ.out.keepp h5.hp (HRK.out _ _ _ HR.out HQ.out) o5
              have hb5 := hb.trans (o5.below (lo := w.heap.size) (fun k hk => by subst hk; exact hw2))
              have H5 := Lib.hid h5
              have HQ5 := Lib.hid hq5
              have HL5 := Lib.hid (HL.out.below hb5)
              clear HR HQ h5 hq5 o5 hb
              go_wp2_with fail
              refine (qb_bits (size := sz) HQ5.out HL5.out hq2 (by rw [HLen.out]; omega) (by omega) s8 HB8.out (by omega) (by omega)).mono ?_
              rintro e w6 ⟨rfl, h6, o6⟩
              have hr6 := H5.out.keepq HQ5.out o6
              have hb6 := hb5.trans (o6.below (lo := w.heap.size) (fun k hk => by subst hk; exact hq2))
              have HQ6 := Lib.hid h6
              have HR6 := Lib.hid hr6
              clear H5 HQ5 HL5 h6 hr6 o6 hb5
              have hrn := rbgo_rng l s s8 sz
              obtain ⟨s6, hs6⟩ : ∃ s6, (rbgo l s sz).1 = s6 := ⟨_, rfl⟩
              rw [hs6] at HQ6 HR6 hrn
              clear hs6
              generalize (rbgo l s sz).2 = vv at *
              have hrn1 := hrn.1
              have hrn2 := hrn.2.1
              clear hrn
              have hqp6 := HRK.out _ _ _ HR6.out HQ6.out
              have HL6 := Lib.hid (HL.out.below hb6)
              go_wp2_with fail
              refine (rb_end HR6.out (by rw [HLen.out]; omega) (by omega)).mono ?_
              rintro e w7 ⟨rfl, d7⟩
              have hb7 := Drew.to hb6 d7
              have H7 : Hid (Rb w7 w2.heap.size p l s6 ∧ Qr w7 q a0 cap0 l s6) := Lib.hid (by obtain ⟨n7, rfl⟩ := d7; exact ⟨HR6.out, HQ6.out⟩)
              have HL7 := Lib.hid (HL.out.below hb7)
              clear HR6 HQ6 HL6 d7 hb6
              go_wp2_with fail
              refine (qb_end H7.out.2 HL7.out hq2 (by rw [HLen.out]; omega) (by omega) (by omega) HB8.out).mono ?_
              rintro e w8 ⟨rfl, b8⟩
              have hb8 := hb7.trans (b8.mono hb7.size)
              have H8 := Lib.hid (And.intro (H7.out.1.below b8) (H7.out.2.below b8))
              clear H7 HL7 hb7 b8
              generalize (endK l s6 : Int) = kk at *
              generalize endE l s6 = ee at *
              go_wp2
              go_roundw
              case rel => exact ⟨k + 1, s6, ⟨by omega, by omega⟩, by go_num, H8.out.1, H8.out.2, by omega, by omega, hb8⟩
              case measure => simp [intOf] <;> omega
          · by_cases hv : 1 ≤ y ∧ y ≤ 32
            · have hy1 : y ≠ 1 := by intro e; subst e; exact h7 (by decide)
              obtain ⟨sz, rfl⟩ := Int.eq_ofNat_of_zero_le (show 0 ≤ y by omega)
              have hsb : ((sz : Int) == 1) = false := by simpa using hy1
              go_wp2_with fail
              refine (rb_bits (size := sz) HR.out (by rw [HLen.out]; omega) (by omega) s8 HB8.out (by omega) (by omega)).mono ?_
              rintro e w5 ⟨rfl, h5, o5⟩
              have hq5 := HQ.out.keepp h5.hp (HRK.out _ _ _ HR.out HQ.out) o5
              have hb5 := hb.trans (o5.below (lo := w.heap.size) (fun k hk => by subst hk; exact hw2))
              have H5 := Lib.hid h5
              have HQ5 := Lib.hid hq5
              have HL5 := Lib.hid (HL.out.below hb5)
              clear HR HQ h5 hq5 o5 hb
              go_wp2_with fail
              refine (qb_bits (size := sz) HQ5.out HL5.out hq2 (by rw [HLen.out]; omega) (by omega) s8 HB8.out (by omega) (by omega)).mono ?_
              rintro e w6 ⟨rfl, h6, o6⟩
              have hr6 := H5.out.keepq HQ5.out o6
              have hb6 := hb5.trans (o6.below (lo := w.heap.size) (fun k hk => by subst hk; exact hq2))
              have HQ6 := Lib.hid h6
              have HR6 := Lib.hid hr6
              clear H5 HQ5 HL5 h6 hr6 o6 hb5
              have hrn := rbgo_rng l s s8 sz
              obtain ⟨s6, hs6⟩ : ∃ s6, (rbgo l s sz).1 = s6 := ⟨_, rfl⟩
              rw [hs6] at HQ6 HR6 hrn
              clear hs6
              generalize (rbgo l s sz).2 = vv at *
              have hrn1 := hrn.1
              have hrn2 := hrn.2.1
              clear hrn
              have hqp6 := HRK.out _ _ _ HR6.out HQ6.out
              have HL6 := Lib.hid (HL.out.below hb6)
              go_wp2_with fail
              refine (rb_end HR6.out (by rw [HLen.out]; omega) (by omega)).mono ?_
              rintro e w7 ⟨rfl, d7⟩
              have hb7 := Drew.to hb6 d7
              have H7 : Hid (Rb w7 w2.heap.size p l s6 ∧ Qr w7 q a0 cap0 l s6) := Lib.hid (by obtain ⟨n7, rfl⟩ := d7; exact ⟨HR6.out, HQ6.out⟩)
              have HL7 := Lib.hid (HL.out.below hb7)
              clear HR6 HQ6 HL6 d7 hb6
              go_wp2_with fail
              refine (qb_end H7.out.2 HL7.out hq2 (by rw [HLen.out]; omega) (by omega) (by omega) HB8.out).mono ?_
              rintro e w8 ⟨rfl, b8⟩
              have hb8 := hb7.trans (b8.mono hb7.size)
              have H8 := Lib.hid (And.intro (H7.out.1.below b8) (H7.out.2.below b8))
              clear H7 HL7 hb7 b8
              generalize (endK l s6 : Int) = kk at *
              generalize endE l s6 = ee at *
              go_wp2
              go_roundw
              case rel => exact ⟨k + 1, s6, ⟨by omega, by omega⟩, by go_num, H8.out.1, H8.out.2, by omega, by omega, hb8⟩
              case measure => simp [intOf] <;> omega
            · have hvn : y < 1 ∨ 32 < y := by omega
              have hsb : (y == 1) = false := by simp; omega
              go_wp2_with fail
              refine (rb_none hvn).mono ?_
              rintro e w5 ⟨rfl, rfl⟩
              go_wp2_with fail
              refine (qb_none hvn).mono ?_
              rintro e w5 ⟨rfl, rfl⟩
              have HR6 := HR
              have HQ6 := HQ
              have hb6 := hb
              obtain ⟨s6, hs6⟩ : ∃ s6, s = s6 := ⟨_, rfl⟩
              rw [hs6] at HR6 HQ6 s8 sn
              clear HR HQ hb hs6
              have hqp6 := HRK.out _ _ _ HR6.out HQ6.out
              have HL6 := Lib.hid (HL.out.below hb6)
              go_wp2_with fail
              refine (rb_end HR6.out (by rw [HLen.out]; omega) (by omega)).mono ?_
              rintro e w7 ⟨rfl, d7⟩
              have hb7 := Drew.to hb6 d7
              have H7 : Hid (Rb w7 w2.heap.size p l s6 ∧ Qr w7 q a0 cap0 l s6) := Lib.hid (by obtain ⟨n7, rfl⟩ := d7; exact ⟨HR6.out, HQ6.out⟩)
              have HL7 := Lib.hid (HL.out.below hb7)
              clear HR6 HQ6 HL6 d7 hb6
              go_wp2_with fail
              refine (qb_end H7.out.2 HL7.out hq2 (by rw [HLen.out]; omega) (by omega) (by omega) HB8.out).mono ?_
              rintro e w8 ⟨rfl, b8⟩
              have hb8 := hb7.trans (b8.mono hb7.size)
              have H8 := Lib.hid (And.intro (H7.out.1.below b8) (H7.out.2.below b8))
              clear H7 HL7 hb7 b8
              generalize (endK l s6 : Int) = kk at *
              generalize endE l s6 = ee at *
              go_wp2
              go_roundw
              case rel => exact ⟨k + 1, s6, ⟨by omega, by omega⟩, by go_num, H8.out.1, H8.out.2, by omega, by omega, hb8⟩
              case measure => simp [intOf] <;> omega
        · have c4 : (k : Int) < (len1 : Int) := by omega
          have c5 : ¬ (k : Int) < 40 := by omega
          clear hr hq
          go_wp2
          go_ret
          exact ⟨rfl, hb⟩
      · have c4 : ¬ (k : Int) < (len1 : Int) := by omega
        clear hr hq
        go_wp2
        go_ret
        exact ⟨rfl, hb⟩
  · have cni : (200 : Int) < (len0 : Int) := by omega
    go_enter Try.func4, Try.ntmps4
    go_wp2_with fail
    refine (known2 _).mono ?_
    rintro e w1 ⟨rfl, h1⟩
    go_wp2
    go_ret
    exact ⟨rfl, h1⟩
end Go.Proofs.Ytpobmnbloifpjaa
