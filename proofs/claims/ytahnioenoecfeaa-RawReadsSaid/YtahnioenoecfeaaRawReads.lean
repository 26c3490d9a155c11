/- RawReads, walked. -/
import Derived.Test.YtahnioenoecfeaaRawQ
set_option linter.unusedVariables false
namespace Go.Proofs.Ytahnioenoecfeaa
open Go.RowKit

theorem qrng {F : List Int} (hF : ∀ i, 0 ≤ byteAt F i ∧ byteAt F i ≤ 255) {s : QS} (h : 0 ≤ s.c ∧ s.c ≤ 255) : 0 ≤ (qstep F s).c ∧ (qstep F s).c ≤ 255 := by
  unfold qstep
  split
  · split
    · exact h
    · exact hF _
  · exact h

set_option maxHeartbeats 8000000 in
theorem walk_rawReads (a0 : Option Addr) (len0 cap0 : Nat) (z0 : List Int) (w : World) (w0 : IsRow .u8 w a0 len0 cap0 z0) :
    Calls Try.prog 4 #[.slice a0 len0 cap0] w fun e w' => e = .returned (.bool true) ∧ Below w.heap.size w w' := by
  have hl := lst_of_row w0
  obtain ⟨hlen, hlc, hcm, hnil⟩ := row_len w0
  have hb8 := row_u8 w0
  clear w0
  generalize hz : z0.take len0 = l at *
  clear hz
  have HL := Lib.hid hl
  have HLen := Lib.hid hlen
  have HNil := Lib.hid hnil
  have HB8 := Lib.hid (byteAt_rng hb8)
  clear hl hlen hnil hb8
  by_cases c : len0 ≤ 100
  · go_enter Try.func4, Try.ntmps4
    go_wp2_with fail
    refine (known5 _).mono ?_
    rintro e w1 ⟨rfl, h1⟩
    have s1 := h1.size
    have HL1 := Lib.hid ((HL.out.below h1).more s1)
    go_wp2_with (at_builtin; refine wpList_clone8 rfl (.tmp 11) (.tmp 12) rfl rfl rfl HLen.out HNil.out HL1.out (by omega) ?_)
    intro V cv w2 hown2 b2
    obtain ⟨A2, c2, hv2, hA2, hc2, hcm2⟩ := own_any hown2
    injection hv2 with hv2 _ hv3
    subst hv2 hv3
    have HL2 := Lib.hid (Lst.own hown2)
    have HA2 := Lib.hid hA2
    have h2 := h1.trans (b2.mono s1)
    have s2 := h2.size
    have s12 := b2.size
    have HLb := Lib.hid (HL1.out.below b2)
    clear hown2 hA2 h1 b2
    go_wp2_with fail
    refine (rnew_any HLen.out HA2.out HL2.out (by omega)).mono ?_
    rintro e w3 ⟨p, rfl, h3, b3⟩
    have h3' := h2.trans (b3.mono s2)
    have s3 := h3'.size
    obtain ⟨U, hU⟩ := h3.v
    have hplt : p < w3.heap.size := blk_lt hU.2.1
    have hUlt : ∀ k, U.ownBlock = some k → k < w3.heap.size := fun k hk => (hU.2.2.lt k hk).2
    have HU := Lib.hid hU
    have HLc := Lib.hid (HLb.out.below (b3.mono s12))
    clear h3 hU h2
    go_wp2_with fail
    refine (qnew_any HLen.out HNil.out HLc.out (by omega)).mono ?_
    rintro e w4 ⟨q, rfl, h4, b4⟩
    have h4' := h3'.trans (b4.mono s3)
    have hU4 : RrV U w4 w2.heap.size p l (0, 8) := ⟨HU.out.1, (b4.block p hplt).trans HU.out.2.1, ownsRow_keep HU.out.2.2 b4.size (fun k hk => b4.block k (hUlt k hk))⟩
    have hqp : p ≠ q := by have := h4.1; omega
    have hUq : U.ownBlock ≠ some q := fun e => by have := hUlt q e; have := h4.1; omega
    have H4 := Lib.hid h4
    have HU4 := Lib.hid hU4
    have HUQ := Lib.hid hUq
    have hw2 : w.heap.size ≤ p := by have := HU.out.1; omega
    have hq2 : w.heap.size ≤ q := by have := h4.1; omega
    clear h4 hU4 hUq hUlt HU b3 b4 h3' HLb HLc HL1 HL2 HA2
    go_wp2
    go_loopw [5] (fun i wr => ∃ (k : Nat) (r : Nat × Nat) (s : QS), k ≤ 8 * len0 + 10 ∧ i = .int .i64 (k : Int) ∧ RrV U wr w2.heap.size p l r ∧ Qr wr w3.heap.size q l s ∧ QRel l r s ∧ (0 ≤ s.c ∧ s.c ≤ 255) ∧ r.2 ≤ 8 ∧ r.1 ≤ k ∧ Below w.heap.size w wr) (fun i _ => 8 * len0 + 10 - (intOf i).toNat)
    case atStart => exact ⟨0, (0, 8), ⟨0, 0, 0⟩, by omega, rfl, HU4.out, H4.out, ⟨by simp, by simp, Or.inl ⟨rfl, rfl, rfl⟩⟩, by simp, by simp, by simp, h4'⟩
    case round =>
      obtain ⟨k, r, s, k8, rfl, hr, hq, hrel2, hsc, r2, r1, hb⟩ := hrel
      clear H4 HU4 h4'
      by_cases c1 : k < 8 * len0 + 10
      · have c2 : (k : Int) < 8 * (len0 : Int) + 10 := by omega
        have RS := Lib.hid (qrel_step hrel2)
        have RU := Lib.hid (rstep_use (F := l) r2)
        have HR := Lib.hid hr
        have HQ := Lib.hid hq
        have HS := Lib.hid (And.intro hrel2.1 hrel2.2.1)
        have HC := Lib.hid (qrng HB8.out hsc)
        clear hr hq hrel2
        go_wp2_with fail
        refine (rbit_only HR.out (by rw [HLen.out]; omega) (by omega) r2 HB8.out).mono ?_
        rintro e w5 ⟨rfl, h5, o5⟩
        have hq5 := HQ.out.keep o5 (by omega)
        have hb5 := hb.trans (o5.below (lo := w.heap.size) (fun k hk => by subst hk; exact hw2))
        have H5 := Lib.hid h5
        have HQ5 := Lib.hid hq5
        clear HR HQ h5 hq5 o5 hb
        go_wp2_with fail
        refine (qbit_only HQ5.out (by rw [HLen.out]; omega) HS.out.1 HS.out.2 hsc HB8.out).mono ?_
        rintro e w6 ⟨rfl, h6, o6⟩
        rw [RS.out.1]
        have hr6 := H5.out.keep o6 hqp HUQ.out
        have hb6 := hb5.trans (o6.below (lo := w.heap.size) (fun k hk => by subst hk; exact hq2))
        have H6 := Lib.hid h6
        have HR6 := Lib.hid hr6
        clear H5 HQ5 h6 hr6 o6 hb5
        go_wp2
        go_roundw
        case rel => exact ⟨k + 1, rstep l r, qstep l s, by omega, by go_num, HR6.out, H6.out, RS.out.2, HC.out, by have := RU.out.1; omega, by have := RU.out.2.1; omega, hb6⟩
        case measure => simp [intOf] <;> omega
      · obtain rfl : k = 8 * len0 + 10 := by omega
        have c2 : ¬ ((8 * len0 + 10 : Nat) : Int) < 8 * (len0 : Int) + 10 := by omega
        clear hr hq hrel2
        go_wp2
        go_ret
        exact ⟨rfl, hb⟩
  · go_enter Try.func4, Try.ntmps4
    go_wp2_with fail
    refine (known5 _).mono ?_
    rintro e w1 ⟨rfl, h1⟩
    go_wp2
    go_ret
    exact ⟨rfl, h1⟩
end Go.Proofs.Ytahnioenoecfeaa
