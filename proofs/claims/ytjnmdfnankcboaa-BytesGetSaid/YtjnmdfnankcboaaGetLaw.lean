/- BytesGet, walked. -/
import Derived.Test.YtjnmdfnankcboaaGetSx
import Derived.Deep.RegionWith
set_option linter.unusedVariables false
namespace Go.Proofs.Ytjnmdfnankcboaa
open Go.RowKit

set_option maxRecDepth 100000 in
set_option maxHeartbeats 32000000 in
theorem walk_bytesGet (a0 : Option Addr) (len0 cap0 : Nat) (z0 : List Int) (a1 : Option Addr) (len1 cap1 : Nat) (z1 : List Int) (a2 : Option Addr) (len2 cap2 : Nat) (z2 : List Int) (w : World) (w0 : IsRow .u8 w a0 len0 cap0 z0) (w1 : IsRow .i64 w a1 len1 cap1 z1) (w2 : IsRow .i64 w a2 len2 cap2 z2) :
    Calls Try.prog 4 #[.slice a0 len0 cap0, .slice a1 len1 cap1, .slice a2 len2 cap2] w fun e w' => e = .returned (.bool true) ∧ Below w.heap.size w w' := by
  have hl := lst_of_row w0
  obtain ⟨hlen, hlc, hcm, hnil⟩ := row_len w0
  have hb8 := row_u8 w0
  have hl1 := lst_of_row w1
  obtain ⟨hlen1, hlc1, hcm1, _⟩ := row_len w1
  have hl2 := lst_of_row w2
  obtain ⟨hlen2, hlc2, hcmm, _⟩ := row_len w2
  clear w0 w1 w2
  generalize hz : z0.take len0 = F at *
  clear hz
  generalize hz : z1.take len1 = x1 at *
  clear hz
  generalize hz : z2.take len2 = x2 at *
  clear hz
  have HL := Lib.hid hl
  have HLen := Lib.hid hlen
  have HNil := Lib.hid hnil
  have HB8 := Lib.hid hb8
  have HL1 := Lib.hid (And.intro hl1 hlen1)
  have HL2 := Lib.hid (And.intro hl2 hlen2)
  have HCM2 := Lib.hid hcm
  unfold maxLen at hcm hcm1 hcmm
  clear hl hlen hnil hb8 hl1 hlen1 hl2 hlen2
  by_cases c : len0 ≤ 300
  · have cni : ¬ (300 : Int) < (len0 : Int) := by omega
    go_enter Try.func4, Try.ntmps4
    go_wp2_with fail
    refine (known1 _).mono ?_
    rintro e w1 ⟨rfl, h1⟩
    have s1 := h1.size
    have HLb := Lib.hid ((HL.out.below h1).more s1)
    go_wp2_with (at_builtin; refine wpList_clone8 rfl (.tmp 17) (.tmp 18) rfl rfl rfl HLen.out HNil.out HLb.out (by omega) ?_)
    intro V cv w2 hown2 b2
    obtain ⟨A2, c2, hv2, hA2, hc2, hcc2⟩ := own_any hown2
    injection hv2 with hv2 _ hv3
    subst hv2 hv3
    have HLV := Lib.hid (Lst.own hown2)
    have HA2 := Lib.hid hA2
    have h2 := h1.trans (b2.mono s1)
    have s2 := h2.size
    clear hown2 hA2 h1 b2 HLb
    go_wp2_with fail
    refine (new_any _ _ _ F _ HLen.out HA2.out HLV.out (by omega)).mono ?_
    rintro e w3 ⟨p, rfl, h3, b3⟩
    have h3' := h2.trans (b3.mono s2)
    have s3 := h3'.size
    have H3 := Lib.hid h3
    have p3 := h3.lt
    have lp := h3.1
    clear h3 h2 b3 HLV HA2
    go_wp2_with fail
    refine qnew1.mono ?_
    rintro e w4 ⟨q, rfl, hq3, h4, b4⟩
    have S4 : Hid (Sx w w2.heap.size p q a0 cap0 len0 F w4 0 0 0 0) := Lib.hid ⟨H3.out.below b4 (by omega), h4, HL.out.below (h3'.trans (b4.mono s3)), h3'.trans (b4.mono s3), s2, lp, by omega⟩
    clear h4 b4 h3' H3
    go_wp2
    go_loopw [9] (fun i wr => ∃ (k P : Nat) (E : Int), k ≤ 30 ∧ i = .int .i64 (k : Int) ∧ P ≤ len0 ∧ Sx w w2.heap.size p q a0 cap0 len0 F wr P E P E) (fun i _ => 30 - (intOf i).toNat)
    case atStart => exact ⟨0, 0, 0, by omega, rfl, by omega, S4.out⟩
    case round =>
      obtain ⟨k, P, E, k30, rfl, hP, hs⟩ := hrel
      clear S4
      have hbw := hs.bel
      have SW := Lib.hid hs
      clear hs
      by_cases e1 : k < len1
      · by_cases e2 : k < len2
        · by_cases e3 : k < 30
          · have c3 : (k : Int) < (len1 : Int) := by omega
            have c4 : (k : Int) < (len2 : Int) := by omega
            have c5 : (k : Int) < 30 := by omega
            obtain ⟨b1, o1, rfl, hb1', g1⟩ := lst_int (HL1.out.1) (show k < x1.length by have := HL1.out.2; omega)
            obtain ⟨b2, o2, rfl, hb2', g2⟩ := lst_int (HL2.out.1) (show k < x2.length by have := HL2.out.2; omega)
            have n1 := (hbw.cell (p := ⟨b1, o1 + k, none⟩) hb1').trans g1
            have n2 := (hbw.cell (p := ⟨b2, o2 + k, none⟩) hb2').trans g2
            generalize x1.getD k 0 = aa at *
            generalize x2.getD k 0 = nn at *
            have hr6 := within_rng aa 6 (by omega)
            obtain ⟨r, hr⟩ : ∃ r : Nat, aa % 6 = (r : Int) := ⟨(aa % 6).toNat, by omega⟩
            have hrl : r < 6 := by omega
            have WI : Hid (∀ u, Calls Try.prog 11 #[.int .i64 aa, .int .i64 6] u fun e w'' => e = .returned (.int .i64 (r : Int)) ∧ u = w'') := Lib.hid (fun u => by
              have := within1 aa 6 u (by omega) (by omega)
              rwa [hr] at this)
            clear hr hr6 g1
            rcases r with _ | _ | _ | _ | _ | _ | r
            · clear hrl g2
              have hr8 := within_rng nn 8 (by omega)
              have W8 := Lib.hid (fun (u : World) => within1 nn 8 u (by omega) (by omega))
              generalize nn % 8 = r8 at *
              have w8 : IntKind.i64.wrap (1 + r8) = 1 + r8 := IntWalk.i64_in _ (by omega)
              obtain ⟨V, P2, E2, hP2, fa, fr⟩ := get_both (w := w) (lo := w2.heap.size) (p := p) (q := q) HNil.out HLen.out hlc HCM2.out (by omega) HB8.out P E hP (1 + r8)
              have FA := Lib.hid fa
              have FR := Lib.hid fr
              clear fa fr
              go_wp2_with fail
              refine (WI.out _).mono ?_
              rintro e w' ⟨rfl, rfl⟩
              go_wp2_with fail
              refine (W8.out _).mono ?_
              rintro e w' ⟨rfl, rfl⟩
              clear W8 WI
              go_wp2_with fail
              refine (FA.out _ _ _ SW.out).mono ?_
              rintro e wy ⟨rfl, sy⟩
              have SY := Lib.hid sy
              clear sy SW
              go_wp2_with fail
              refine (FR.out _ _ _ SY.out).mono ?_
              rintro e wz ⟨rfl, sz⟩
              have SX := Lib.hid sz
              clear sz SY FA FR
              have hb9 := SX.out.bel
              have TE := Lib.hid (end_any SX.out.rd (by rw [List.length_drop, HLen.out]; omega))
              rw [List.length_drop, HLen.out] at TE
              go_wp2_with fail
              refine TE.out.mono ?_
              rintro e wa ⟨rfl, da⟩
              have SA := Lib.hid (SX.out.drews da)
              clear TE da SX hb9
              have TE2 := Lib.hid (qend SA.out.qr (by omega) hP2)
              generalize endE (len0 - P2) E2 = ee at *
              go_wp2_with fail
              refine TE2.out.mono ?_
              rintro e wb ⟨rfl, db⟩
              have SB := Lib.hid (SA.out.drews db)
              clear TE2 db SA
              have TL := Lib.hid (left_any SB.out.rd (by rw [List.length_drop, HLen.out]; omega))
              rw [List.length_drop, HLen.out] at TL
              go_wp2_with fail
              refine TL.out.mono ?_
              rintro e wc ⟨rfl, rfl⟩
              clear TL
              have TL2 := Lib.hid (qleft SB.out.qr (by omega) hP2)
              generalize (if E2 = 0 then ((len0 - P2 : Nat) : Int) else 0) = ll at *
              go_wp2_with fail
              refine TL2.out.mono ?_
              rintro e wd ⟨rfl, dd⟩
              have SC := Lib.hid (SB.out.drews dd)
              have hbd := SC.out.bel
              clear TL2 dd SB
              go_wp2
              go_roundw
              case rel => exact ⟨k + 1, P2, E2, by omega, by go_num, hP2, SC.out⟩
              case measure => simp [intOf] <;> omega
            · clear hrl g2
              have hr8 := within_rng nn 8 (by omega)
              have W8 := Lib.hid (fun (u : World) => within1 nn 8 u (by omega) (by omega))
              generalize nn % 8 = r8 at *
              have w8 : IntKind.i64.wrap (1 + r8) = 1 + r8 := IntWalk.i64_in _ (by omega)
              obtain ⟨V, P2, E2, hP2, fa, fr⟩ := get_both (w := w) (lo := w2.heap.size) (p := p) (q := q) HNil.out HLen.out hlc HCM2.out (by omega) HB8.out P E hP (1 + r8)
              have FA := Lib.hid fa
              have FR := Lib.hid fr
              clear fa fr
              go_wp2_with fail
              refine (WI.out _).mono ?_
              rintro e w' ⟨rfl, rfl⟩
              go_wp2_with fail
              refine (W8.out _).mono ?_
              rintro e w' ⟨rfl, rfl⟩
              clear W8 WI
              go_wp2_with fail
              refine (FA.out _ _ _ SW.out).mono ?_
              rintro e wy ⟨rfl, sy⟩
              have SY := Lib.hid sy
              clear sy SW
              go_wp2_with fail
              refine (FR.out _ _ _ SY.out).mono ?_
              rintro e wz ⟨rfl, sz⟩
              have SX := Lib.hid sz
              clear sz SY FA FR
              have hb9 := SX.out.bel
              have TE := Lib.hid (end_any SX.out.rd (by rw [List.length_drop, HLen.out]; omega))
              rw [List.length_drop, HLen.out] at TE
              go_wp2_with fail
              refine TE.out.mono ?_
              rintro e wa ⟨rfl, da⟩
              have SA := Lib.hid (SX.out.drews da)
              clear TE da SX hb9
              have TE2 := Lib.hid (qend SA.out.qr (by omega) hP2)
              generalize endE (len0 - P2) E2 = ee at *
              go_wp2_with fail
              refine TE2.out.mono ?_
              rintro e wb ⟨rfl, db⟩
              have SB := Lib.hid (SA.out.drews db)
              clear TE2 db SA
              have TL := Lib.hid (left_any SB.out.rd (by rw [List.length_drop, HLen.out]; omega))
              rw [List.length_drop, HLen.out] at TL
              go_wp2_with fail
              refine TL.out.mono ?_
              rintro e wc ⟨rfl, rfl⟩
              clear TL
              have TL2 := Lib.hid (qleft SB.out.qr (by omega) hP2)
              generalize (if E2 = 0 then ((len0 - P2 : Nat) : Int) else 0) = ll at *
              go_wp2_with fail
              refine TL2.out.mono ?_
              rintro e wd ⟨rfl, dd⟩
              have SC := Lib.hid (SB.out.drews dd)
              have hbd := SC.out.bel
              clear TL2 dd SB
              go_wp2
              go_roundw
              case rel => exact ⟨k + 1, P2, E2, by omega, by go_num, hP2, SC.out⟩
              case measure => simp [intOf] <;> omega
            · clear hrl g2
              have hr8 := within_rng nn 8 (by omega)
              have W8 := Lib.hid (fun (u : World) => within1 nn 8 u (by omega) (by omega))
              generalize nn % 8 = r8 at *
              have w8 : IntKind.i64.wrap (1 + r8) = 1 + r8 := IntWalk.i64_in _ (by omega)
              obtain ⟨V, P2, E2, hP2, fa, fr⟩ := get_both (w := w) (lo := w2.heap.size) (p := p) (q := q) HNil.out HLen.out hlc HCM2.out (by omega) HB8.out P E hP (1 + r8)
              have FA := Lib.hid fa
              have FR := Lib.hid fr
              clear fa fr
              go_wp2_with fail
              refine (WI.out _).mono ?_
              rintro e w' ⟨rfl, rfl⟩
              go_wp2_with fail
              refine (W8.out _).mono ?_
              rintro e w' ⟨rfl, rfl⟩
              clear W8 WI
              go_wp2_with fail
              refine (FA.out _ _ _ SW.out).mono ?_
              rintro e wy ⟨rfl, sy⟩
              have SY := Lib.hid sy
              clear sy SW
              go_wp2_with fail
              refine (FR.out _ _ _ SY.out).mono ?_
              rintro e wz ⟨rfl, sz⟩
              have SX := Lib.hid sz
              clear sz SY FA FR
              have hb9 := SX.out.bel
              have TE := Lib.hid (end_any SX.out.rd (by rw [List.length_drop, HLen.out]; omega))
              rw [List.length_drop, HLen.out] at TE
              go_wp2_with fail
              refine TE.out.mono ?_
              rintro e wa ⟨rfl, da⟩
              have SA := Lib.hid (SX.out.drews da)
              clear TE da SX hb9
              have TE2 := Lib.hid (qend SA.out.qr (by omega) hP2)
              generalize endE (len0 - P2) E2 = ee at *
              go_wp2_with fail
              refine TE2.out.mono ?_
              rintro e wb ⟨rfl, db⟩
              have SB := Lib.hid (SA.out.drews db)
              clear TE2 db SA
              have TL := Lib.hid (left_any SB.out.rd (by rw [List.length_drop, HLen.out]; omega))
              rw [List.length_drop, HLen.out] at TL
              go_wp2_with fail
              refine TL.out.mono ?_
              rintro e wc ⟨rfl, rfl⟩
              clear TL
              have TL2 := Lib.hid (qleft SB.out.qr (by omega) hP2)
              generalize (if E2 = 0 then ((len0 - P2 : Nat) : Int) else 0) = ll at *
              go_wp2_with fail
              refine TL2.out.mono ?_
              rintro e wd ⟨rfl, dd⟩
              have SC := Lib.hid (SB.out.drews dd)
              have hbd := SC.out.bel
              clear TL2 dd SB
              go_wp2
              go_roundw
              case rel => exact ⟨k + 1, P2, E2, by omega, by go_num, hP2, SC.out⟩
              case measure => simp [intOf] <;> omega
            · clear hrl
              obtain ⟨V, P2, E2, hP2, fa, fr⟩ := get_both (w := w) (lo := w2.heap.size) (p := p) (q := q) HNil.out HLen.out hlc HCM2.out (by omega) HB8.out P E hP nn
              have FA := Lib.hid fa
              have FR := Lib.hid fr
              have SD := SW.out.drew 1
              clear fa fr
              go_wp2_with fail
              refine (WI.out _).mono ?_
              rintro e w' ⟨rfl, rfl⟩
              clear WI
              have g2' := fun (u : World) (hu : Below w.heap.size w u) => (hu.cell (p := ⟨b2, o2 + k, none⟩) hb2').trans g2
              go_wp2
              go_region_with (first
                | (go_at_call 16; refine (FA.out _ _ _ SD).mono ?_; rintro e u1 ⟨rfl, S1⟩; have n1 := g2' u1 S1.bel)
                | (go_at_call 17; refine (FR.out _ _ _ SD).mono ?_; rintro e u1 ⟨rfl, S2⟩; have n1 := g2' u1 S2.bel)
                | (go_at_call 17; refine (FR.out _ _ _ S1).mono ?_; rintro e u2 ⟨rfl, S3⟩)
                | (go_at_call 16; refine (FA.out _ _ _ S2).mono ?_; rintro e u2 ⟨rfl, S3⟩))
              all_goals
                have SX := Lib.hid S3
                clear SD S3 FA FR n1
                have hb9 := SX.out.bel
                have TE := Lib.hid (end_any SX.out.rd (by rw [List.length_drop, HLen.out]; omega))
                rw [List.length_drop, HLen.out] at TE
                go_wp2_with fail
                refine TE.out.mono ?_
                rintro e wa ⟨rfl, da⟩
                have SA := Lib.hid (SX.out.drews da)
                clear TE da SX hb9
                have TE2 := Lib.hid (qend SA.out.qr (by omega) hP2)
                generalize endE (len0 - P2) E2 = ee at *
                go_wp2_with fail
                refine TE2.out.mono ?_
                rintro e wb ⟨rfl, db⟩
                have SB := Lib.hid (SA.out.drews db)
                clear TE2 db SA
                have TL := Lib.hid (left_any SB.out.rd (by rw [List.length_drop, HLen.out]; omega))
                rw [List.length_drop, HLen.out] at TL
                go_wp2_with fail
                refine TL.out.mono ?_
                rintro e wc ⟨rfl, rfl⟩
                clear TL
                have TL2 := Lib.hid (qleft SB.out.qr (by omega) hP2)
                generalize (if E2 = 0 then ((len0 - P2 : Nat) : Int) else 0) = ll at *
                go_wp2_with fail
                refine TL2.out.mono ?_
                rintro e wd ⟨rfl, dd⟩
                have SC := Lib.hid (SB.out.drews dd)
                have hbd := SC.out.bel
                clear TL2 dd SB
                go_wp2
                go_roundw
                case rel => exact ⟨k + 1, P2, E2, by omega, by go_num, hP2, SC.out⟩
                case measure => simp [intOf] <;> omega
            · clear hrl g2
              by_cases h5 : 0 < aa.tmod 5
              · skip
                have hr9 := within_rng nn 9 (by omega)
                have W9 := Lib.hid (fun (u : World) => within1 nn 9 u (by omega) (by omega))
                generalize nn % 9 = kk at *
                obtain ⟨ys, P2, E2, hP2, fa, fr⟩ := take_both (w := w) (lo := w2.heap.size) (p := p) (q := q) HNil.out HLen.out hlc HCM2.out (by omega) P E hP kk
                have FA := Lib.hid fa
                have FR := Lib.hid fr
                have SD := SW.out.drew 1
                have hqd : q < (wr.drewN 1).heap.size := blk_lt SD.qr
                have hpd : p < (wr.drewN 1).heap.size := by have := SD.pq; omega
                have CV : Hid (∀ (u : World) (Bd : Nat) (A : Option Addr) (c : Nat), Lst u Bd A (ys.map (Value.int .u8)) → (convert 22 9 (.slice A ys.length c)).run Try.prog u = .ok (.string (strOf ys)) u) := Lib.hid (fun u Bd A c hu => conv_str rfl hu)
                generalize strOf ys = Z at *
                clear fa fr
                go_wp2_with fail
                refine (WI.out _).mono ?_
                rintro e w' ⟨rfl, rfl⟩
                clear WI
                go_wp2_with fail
                refine (W9.out _).mono ?_
                rintro e w' ⟨rfl, rfl⟩
                clear W9
                go_wp2
                go_region_with (first
                  | (go_at_call 18; refine (FA.out _ _ _ SD).mono ?_; rintro e u1 ⟨A1, c1, rfl, hv1, S1, K1⟩; have hc1 := CV.out _ _ _ c1 (Lst.own hv1))
                  | (go_at_call 19; refine (FR.out _ _ _ SD).mono ?_; rintro e u1 ⟨A1, c1, rfl, hv1, S2, K1⟩; have hc1 := CV.out _ _ _ c1 (Lst.own hv1))
                  | (go_at_call 19; refine (FR.out _ _ _ S1).mono ?_; rintro e u2 ⟨A2, c2, rfl, hv2, S3, K2⟩; have hc2 := CV.out _ _ _ c2 (Lst.own hv2); have hcc := CV.out _ _ _ c1 (Lst.own (kept_o hv1 K2 hqd)))
                  | (go_at_call 18; refine (FA.out _ _ _ S2).mono ?_; rintro e u2 ⟨A2, c2, rfl, hv2, S3, K2⟩; have hc2 := CV.out _ _ _ c2 (Lst.own hv2); have hcc := CV.out _ _ _ c1 (Lst.own (kept_g hv1 K2 hpd))))
                all_goals
                  have SX := Lib.hid S3
                  clear SD S3 FA FR CV hc1 hc2 hcc hv1 hv2 K1 K2
                  have hb9 := SX.out.bel
                  have TE := Lib.hid (end_any SX.out.rd (by rw [List.length_drop, HLen.out]; omega))
                  rw [List.length_drop, HLen.out] at TE
                  go_wp2_with fail
                  refine TE.out.mono ?_
                  rintro e wa ⟨rfl, da⟩
                  have SA := Lib.hid (SX.out.drews da)
                  clear TE da SX hb9
                  have TE2 := Lib.hid (qend SA.out.qr (by omega) hP2)
                  generalize endE (len0 - P2) E2 = ee at *
                  go_wp2_with fail
                  refine TE2.out.mono ?_
                  rintro e wb ⟨rfl, db⟩
                  have SB := Lib.hid (SA.out.drews db)
                  clear TE2 db SA
                  have TL := Lib.hid (left_any SB.out.rd (by rw [List.length_drop, HLen.out]; omega))
                  rw [List.length_drop, HLen.out] at TL
                  go_wp2_with fail
                  refine TL.out.mono ?_
                  rintro e wc ⟨rfl, rfl⟩
                  clear TL
                  have TL2 := Lib.hid (qleft SB.out.qr (by omega) hP2)
                  generalize (if E2 = 0 then ((len0 - P2 : Nat) : Int) else 0) = ll at *
                  go_wp2_with fail
                  refine TL2.out.mono ?_
                  rintro e wd ⟨rfl, dd⟩
                  have SC := Lib.hid (SB.out.drews dd)
                  have hbd := SC.out.bel
                  clear TL2 dd SB
                  go_wp2
                  go_roundw
                  case rel => exact ⟨k + 1, P2, E2, by omega, by go_num, hP2, SC.out⟩
                  case measure => simp [intOf] <;> omega
              · skip
                obtain ⟨kk, hkk⟩ : ∃ kk, nn = kk := ⟨_, rfl⟩
                subst hkk
                obtain ⟨ys, P2, E2, hP2, fa, fr⟩ := take_both (w := w) (lo := w2.heap.size) (p := p) (q := q) HNil.out HLen.out hlc HCM2.out (by omega) P E hP nn
                have FA := Lib.hid fa
                have FR := Lib.hid fr
                have SD := SW.out.drew 1
                have hqd : q < (wr.drewN 1).heap.size := blk_lt SD.qr
                have hpd : p < (wr.drewN 1).heap.size := by have := SD.pq; omega
                have CV : Hid (∀ (u : World) (Bd : Nat) (A : Option Addr) (c : Nat), Lst u Bd A (ys.map (Value.int .u8)) → (convert 22 9 (.slice A ys.length c)).run Try.prog u = .ok (.string (strOf ys)) u) := Lib.hid (fun u Bd A c hu => conv_str rfl hu)
                generalize strOf ys = Z at *
                clear fa fr
                go_wp2_with fail
                refine (WI.out _).mono ?_
                rintro e w' ⟨rfl, rfl⟩
                clear WI
                go_wp2
                go_region_with (first
                  | (go_at_call 18; refine (FA.out _ _ _ SD).mono ?_; rintro e u1 ⟨A1, c1, rfl, hv1, S1, K1⟩; have hc1 := CV.out _ _ _ c1 (Lst.own hv1))
                  | (go_at_call 19; refine (FR.out _ _ _ SD).mono ?_; rintro e u1 ⟨A1, c1, rfl, hv1, S2, K1⟩; have hc1 := CV.out _ _ _ c1 (Lst.own hv1))
                  | (go_at_call 19; refine (FR.out _ _ _ S1).mono ?_; rintro e u2 ⟨A2, c2, rfl, hv2, S3, K2⟩; have hc2 := CV.out _ _ _ c2 (Lst.own hv2); have hcc := CV.out _ _ _ c1 (Lst.own (kept_o hv1 K2 hqd)))
                  | (go_at_call 18; refine (FA.out _ _ _ S2).mono ?_; rintro e u2 ⟨A2, c2, rfl, hv2, S3, K2⟩; have hc2 := CV.out _ _ _ c2 (Lst.own hv2); have hcc := CV.out _ _ _ c1 (Lst.own (kept_g hv1 K2 hpd))))
                all_goals
                  have SX := Lib.hid S3
                  clear SD S3 FA FR CV hc1 hc2 hcc hv1 hv2 K1 K2
                  have hb9 := SX.out.bel
                  have TE := Lib.hid (end_any SX.out.rd (by rw [List.length_drop, HLen.out]; omega))
                  rw [List.length_drop, HLen.out] at TE
                  go_wp2_with fail
                  refine TE.out.mono ?_
                  rintro e wa ⟨rfl, da⟩
                  have SA := Lib.hid (SX.out.drews da)
                  clear TE da SX hb9
                  have TE2 := Lib.hid (qend SA.out.qr (by omega) hP2)
                  generalize endE (len0 - P2) E2 = ee at *
                  go_wp2_with fail
                  refine TE2.out.mono ?_
                  rintro e wb ⟨rfl, db⟩
                  have SB := Lib.hid (SA.out.drews db)
                  clear TE2 db SA
                  have TL := Lib.hid (left_any SB.out.rd (by rw [List.length_drop, HLen.out]; omega))
                  rw [List.length_drop, HLen.out] at TL
                  go_wp2_with fail
                  refine TL.out.mono ?_
                  rintro e wc ⟨rfl, rfl⟩
                  clear TL
                  have TL2 := Lib.hid (qleft SB.out.qr (by omega) hP2)
                  generalize (if E2 = 0 then ((len0 - P2 : Nat) : Int) else 0) = ll at *
                  go_wp2_with fail
                  refine TL2.out.mono ?_
                  rintro e wd ⟨rfl, dd⟩
                  have SC := Lib.hid (SB.out.drews dd)
                  have hbd := SC.out.bel
                  clear TL2 dd SB
                  go_wp2
                  go_roundw
                  case rel => exact ⟨k + 1, P2, E2, by omega, by go_num, hP2, SC.out⟩
                  case measure => simp [intOf] <;> omega
            · clear hrl
              by_cases h4 : aa.tmod 4 = 0
              · have h4b : (aa.tmod 4 == 0) = true := by simpa using h4
                clear h4
                have hr16 := within_rng nn 16 (by omega)
                have W16 := Lib.hid (fun (u : World) => within1 nn 16 u (by omega) (by omega))
                generalize nn % 16 = f16 at *
                obtain ⟨Pz, hPP⟩ : ∃ Pz, P = Pz := ⟨_, rfl⟩
                subst hPP
                obtain ⟨E2, hEE⟩ : ∃ E2, failE E f16 = E2 := ⟨_, rfl⟩
                have hP2 := hP
                go_wp2_with fail
                refine (WI.out _).mono ?_
                rintro e w' ⟨rfl, rfl⟩
                clear WI
                go_wp2_with fail
                refine (W16.out _).mono ?_
                rintro e w' ⟨rfl, rfl⟩
                have TF := Lib.hid (fail_any f16 SW.out.rd)
                go_wp2_with fail
                refine TF.out.mono ?_
                rintro e wy ⟨rfl, hry, gy⟩
                rw [hEE] at hry
                have SY := Lib.hid (SW.out.code hry gy)
                have n2 := (SY.out.bel.cell (p := ⟨b2, o2 + k, none⟩) hb2').trans g2
                clear TF hry gy SW
                go_wp2_with fail
                refine (W16.out _).mono ?_
                rintro e w' ⟨rfl, rfl⟩
                clear W16
                have TF2 := Lib.hid (qfail f16 SY.out.qr)
                go_wp2_with fail
                refine TF2.out.mono ?_
                rintro e wz ⟨rfl, hqz, oz⟩
                rw [hEE] at hqz
                have SX := Lib.hid (SY.out.ref hqz (only_newer oz))
                clear TF2 hqz oz SY hEE
                have hb9 := SX.out.bel
                have TE := Lib.hid (end_any SX.out.rd (by rw [List.length_drop, HLen.out]; omega))
                rw [List.length_drop, HLen.out] at TE
                go_wp2_with fail
                refine TE.out.mono ?_
                rintro e wa ⟨rfl, da⟩
                have SA := Lib.hid (SX.out.drews da)
                clear TE da SX hb9
                have TE2 := Lib.hid (qend SA.out.qr (by omega) hP)
                generalize endE (len0 - P) E2 = ee at *
                go_wp2_with fail
                refine TE2.out.mono ?_
                rintro e wb ⟨rfl, db⟩
                have SB := Lib.hid (SA.out.drews db)
                clear TE2 db SA
                have TL := Lib.hid (left_any SB.out.rd (by rw [List.length_drop, HLen.out]; omega))
                rw [List.length_drop, HLen.out] at TL
                go_wp2_with fail
                refine TL.out.mono ?_
                rintro e wc ⟨rfl, rfl⟩
                clear TL
                have TL2 := Lib.hid (qleft SB.out.qr (by omega) hP)
                generalize (if E2 = 0 then ((len0 - P : Nat) : Int) else 0) = ll at *
                go_wp2_with fail
                refine TL2.out.mono ?_
                rintro e wd ⟨rfl, dd⟩
                have SC := Lib.hid (SB.out.drews dd)
                have hbd := SC.out.bel
                clear TL2 dd SB
                go_wp2
                go_roundw
                case rel => exact ⟨k + 1, P, E2, by omega, by go_num, hP, SC.out⟩
                case measure => simp [intOf] <;> omega
              · have h4b : (aa.tmod 4 == 0) = false := by simpa using h4
                clear h4 g2
                obtain ⟨E2, hEE⟩ : ∃ E2, E = E2 := ⟨_, rfl⟩
                subst hEE
                have hP2 := hP
                have SX := SW
                clear SW
                go_wp2_with fail
                refine (WI.out _).mono ?_
                rintro e w' ⟨rfl, rfl⟩
                clear WI
                have hb9 := SX.out.bel
                have TE := Lib.hid (end_any SX.out.rd (by rw [List.length_drop, HLen.out]; omega))
                rw [List.length_drop, HLen.out] at TE
                go_wp2_with fail
                refine TE.out.mono ?_
                rintro e wa ⟨rfl, da⟩
                have SA := Lib.hid (SX.out.drews da)
                clear TE da SX hb9
                have TE := Lib.hid (qend SA.out.qr (by omega) hP)
                generalize endE (len0 - P) E = ee at *
                go_wp2_with fail
                refine TE.out.mono ?_
                rintro e wb ⟨rfl, db⟩
                have SB := Lib.hid (SA.out.drews db)
                clear TE db SA
                have TL := Lib.hid (left_any SB.out.rd (by rw [List.length_drop, HLen.out]; omega))
                rw [List.length_drop, HLen.out] at TL
                go_wp2_with fail
                refine TL.out.mono ?_
                rintro e wc ⟨rfl, rfl⟩
                clear TL
                have TL2 := Lib.hid (qleft SB.out.qr (by omega) hP)
                generalize (if E = 0 then ((len0 - P : Nat) : Int) else 0) = ll at *
                go_wp2_with fail
                refine TL2.out.mono ?_
                rintro e wd ⟨rfl, dd⟩
                have SC := Lib.hid (SB.out.drews dd)
                have hbd := SC.out.bel
                clear TL2 dd SB
                go_wp2
                go_roundw
                case rel => exact ⟨k + 1, P, E, by omega, by go_num, hP, SC.out⟩
                case measure => simp [intOf] <;> omega
            · omega
          · have c3 : (k : Int) < (len1 : Int) := by omega
            have c4 : (k : Int) < (len2 : Int) := by omega
            have c5 : ¬ (k : Int) < 30 := by omega
            go_wp2
            go_ret
            exact ⟨rfl, hbw⟩
        · have c3 : (k : Int) < (len1 : Int) := by omega
          have c4 : ¬ (k : Int) < (len2 : Int) := by omega
          go_wp2
          go_ret
          exact ⟨rfl, hbw⟩
      · have c3 : ¬ (k : Int) < (len1 : Int) := by omega
        go_wp2
        go_ret
        exact ⟨rfl, hbw⟩
  · have cni : (300 : Int) < (len0 : Int) := by omega
    go_enter Try.func4, Try.ntmps4
    go_wp2_with fail
    refine (known1 _).mono ?_
    rintro e w1 ⟨rfl, h1⟩
    go_wp2
    go_ret
    exact ⟨rfl, h1⟩
end Go.Proofs.Ytjnmdfnankcboaa
