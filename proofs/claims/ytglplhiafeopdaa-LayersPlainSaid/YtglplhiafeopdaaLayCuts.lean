/- The statement LayersCuts of chapter 14, walked. -/
import Derived.Test.YtglplhiafeopdaaLayAll
set_option linter.unusedVariables false
namespace Go.Proofs.Ytglplhiafeopdaa
open Go.RowKit Go.Shelf

/-- From a to b there is one piece. -/
def Good (s t a b : Int) : Prop := a < b ∧ (∀ k, a ≤ k → k < b - 1 → endsF s k = false) ∧ (endsF s (b - 1) = true ∨ b = t)
/-- Pieces one behind the other, from f to e. -/
def Chn (s t : Int) : Int → List (Int × Int) → Int → Prop
  | f, [], e => f = e
  | f, p :: r, e => p.1 = f ∧ Good s t f p.2 ∧ Chn s t p.2 r e
theorem Chn.snoc {s t : Int} : ∀ {L : List (Int × Int)} {f e b : Int}, Chn s t f L e → Good s t e b → Chn s t f (L ++ [(e, b)]) b
  | [], f, e, b, h, g => by
    have h : f = e := h
    subst h
    exact ⟨rfl, g, rfl⟩
  | p :: r, f, e, b, h, g => ⟨h.1, h.2.1, Chn.snoc h.2.2 g⟩
theorem pcs_chn {s f t : Int} (m : Nat) (hm : f + m ≤ t) : Chn s t f (pcs s f t m).1 (pcs s f t m).2 ∧ (∀ k, (pcs s f t m).2 ≤ k → k < f + m → endsF s k = false) ∧ (f + m = t → (pcs s f t m).2 = t) := by
  induction m with
  | zero => exact ⟨rfl, fun k h1 h2 => by have h1 : f ≤ k := h1; simp at h2; omega, fun h => by simp at h; exact h⟩
  | succ m ih =>
    obtain ⟨h1, h2, _⟩ := ih (by push_cast at hm; omega)
    have hb := pcs_bd s f t m
    by_cases c : f + m < t - 1 ∧ endsF s (f + m) = false
    · rw [pcs_on c.1 c.2]
      refine ⟨h1, fun k k1 k2 => ?_, fun h => by push_cast at h; omega⟩
      by_cases e : k = f + m
      · rw [e]; exact c.2
      · exact h2 k k1 (by push_cast at k2; omega)
    · rw [pcs_cut c]
      refine ⟨Chn.snoc h1 ⟨by omega, fun k k1 k2 => h2 k k1 (by omega), ?_⟩, fun k k1 k2 => ?_, fun h => ?_⟩
      · rw [show f + (m : Int) + 1 - 1 = f + m by omega]
        cases he : endsF s (f + m)
        · right
          have : ¬ f + (m : Int) < t - 1 := fun h => c ⟨h, he⟩
          push_cast at hm
          omega
        · exact .inl rfl
      · have k1 : f + (m : Int) + 1 ≤ k := k1
        push_cast at k2
        omega
      · show f + (m : Int) + 1 = t
        push_cast at h
        omega
theorem pcs_all {s f t : Int} (h : f ≤ t) : Chn s t f (pcs s f t (t - f).toNat).1 t := by
  have hm : f + ((t - f).toNat : Int) = t := by omega
  have := pcs_chn (s := s) (f := f) (t := t) (t - f).toNat (by omega)
  rw [this.2.2 hm] at this
  exact this.1
theorem Chn.le {s t : Int} : ∀ {L : List (Int × Int)} {f e : Int}, Chn s t f L e → f ≤ e
  | [], f, e, h => by have h : f = e := h; omega
  | p :: r, f, e, h => by have h1 := h.2.1.1; have h2 := Chn.le h.2.2; omega
theorem drop_cons {α : Type} {L : List α} {i : Nat} {x : α} {r : List α} (h : L.drop i = x :: r) : L[i]? = some x ∧ L.drop (i + 1) = r ∧ i < L.length := by
  have h0 : L[i]? = some x := by have := List.getElem?_drop (xs := L) (i := i) (j := 0); rw [h] at this; simpa using this.symm
  refine ⟨h0, ?_, (List.getElem?_eq_some_iff.1 h0).1⟩
  rw [← List.drop_drop, h]; rfl
theorem map_getD {α : Type} {L : List α} {i : Nat} {x : α} (h : L[i]? = some x) (g : α → Int) : (L.map g).getD i 0 = g x := by
  rw [List.getD_eq_getElem?_getD, List.getElem?_map, h]; rfl
theorem lends_pick (s k : Int) {b : Bool} (hk : -9223372036854775808 ≤ k ∧ k ≤ 9223372036854775807) (hb : endsF s k = b) (w : World) :
    Calls Try.prog 15 #[.int .i64 s, .int .i64 k] w fun e w' => e = .returned (.bool b) ∧ w' = w := by
  subst hb; exact (lends_same s k w hk).mono fun _ _ ⟨he, hw⟩ => ⟨he, hw.symm⟩

set_option maxRecDepth 100000 in
set_option maxHeartbeats 8000000 in
theorem walk_layersCuts (a0 : Int) (a1 : Int) (a2 : Int) (a3 : Option Addr) (len3 cap3 : Nat) (z3 : List Int) (w : World) (w0 : (Lit.int .i64 a0).wf = true) (w1 : (Lit.int .i64 a1).wf = true) (w2 : (Lit.int .i64 a2).wf = true) (w3 : IsRow .i64 w a3 len3 cap3 z3) :
    Calls Try.prog 5 #[.int .i64 a0, .int .i64 a1, .int .i64 a2, .slice a3 len3 cap3] w fun e w' => e = .returned (.bool true) ∧ Below w.heap.size w w' := by
  obtain ⟨i0, hi, hz0, hz1, hz2⟩ := info_parts Try.info3
  have hrow := rowI_is w3
  have hcm := hrow.2.2.1
  have hlc := hrow.2.1
  unfold maxLen at hcm
  have HR := Lib.hid hrow
  clear w0 w1 w2 w3 hrow
  go_enter Try.func5, Try.ntmps5
  go_wp2_with fail
  refine (known14 _).mono ?_
  rintro e w1 ⟨rfl, d1⟩
  have h1 := d1.below
  clear d1
  go_wp2_with fail
  refine (some14 _ _ _ (by omega) (by omega)).mono ?_
  rintro e w' ⟨st, rfl, s0, s1, rfl⟩
  go_upto_block 0 with fail
  go_cut [9, 10, 11] from 23 to 43 (fun v a i wx => ∃ (A : Option Addr) (c k : Nat) (E : List Int) (u1 u2 : Int), a = .int .i64 u1 ∧ i = .int .i64 u2 ∧ v = .slice A k c ∧ k ≤ 60 ∧ RowI wx A k c E ∧ Near E ∧ Below w.heap.size w wx)
  case first =>
    go_wp2_with fail
    go_loopw [9, 10, 11] (fun v a i wr => ∃ (k : Nat) (E : List Int) (s : Int), k ≤ len3 ∧ k ≤ 60 ∧ i = .int .i64 k ∧ a = .int .i64 s ∧ 0 ≤ s ∧ s ≤ 50 * k ∧ Near E ∧ wr.ownsRow w.heap.size 3 1 v k (E.map (Value.int .i64)) ∧ Below w.heap.size w wr) (fun _ _ i _ => 60 - (intOf i).toNat)
    case atStart => exact ⟨0, [], 0, by omega, by omega, rfl, rfl, by omega, by omega, near_nil, World.ownsRow_nil _ _ _ _, h1⟩
    case round =>
      obtain ⟨k, E, s, k0, k1, rfl, rfl, sa, sb, hE, hown, hB⟩ := hrel
      clear h1
      by_cases cc : k < len3 ∧ k < 60
      · obtain ⟨ca, cb⟩ := cc
        obtain ⟨b, o, rfl, hb, m0⟩ := HR.out.cell ca
        have m1 := (hB.cell (p := ⟨b, o + k, none⟩) hb).trans m0
        have cb' : (k : Int) < 60 := by omega
        have HE := Lib.hid hE
        clear m0 hE
        generalize (z3.take len3).getD k 0 = x at *
        go_wp2_with fail
        refine (some14 _ _ _ (by omega) (by omega)).mono ?_
        rintro e w' ⟨r, rfl, r0, r1, rfl⟩
        clear m1
        go_wp2_with (at_builtin; refine wpList_append_own _ rfl _ _ 22 rfl w.heap.size 3 i0 (.int .i64 0) 1 8 Try.underlying22 hi hz0 hz1 hz2 rfl (by decide) _ _ _ rfl (hown.alloc _) ⟨wr.heap.size, 0, none⟩ 1 1 [.int .i64 (s + r)] rfl rfl (cell_one_new _ _ _) (by simp [Value.oneCell']) (by unfold maxLen; omega) (by omega) (by have := hB.size; simp; omega) ?_; intro v' w1 hown' hgrow _; obtain ⟨g', cap', rfl⟩ := ownsRow_succ hown'; have hB1 := (hB.alloc hB.size _).grown hgrow (by have := hB.size; simp; omega) (fun q e => (own_lt hown e).1))
        have HO := Lib.hid (own_snoc hown')
        clear hown hown' hgrow hB
        go_roundw
        case rel => exact ⟨k + 1, E ++ [s + r], s + r, by omega, by omega, by go_num, rfl, by omega, by push_cast; omega, near_snoc HE.out (by omega) (by omega), HO.out, hB1⟩
        case measure => simp [intOf]; omega
      · obtain ⟨A, c, rfl, hA⟩ := rowI_own (show wr.ownsRow w.heap.size 3 1 _ k (E.map (Value.int .i64)) from hown)
        have HA := Lib.hid hA
        have HE := Lib.hid hE
        clear hown hE hA
        by_cases c1 : k < len3
        · have c2 : ¬ (k : Int) < 60 := by omega
          go_wp2
          go_meet
          exact ⟨A, c, k, E, s, k, rfl, rfl, rfl, k1, HA.out, HE.out, hB⟩
        · go_wp2
          go_meet
          exact ⟨A, c, k, E, s, k, rfl, rfl, rfl, k1, HA.out, HE.out, hB⟩
  case rest =>
    obtain ⟨A, c, k, E, u1, u2, rfl, rfl, rfl, k1, hA, hE, hB⟩ := hcut
    have HA := Lib.hid hA
    have HE := Lib.hid hE
    have hkc := hA.2.1
    have hcc := hA.2.2.1
    unfold maxLen at hcc
    clear hE hA h1
    go_wp2_with fail
    refine (some14 _ _ _ (by omega) (by omega)).mono ?_
    rintro e w' ⟨tto, rfl, p0, p1, rfl⟩
    go_wp2_with fail
    refine (some14 _ _ _ (by omega) (by omega)).mono ?_
    rintro e w' ⟨fr, rfl, f0, f1, rfl⟩
    go_wp2_with fail
    refine (segments_any HA.out HE.out _ _ _ f0 (by omega) (by omega) (by omega) (by omega)).mono ?_
    rintro e w3 ⟨ys, A1, c1, A2, c2, rfl, hys, r1, r2, b3⟩
    obtain ⟨e1, e2, e3⟩ := pcs_map hys E
    rw [e1, e2] at r1
    rw [e1, e3] at r2
    have HA3 := Lib.hid (HA.out.keep b3 (Nat.le_refl _))
    have hB3 := hB.trans (b3.mono hB.size)
    have HCH := Lib.hid (pcs_all (s := st) (f := fr) (t := tto) (by omega))
    have hpl := pcs_len st fr tto (tto - fr).toNat
    clear hys e2 e3 b3
    rw [e1]
    clear e1
    generalize (pcs st fr tto (tto - fr).toNat).1 = P at *
    have R1 := Lib.hid r1
    have R2 := Lib.hid r2
    have HB3 := Lib.hid hB3
    have hpn : P.length ≤ 60 := by omega
    have hc1 := r1.2.1
    have hm1 := r1.2.2.1
    have hc2 := r2.2.1
    have hm2 := r2.2.2.1
    unfold maxLen at hm1 hm2
    clear r1 r2 hB3 hB HA hpl
    go_wp2_with fail
    go_loopw [14, 15, 16] (fun kv nv iv wr => ∃ (i : Nat) (k : Int), i ≤ P.length ∧ iv = .int .i64 i ∧ kv = .int .i64 k ∧ nv = .int .i64 (bef E k - bef E fr) ∧ Chn st tto k (P.drop i) tto ∧ fr ≤ k ∧ k ≤ tto ∧ Drew w3 wr) (fun _ _ iv _ => P.length - (intOf iv).toNat)
    case atStart => exact ⟨0, fr, by omega, rfl, rfl, by rw [Int.sub_self], HCH.out, by omega, by omega, Drew.refl _⟩
    case round =>
      obtain ⟨i, q, il, rfl, rfl, rfl, hch, q0, q1, d3⟩ := hrel
      have y1 := bef_bd HE.out q
      have y2 := bef_bd HE.out fr
      cases hdr : P.drop i with
      | nil =>
        rw [hdr] at hch
        have hq : q = tto := hch
        have hip : i = P.length := by have := congrArg List.length hdr; simp at this; omega
        have D3 := Lib.hid d3
        clear hch hdr d3
        subst hq
        subst hip
        have hA := HA3.out.drew D3.out
        have hAc : ∀ k : Nat, k < _ → _ := fun k hk => hA.cell (k := k) hk
        have HAC := Lib.hid hAc
        clear hA hAc
        obtain ⟨Y1, hY1⟩ : ∃ Y, bef E q = Y := ⟨_, rfl⟩
        obtain ⟨Y2, hY2⟩ : ∃ Y, bef E fr = Y := ⟨_, rfl⟩
        rw [hY1] at y1 ⊢
        rw [hY2] at y2 ⊢
        obtain ⟨nv, hnv⟩ : ∃ nv, Y1 - Y2 = nv := ⟨_, rfl⟩
        rw [hnv]
        have HY1 := Lib.hid hY1
        have HY2 := Lib.hid hY2
        have HN := Lib.hid hnv
        clear hY1 hY2 hnv
        by_cases c1 : fr < q
        · obtain ⟨q', rfl⟩ : ∃ q' : Nat, q = (q' : Int) + 1 := ⟨(q - 1).toNat, by omega⟩
          obtain ⟨bq, oq, rfl, hbq, mq⟩ := HAC.out q' (by omega)
          rw [show E.getD q' 0 = Y1 by rw [← HY1.out, bef_at]] at mq
          have eq1 : ((q' : Int) + 1 - 1) = (q' : Int) := by omega
          have hqk : (q' : Int) < (k : Int) := by omega
          by_cases c2 : 0 < fr
          · obtain ⟨f', rfl⟩ : ∃ f' : Nat, fr = (f' : Int) + 1 := ⟨(fr - 1).toNat, by omega⟩
            obtain ⟨bf, of', ef, hbf, mf⟩ := HAC.out f' (by omega)
            injection ef with ef
            injection ef with ef1 ef2
            subst ef1 ef2
            rw [show E.getD f' 0 = Y2 by rw [← HY2.out, bef_at]] at mf
            have ef1 : ((f' : Int) + 1 - 1) = (f' : Int) := by omega
            have hfk : (f' : Int) < (k : Int) := by omega
            have hx : (nv == Y1 - Y2) = true := by rw [← HN.out]; exact beq_self_eq_true _
            go_wp2
            go_ret
            exact ⟨rfl, Drew.to HB3.out D3.out⟩
          · have hx : (nv == Y1) = true := by
              have : Y2 = 0 := by rw [← HY2.out, bef_lo (by omega)]
              rw [← HN.out, this, Int.sub_zero]; exact beq_self_eq_true _
            go_wp2
            go_ret
            exact ⟨rfl, Drew.to HB3.out D3.out⟩
        · have hx : (nv == 0) = true := by
            have hfq : fr = q := by omega
            have h2 := HY2.out
            rw [hfq, HY1.out] at h2
            rw [← HN.out, h2, Int.sub_self]; rfl
          go_wp2
          go_ret
          exact ⟨rfl, Drew.to HB3.out D3.out⟩
      | cons p rest =>
        obtain ⟨pa, b⟩ := p
        obtain ⟨hat, hdn, hip⟩ := drop_cons hdr
        rw [hdr] at hch
        obtain ⟨hpa, hgd, hch2⟩ := hch
        have hpa : pa = q := hpa
        subst hpa
        have hbt : b ≤ tto := Chn.le hch2
        obtain ⟨g1, g2, g3⟩ := hgd
        have g1 : pa < b := g1
        have HG := Lib.hid (And.intro g2 (And.intro g3 (And.intro hch2 hdn)))
        have hm1' : Hid ((P.map qN).getD i 0 = b - pa) := Lib.hid (map_getD hat qN)
        have hm2' : Hid ((P.map (qB E)).getD i 0 = bef E b - bef E pa) := Lib.hid (map_getD hat (qB E))
        obtain ⟨bb1, o1, ea1, hb1, m1⟩ := (R1.out.drew d3).cell hip
        obtain ⟨bb2, o2, ea2, hb2, m2⟩ := (R2.out.drew d3).cell hip
        rw [hm1'.out] at m1
        rw [hm2'.out] at m2
        have M1 := Lib.hid m1
        have M2 := Lib.hid m2
        have D3 := Lib.hid d3
        have hip' : (i : Int) < (P.length : Int) := by omega
        clear g2 g3 hch2 hdn hat hdr m1 m2 d3
        subst ea1
        subst ea2
        have y3 := bef_bd HE.out b
        obtain ⟨Y1, hY1⟩ : ∃ Y, bef E pa = Y := ⟨_, rfl⟩
        obtain ⟨Y2, hY2⟩ : ∃ Y, bef E fr = Y := ⟨_, rfl⟩
        obtain ⟨Y3, hY3⟩ : ∃ Y, bef E b = Y := ⟨_, rfl⟩
        rw [hY1] at y1 M2 ⊢
        rw [hY2] at y2 ⊢
        rw [hY3] at y3 M2
        have HY2 := Lib.hid (And.intro hY2 hY3)
        clear hY1 hY2 hY3
        obtain ⟨wo, rfl⟩ : ∃ wo : World, wo = wr := ⟨_, rfl⟩
        go_wp2_with fail
        go_loopw [14, 17] (fun kv jv wr2 => ∃ j : Nat, pa + j ≤ b ∧ jv = .int .i64 j ∧ kv = .int .i64 (pa + j) ∧ Drew wo wr2) (fun _ jv _ => (b - pa - intOf jv).toNat)
        case atStart => exact ⟨0, by omega, rfl, by simp, Drew.refl _⟩
        case round =>
          obtain ⟨j, hj, rfl, rfl, d4⟩ := hrel
          have m1 : wr.cell? ⟨bb1, o1 + i, none⟩ = some (.int .i64 (b - pa)) := by obtain ⟨nd, rfl⟩ := d4; exact M1.out
          have m2 : wr.cell? ⟨bb2, o2 + i, none⟩ = some (.int .i64 (Y3 - Y1)) := by obtain ⟨nd, rfl⟩ := d4; exact M2.out
          have D4 := Lib.hid d4
          clear d4
          by_cases cj : pa + j < b
          · have cj' : (j : Int) < b - pa := by omega
            by_cases cA : pa + j < b - 1
            · have he := HG.out.1 (pa + j) (by omega) cA
              have e1 : ((j : Int) == b - pa - 1) = false := by simp; omega
              have LE : Hid (∀ u, Calls Try.prog 15 #[.int .i64 st, .int .i64 (pa + j)] u fun e w' => e = .returned (.bool false) ∧ w' = u) := Lib.hid (lends_pick _ _ (by omega) he)
              clear he
              go_wp2
              go_quiet ((go_at_call 15; exact Calls.quiet_of_same (LE.out _)))
              go_wp2
              go_roundw
              case rel => exact ⟨j + 1, by push_cast; omega, by go_num, by push_cast; go_num, D4.out.trans (Drew.mk _ _)⟩
              case measure => simp [intOf]; omega
            · have hjb : pa + j = b - 1 := by omega
              have e1 : ((j : Int) == b - pa - 1) = true := by simp; omega
              cases he : endsF st (pa + j)
              · have e2 : (pa + (j : Int) != tto - 1) = false := by
                  rcases HG.out.2.1 with h | h
                  · rw [← hjb, he] at h; cases h
                  · simp; omega
                have LE : Hid (∀ u, Calls Try.prog 15 #[.int .i64 st, .int .i64 (pa + j)] u fun e w' => e = .returned (.bool false) ∧ w' = u) := Lib.hid (lends_pick _ _ (by omega) he)
                have HJB := Lib.hid hjb
                clear he hjb
                go_wp2
                go_quiet ((go_at_call 15; exact Calls.quiet_of_same (LE.out _)))
                go_wp2
                go_roundw
                case rel => exact ⟨j + 1, by push_cast; omega, by go_num, by push_cast; go_num, D4.out.trans (Drew.mk _ _)⟩
                case measure => simp [intOf]; omega
              · have LE : Hid (∀ u, Calls Try.prog 15 #[.int .i64 st, .int .i64 (pa + j)] u fun e w' => e = .returned (.bool true) ∧ w' = u) := Lib.hid (lends_pick _ _ (by omega) he)
                have HJB := Lib.hid hjb
                clear he hjb
                go_wp2
                go_quiet ((go_at_call 15; exact Calls.quiet_of_same (LE.out _)))
                go_wp2
                go_roundw
                case rel => exact ⟨j + 1, by push_cast; omega, by go_num, by push_cast; go_num, D4.out.trans (Drew.mk _ _)⟩
                case measure => simp [intOf]; omega
          · have cj' : ¬ (j : Int) < b - pa := by omega
            go_wp2
            go_roundw
            case rel => exact ⟨i + 1, b, by omega, by go_num, by rw [show pa + (j : Int) = b by omega], by rw [HY2.out.2, show Y1 - Y2 + (Y3 - Y1) = Y3 - Y2 by omega], by rw [HG.out.2.2.2]; exact HG.out.2.2.1, by omega, by omega, D3.out.trans D4.out⟩
            case measure => simp [intOf]; omega
end Go.Proofs.Ytglplhiafeopdaa
