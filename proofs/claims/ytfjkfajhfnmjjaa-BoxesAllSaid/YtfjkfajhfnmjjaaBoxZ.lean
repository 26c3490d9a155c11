/- boxes: BoxesAll. -/
import Derived.Test.YtfjkfajhfnmjjaaBoxY
import Derived.Test.YtfjkfajhfnmjjaaBoxK
import Derived.Deep.CutBlock
import Derived.Deep.CutRange
set_option linter.unusedVariables false
set_option linter.unusedSimpArgs false
namespace Go.Proofs.Ytfjkfajhfnmjjaa
open Go.RowKit
attribute [local go_sem ↓] appSem_eq
set_option maxRecDepth 100000
theorem row_below {k : IntKind} {w w' : World} {a : Option Addr} {len cap : Nat} {zs : List Int} (h : IsRow k w a len cap zs) (hb : Below w.heap.size w w') : IsRow k w' a len cap zs := by
  rcases h with h | ⟨x, h1, h2, h3, h4, h5, h6⟩
  · exact .inl h
  · exact .inr ⟨x, h1, h2, h3, h4, fun i hi => (hb.cell (World.block_lt_of_cell? w _ (h5 i hi))).trans (h5 i hi), h6⟩
theorem row_at {k : IntKind} {w : World} {a : Option Addr} {len cap : Nat} {zs : List Int} (h : IsRow k w a len cap zs) {i : Nat} (hi : i < len) : ∃ b o, a = some ⟨b, o, none⟩ ∧ ∃ AT, w.cell? ⟨b, o + i, none⟩ = some (.int k AT) ∧ (Lit.int k AT).wf = true ∧ b < w.heap.size := by
  have hl := lst_of_row h
  obtain ⟨e, _⟩ := row_len h
  obtain ⟨b, o, h1, h2, h3⟩ := hl i (.int k (zs.getD i 0)) (by
    rw [List.getElem?_map, List.getElem?_take, if_pos hi]
    rw [List.length_take] at e
    rw [List.getElem?_eq_getElem (by omega), List.getD_eq_getElem?_getD, List.getElem?_eq_getElem (by omega)]
    rfl)
  refine ⟨b, o, h1, _, h3, ?_, h2⟩
  rcases h with ⟨_, rfl, _⟩ | ⟨x, _, _, _, h4, _, h6⟩
  · omega
  · refine h6 _ ?_
    rw [List.length_take] at e
    rw [List.getD_eq_getElem?_getD, List.getElem?_eq_getElem (by omega)]
    exact List.getElem_mem _
theorem bd_u8 {n : Int} (h : (Lit.int .u8 n).wf = true) : 0 ≤ n ∧ n ≤ 255 := by
  have hmin : IntKind.u8.min = 0 := rfl
  have hmax : IntKind.u8.max = 255 := rfl
  simp only [Lit.wf, Bool.and_eq_true, decide_eq_true_eq] at h
  omega
theorem u8_wrap (n : Int) : IntKind.u8.wrap n = n % 256 := by rw [IntKind.wrap_u8]
def Good60 (bs : List (List Int × List Int)) : Prop := ∀ x ∈ bs, x.1.length = 4 ∧ x.2.length ≤ 60 ∧ (∀ y ∈ x.1, 0 ≤ y ∧ y ≤ 255) ∧ ∀ y ∈ x.2, 0 ≤ y ∧ y ≤ 255
theorem Good60.good {bs : List (List Int × List Int)} (h : Good60 bs) : ∀ x ∈ bs, GoodB x := fun x hx => ⟨(h x hx).1, by have := (h x hx).2.1; omega, (h x hx).2.2.1, (h x hx).2.2.2⟩
theorem Good60.len {bs : List (List Int × List Int)} (h : Good60 bs) : (wrB bs).length ≤ 72 * bs.length := by
  induction bs with
  | nil => exact Nat.le_refl _
  | cons x l ih =>
    have := ih (fun y hy => h y (List.mem_cons_of_mem _ hy))
    have hx := h x (by simp)
    have hb : (boxB x).length = 4 + x.1.length + x.2.length := by unfold boxB; simp only [List.length_append, putL_len]
    unfold wrB at this ⊢
    rw [List.flatMap_cons, List.length_append, List.length_cons, hb]
    omega
theorem Good60.rd {bs : List (List Int × List Int)} (h : Good60 bs) (hn : bs.length ≤ 20) : rdF ((wrB bs).length + 1) 0 (wrB bs) = .good bs := by
  have hw : ∀ (l : List (List Int × List Int)), (∀ x ∈ l, GoodB x) → l.length ≤ (wrB l).length := by
    intro l
    induction l with
    | nil => intro _; exact Nat.zero_le _
    | cons x l ih =>
      intro h
      have := ih fun y hy => h y (List.mem_cons_of_mem _ hy)
      have hb : (boxB x).length = 4 + x.1.length + x.2.length := by unfold boxB; simp only [List.length_append, putL_len]
      unfold wrB at this ⊢
      rw [List.flatMap_cons, List.length_append, List.length_cons, hb]
      omega
  have := hw bs h.good
  rw [rdF_wr bs _ 0 (by omega) h.good (by omega), if_pos (by omega)]
theorem rdF_len : ∀ (f c : Nat) (r : List Int) (l : List (List Int × List Int)), c ≤ 100 → rdF f c r = .good l → c + l.length ≤ 100 := by
  intro f
  induction f with
  | zero => intro c r l hc h; rw [rdF] at h; cases h; exact hc
  | succ f ih =>
    intro c r l hc h
    rw [rdF] at h
    split at h
    · cases h; exact hc
    · cases hn : nxt r with
      | err e => rw [hn] at h; cases h
      | box k d r' =>
        rw [hn] at h
        simp only at h
        split at h
        · cases h
        · cases hr : rdF f (c + 1) r' with
          | bad e => rw [hr] at h; cases h
          | good l' =>
            rw [hr] at h
            simp only [Res.app] at h
            cases h
            have := ih (c + 1) r' l' (by omega) hr
            simp only [List.length_append, List.length_cons, List.length_nil]
            omega
/-- An entry of a row of slices. -/
def Ent (w : World) (B z i : Nat) : Prop := ∃ (A : Option Addr) (n c : Nat) (L : List Int), w.cell? ⟨z, i, none⟩ = some (.slice A n c) ∧ L.length = n ∧ n ≤ 2000 ∧ n ≤ c ∧ c ≤ maxLen ∧ (A = none → n = 0 ∧ c = 0) ∧ Lst w B A (L.map (Value.int .u8)) ∧ ∀ x ∈ L, 0 ≤ x ∧ x ≤ 255
theorem BoxQ.rd' {w : World} {q : Nat} {V : Value} {bs : List (List Int × List Int)} (h : BoxQ w q V bs) : BxR w w.heap.size V bs := h.rd
theorem BxR.nil (w : World) (B : Nat) : BxR w B (.slice none 0 0) [] := ⟨none, 0, rfl, by simp⟩
/-- Both readings of the same bytes. -/
theorem both_any {w : World} {A A' : Option Addr} {n c c' : Nat} {L : List Int} (hl : L.length = n) (hn : n ≤ 2000) (hA : A = none → n = 0 ∧ c = 0) (hL : Lst w w.heap.size A (L.map (Value.int .u8))) (hby : ∀ x ∈ L, 0 ≤ x ∧ x ≤ 255) :
    ∃ (e : Int) (bs : List (List Int × List Int)), bs.length ≤ 100 ∧ (Calls Try.prog 11 #[.slice A n c] w fun x w' => Below w.heap.size w w' ∧ ∃ V, x = .returned (.tuple #[V, .int .i64 e]) ∧ BxR w' w'.heap.size V bs) ∧
      ∀ (u : World) (A' : Option Addr) (c' : Nat), (A' = none → n = 0 ∧ c' = 0) → n ≤ c' → c' ≤ maxLen → Lst u u.heap.size A' (L.map (Value.int .u8)) → Calls Try.prog 14 #[.slice A' n c'] u fun x w' => Below u.heap.size u w' ∧ ∃ V, x = .returned (.tuple #[V, .int .i64 e]) ∧ BxR w' w'.heap.size V bs := by
  have R1 := read_any A n c L w hl hA hL (by omega) hby
  have R2 := fun (u : World) (A' : Option Addr) (c' : Nat) h1 h2 h3 h4 => rread_any A' n c' L u hl h1 h4 (by omega) hby h2 h3
  cases hr : rdF (L.length + 1) 0 L with
  | bad e =>
    refine ⟨e, [], by simp, R1.mono ?_, fun u A' c' h1 h2 h3 h4 => (R2 u A' c' h1 h2 h3 h4).mono ?_⟩
    · rintro x w' ⟨hb, h⟩
      rw [hr] at h
      exact ⟨hb, _, h, BxR.nil _ _⟩
    · rintro x w' ⟨hb, h⟩
      rw [hr] at h
      exact ⟨hb, _, h, BxR.nil _ _⟩
  | good l =>
    have hll := rdF_len _ _ _ _ (by omega) hr
    refine ⟨0, l, by omega, R1.mono ?_, fun u A' c' h1 h2 h3 h4 => (R2 u A' c' h1 h2 h3 h4).mono ?_⟩
    · rintro x w' ⟨hb, h⟩
      rw [hr] at h
      obtain ⟨V, h1, h2⟩ := h
      exact ⟨hb, V, h1, h2.rd⟩
    · rintro x w' ⟨hb, h⟩
      rw [hr] at h
      obtain ⟨V, h1, h2⟩ := h
      exact ⟨hb, V, h1, h2.rd⟩
set_option maxHeartbeats 8000000 in
set_option pp.deepTerms true in
set_option pp.maxSteps 10000000 in
theorem walk_boxesAll (a0 : Option Addr) (len0 cap0 : Nat) (a1 : Option Addr) (len1 cap1 : Nat) (z1 : List Int) (a2 : Option Addr) (len2 cap2 : Nat) (z2 : List Int) (a3 : Int) (a4 : Option Addr) (len4 cap4 : Nat) (z4 : List Int) (w : World)
    (w0 : BoxIn w a0 len0 cap0) (w1 : IsRow .i64 w a1 len1 cap1 z1) (w2 : IsRow .u8 w a2 len2 cap2 z2) (w3 : (Lit.int .i64 a3).wf = true) (w4 : IsRow .u8 w a4 len4 cap4 z4) :
    Calls Try.prog 3 #[.slice a0 len0 cap0, .slice a1 len1 cap1, .slice a2 len2 cap2, .int .i64 a3, .slice a4 len4 cap4] w fun e w' => e = .returned (.bool true) ∧ Below w.heap.size w w' := by
  have K := Lib.hid (fun u => known20 u)
  have h3b := bd_i64 w3
  have hl4 := lst_of_row w4
  obtain ⟨e4, hlc4, hcm4, hn4⟩ := row_len w4
  have hb4 := row_u8 w4
  generalize z4.take len4 = R4 at *
  unfold maxLen at hcm4
  obtain ⟨e1, hlc1, hcm1, hn1⟩ := row_len w1
  obtain ⟨e2, hlc2, hcm2, hn2⟩ := row_len w2
  unfold maxLen at hcm1 hcm2
  have W0 := Lib.hid w0
  have W1 := Lib.hid w1
  have W2 := Lib.hid w2
  have R4H := Lib.hid (And.intro hl4 (And.intro e4 (And.intro hn4 hb4)))
  clear w0 w1 w2 w3 w4 hl4 e4 hn4 hb4 e1 e2 hn1 hn2
  by_cases hc : len4 ≤ 200
  · have h2 : ¬ (200 : Int) < (len4 : Int) := by omega
    go_enter Try.func3, Try.ntmps3
    go_wp2_with fail
    refine (K.out _).mono ?_
    rintro e u0 ⟨rfl, hb⟩
    have HB := Lib.hid hb
    clear hb K
    have W0' : Hid (BoxIn u0 a0 len0 cap0) := Lib.hid (by
      obtain ⟨h1, h2, h⟩ := W0.out
      refine ⟨h1, h2, fun i hi => ?_⟩
      obtain ⟨b, o, h0, h3, S, va, ln, cp, zs, q0, q1, q2, q3⟩ := h i hi
      exact ⟨b, o, h0, Nat.lt_of_lt_of_le h3 HB.out.size, S, va, ln, cp, zs, q0, (HB.out.cell (p := ⟨b, _, none⟩) h3).trans q1, (HB.out.cell (p := ⟨b, _, none⟩) h3).trans q2, row_below q3 HB.out⟩)
    go_wp2_with fail
    refine (rows_any W0'.out).mono ?_
    rintro e u1 ⟨V1, V2, bs, rfl, hL1, hP1, hb1, hbn, hg⟩
    have HG : Hid (Good60 bs) := Lib.hid hg
    have HB1 := Lib.hid (HB.out.trans (hb1.mono HB.out.size))
    have HL1 := Lib.hid hL1
    have HX2 : Hid (BxR u1 u1.heap.size V2 bs) := Lib.hid (hP1.rd hb1.size)
    have hwl := HG.out.len
    obtain ⟨A1, c1, rfl⟩ := hL1.len
    obtain ⟨A2, c2, rfl⟩ := hP1.len
    clear hL1 hP1 hb1 hg HB W0' W0
    go_wp2_with fail
    refine (write_any HL1.out (by omega) (fun x hx => (HG.out x hx).2.2.1) (by omega)).mono ?_
    rintro e u2 ⟨vx, rfl, hox, hb2⟩
    obtain ⟨Ax, cx, rfl, _⟩ := own_any hox
    obtain ⟨X, hX⟩ : ∃ X, wrB bs = X := ⟨_, rfl⟩
    obtain ⟨xl, hxl⟩ : ∃ xl, X.length = xl := ⟨_, rfl⟩
    rw [hX] at hwl hox
    rw [hX]
    rw [hxl] at hwl hox
    rw [hxl]
    have HX := Lib.hid (And.intro hX hxl)
    have HOX := Lib.hid hox
    have HB2 := Lib.hid (HB1.out.trans (hb2.mono HB1.out.size))
    have HXR2 : Hid (BxR u2 u2.heap.size (.slice A2 bs.length c2) bs) := Lib.hid (HX2.out.below hb2 hb2.size)
    obtain ⟨bl, hbl⟩ : ∃ bl, bs.length = bl := ⟨_, rfl⟩
    rw [hbl] at HXR2 hwl hbn
    rw [hbl]
    have HBLN := Lib.hid hbl
    have HS2 : Hid (u1.heap.size ≤ u2.heap.size) := Lib.hid hb2.size
    clear hX hxl hox hb2 HX2 HL1 hbl
    go_upto_region 7 with fail
    obtain ⟨SX, hSX⟩ : ∃ SX, strOf X = SX := ⟨_, rfl⟩
    have HSX := Lib.hid hSX
    have CX : Hid (∀ u, Below u2.heap.size u2 u → (convert 24 9 (.slice Ax xl cx)).run Try.prog u = .ok (.string SX) u) := Lib.hid fun u hu => by
      rw [← hSX]
      exact conv_str HX.out.2 ((Lst.own HOX.out).below hu)
    have RW : Hid (∀ u, Below u2.heap.size u2 u → Calls Try.prog 10 #[.slice A2 bl c2] u fun e w' => ∃ A c, e = .returned (.slice A xl c) ∧ w'.ownsRow u2.heap.size 5 1 (.slice A xl c) xl (X.map (Value.int .u8)) ∧ Below u2.heap.size u2 w') := Lib.hid fun u hu => by
      refine (rwrite_any (HXR2.out.below hu hu.size) (by rw [HX.out.1, HX.out.2]; omega) (fun x hx => (HG.out x hx).2.2.1) (by rw [HBLN.out]; omega)).mono ?_
      rintro e w' ⟨v, rfl, ho, hb⟩
      rw [HX.out.1, HX.out.2] at ho
      obtain ⟨A, c, rfl, _⟩ := own_any ho
      exact ⟨A, c, rfl, own_base ho hu.size, hu.trans (hb.mono hu.size)⟩
    clear hSX
    refine (wpIn_wide (n := 9)).1 (regionIn_inv (w := u2) (Inv := fun L a' w' => ∃ (A3 : Option Addr) (c3 : Nat), a' = { tmps := #[.slice a0 len0 cap0, .slice a1 len1 cap1, .slice a2 len2 cap2, .int .i64 a3, .slice a4 len4 cap4, undef, undef, undef, undef, undef, .bool false, .slice A1 bl c1, .slice A2 bl c2, .slice Ax xl cx, undef, undef, undef, undef, undef, undef, undef, undef, undef, undef, .bool true, .bool false, .slice a4 len4 cap4, .int .i64 (len4 : Int), .bool (decide (200 < (len4 : Int))), .tuple #[.slice A1 bl c1, .slice A2 bl c2], .slice a0 len0 cap0, .tuple #[.slice A1 bl c1, .slice A2 bl c2], .slice A1 bl c1, .slice A2 bl c2, .slice A1 bl c1, .slice Ax xl cx, bif L 0 then .slice Ax xl cx else undef, bif L 1 then .string SX else undef, bif L 2 then .slice A2 bl c2 else undef, bif L 3 then .slice A3 xl c3 else undef, bif L 4 then .string SX else undef, bif L 5 then .bool false else undef, undef, undef, undef, undef, undef, undef, undef, undef, undef, undef, undef, undef, undef, undef, undef, undef, undef, undef, undef, undef, undef, undef, undef, undef, undef, undef, undef, undef, undef, undef, undef, undef, undef, undef, undef, undef, undef, undef, undef, undef, undef, undef, undef, undef, undef, undef, undef, undef, undef, undef, undef, undef, undef, undef, undef, undef, undef, undef, undef, undef, undef, undef, undef, undef, undef, undef, undef, undef, undef, undef, undef, undef, undef, undef, undef, undef, undef, undef, undef, undef, undef, undef, undef, undef, undef, undef, undef, undef, undef, undef, undef, undef, undef, undef, undef, undef, undef, undef, undef, undef, undef, undef, undef], defers := [] } ∧ (Below u2.heap.size u2 w') ∧ (bif L 3 then (w'.ownsRow u2.heap.size 5 1 (.slice A3 xl c3) xl (X.map (Value.int .u8))) else True)) (by kernel_rfl) (by kernel_rfl) ?start ?step ?fin)
    case start => exact ⟨none, 0, rfl, below_drewN (Below.refl _ u2) 1, trivial⟩
    case step =>
      intro i hi L a' w' hI hs hu
      obtain ⟨A3, c3, rfl, hcm, hph⟩ := hI
      have hL := hu.1
      have hi : i < 6 := hi
      obtain rfl | rfl | rfl | rfl | rfl | rfl := (by omega : i = 0 ∨ i = 1 ∨ i = 2 ∨ i = 3 ∨ i = 4 ∨ i = 5)
      · skip
        refine opIn_run (v := .slice Ax xl cx) (w' := w') rfl rfl (fun c h => by cases h) (fun _ => trivial) ?_ ⟨A3, c3, by simp [Act.put, upd, hL], hcm, by simpa [upd] using hph⟩
        simp only [hL, cond_true, cond_false]
        go_simp
      · skip
        have y0 : L 0 = true := up_at hu 0 (by kernel_rfl)
        try simp only [y0, hL, cond_true, cond_false] at hph
        have g0 := CX.out w' hcm
        refine opIn_run (v := .string SX) (w' := w') rfl rfl (fun c h => by cases h) (fun _ => trivial) ?_ ⟨A3, c3, by simp [Act.put, upd, y0, hL], hcm, by simp only [upd, y0, hL]; exact hph⟩
        simp only [y0, hL, cond_true, cond_false]
        go_simp
      · skip
        have n3 : L 3 = false := not_yet hL fun h => shut_at hs 3 2 (by kernel_rfl) (h)
        refine opIn_run (v := .slice A2 bl c2) (w' := w') rfl rfl (fun c h => by cases h) (fun _ => trivial) ?_ ⟨A3, c3, by simp [Act.put, upd, n3, hL], hcm, by simpa [upd] using hph⟩
        simp only [n3, hL, cond_true, cond_false]
        go_simp
      · skip
        have y2 : L 2 = true := up_at hu 2 (by kernel_rfl)
        try simp only [y2, hL, cond_true, cond_false] at hph
        refine opIn_call (f := 10) (args := #[.slice A2 bl c2]) (w' := w') rfl rfl (fun c h => by cases h) (fun _ => trivial) rfl ?_ ((callsIn_wide.2 (RW.out w' hcm)).mono ?_)
        · simp only [y2, hL, cond_true, cond_false]
          go_simp
        · rintro e w2 ⟨A3', c3', rfl, ho, hb⟩
          exact ⟨_, rfl, A3', c3', by simp [Act.put, upd, y2, hL], hb, by simp only [upd, y2, hL]; exact ho⟩
      · skip
        have y2 : L 2 = true := shut_at hs 3 2 (by kernel_rfl) (up_at hu 3 (by kernel_rfl))
        have y3 : L 3 = true := up_at hu 3 (by kernel_rfl)
        try simp only [y2, y3, hL, cond_true, cond_false] at hph
        have g0 := conv_str (c := c3) HX.out.2 (Lst.own hph)
        rw [HSX.out] at g0
        refine opIn_run (v := .string SX) (w' := w') rfl rfl (fun c h => by cases h) (fun _ => trivial) ?_ ⟨A3, c3, by simp [Act.put, upd, y2, y3, hL], hcm, by simp only [upd, y2, y3, hL]; exact hph⟩
        simp only [y2, y3, hL, cond_true, cond_false]
        go_simp
      · skip
        have y0 : L 0 = true := shut_at hs 1 0 (by kernel_rfl) (up_at hu 1 (by kernel_rfl))
        have y1 : L 1 = true := up_at hu 1 (by kernel_rfl)
        have y2 : L 2 = true := shut_at hs 3 2 (by kernel_rfl) (shut_at hs 4 3 (by kernel_rfl) (up_at hu 4 (by kernel_rfl)))
        have y3 : L 3 = true := shut_at hs 4 3 (by kernel_rfl) (up_at hu 4 (by kernel_rfl))
        have y4 : L 4 = true := up_at hu 4 (by kernel_rfl)
        refine opIn_run (v := .bool false) (w' := w') rfl rfl (fun c h => by cases h) (fun _ => trivial) ?_ ⟨A3, c3, by simp [Act.put, upd, y0, y1, y2, y3, y4, hL], hcm, by simpa [upd] using hph⟩
        simp only [y0, y1, y2, y3, y4, hL, cond_true, cond_false]
        go_simp
    case fin =>
      intro L a' w' hall hI
      obtain ⟨A3, c3, rfl, hcm, hph⟩ := hI
      have l0 := hall 0 (by decide)
      have l1 := hall 1 (by decide)
      have l2 := hall 2 (by decide)
      have l3 := hall 3 (by decide)
      have l4 := hall 4 (by decide)
      have l5 := hall 5 (by decide)
      simp only [l0, l1, l2, l3, l4, l5, cond_true] at hph ⊢
      clear l0 l1 l2 l3 l4 l5 hall
      have HO3 : Hid (w'.ownsRow u1.heap.size 5 1 (.slice Ax xl cx) xl (X.map (Value.int .u8))) := Lib.hid (own_kept (r := none) HOX.out (grown_below hcm (Nat.le_refl _)) (fun k e => by cases e))
      have HB3 : Hid (Below w.heap.size w w') := Lib.hid (HB2.out.trans (hcm.mono HB2.out.size))
      have HX3 : Hid (BxR w' w'.heap.size (.slice A2 bl c2) bs) := Lib.hid (HXR2.out.below hcm hcm.size)
      have HS3 : Hid (u1.heap.size ≤ w'.heap.size) := Lib.hid (Nat.le_trans HS2.out hcm.size)
      have hXb : ∀ x ∈ X, 0 ≤ x ∧ x ≤ 255 := by rw [← HX.out.1]; exact wrB_bytes HG.out.good
      have HXB := Lib.hid hXb
      have RD : Hid (Calls Try.prog 11 #[.slice Ax xl cx] w' fun e u => Below w'.heap.size w' u ∧ ∃ V, e = .returned (.tuple #[V, .int .i64 0]) ∧ BoxL u w'.heap.size V bs) := Lib.hid (by
        obtain ⟨A', c', hA', hA, _⟩ := own_any HO3.out
        cases hA'
        have := read_any Ax xl cx X w' HX.out.2 hA (Lst.own HO3.out) (by omega) hXb
        rw [← HX.out.1, HG.out.rd (by rw [HBLN.out]; omega)] at this
        exact this)
      clear hph hcm CX RW hXb HOX HXR2 HB2
      go_wp2_with fail
      refine RD.out.mono ?_
      rintro e u4 ⟨hb4, V14, rfl, hL14⟩
      obtain ⟨A14, c14, rfl⟩ := hL14.len
      rw [HBLN.out] at hL14 ⊢
      have HB4 : Hid (Below w.heap.size w u4) := Lib.hid (HB3.out.trans (hb4.mono HB3.out.size))
      have HX4 : Hid (BxR u4 u4.heap.size (.slice A2 bl c2) bs) := Lib.hid (HX3.out.below hb4 hb4.size)
      have HO4 : Hid (u4.ownsRow u1.heap.size 5 1 (.slice Ax xl cx) xl (X.map (Value.int .u8))) := Lib.hid (own_kept (r := none) HO3.out (grown_below hb4 (Nat.le_refl _)) (fun k e => by cases e))
      have SM := Lib.hid (same_any hL14.rd HX4.out (by rw [HBLN.out]; omega))
      have HS4 : Hid (u1.heap.size ≤ u4.heap.size) := Lib.hid (Nat.le_trans HS3.out hb4.size)
      clear hb4 hL14 RD HO3 HX3 HB3
      go_wp2_with fail
      refine SM.out.mono ?_
      rintro e u5 ⟨rfl, hb5⟩
      have HB5 : Hid (Below w.heap.size w u5) := Lib.hid (HB4.out.trans (hb5.mono HB4.out.size))
      have HO5 : Hid (u5.ownsRow u1.heap.size 5 1 (.slice Ax xl cx) xl (X.map (Value.int .u8))) := Lib.hid (own_kept (r := none) HO4.out (grown_below hb5 (Nat.le_refl _)) (fun k e => by cases e))
      have HS5 : Hid (u1.heap.size ≤ u5.heap.size) := Lib.hid (Nat.le_trans HS4.out hb5.size)
      clear hb5 HO4 HB4 SM HX4
      obtain ⟨Ax', cx', hAx, hxA, hxl, hxc⟩ := own_any HO5.out
      cases hAx
      have b1 : Below u5.heap.size u5 (u5.alloc (Obj.cells #[] 5)) := (Below.refl _ _).alloc (Nat.le_refl _) _
      have o1 : (u5.alloc (Obj.cells #[] 5)).ownsRow u5.heap.size 5 1 (.slice (some ⟨u5.heap.size, 0, none⟩) 0 0) 0 (([] : List Int).map (Value.int .u8)) := World.ownsRow_made u5 #[] 0 (Nat.le_refl _) (by unfold maxLen; omega) rfl
      obtain ⟨v2, u6, r2, o2, g2⟩ := app_lst (L := X) (m := xl) (c := cx) (A := Ax) o1 HX.out.2 hxA ((Lst.own HO5.out).below b1) (by simp) (by omega)
      rw [Nat.zero_add, List.nil_append] at o2
      obtain ⟨Ad, cd, rfl, _⟩ := own_any o2
      have b2 : Below u5.heap.size u5 u6 := b1.grown g2 (by simp) (fun k e => (own_lt o1 e).1)
      have HB6 : Hid (Below w.heap.size w u6) := Lib.hid (HB5.out.trans (b2.mono HB5.out.size))
      have HO6 : Hid (u6.ownsRow u1.heap.size 5 1 (.slice Ax xl cx) xl (X.map (Value.int .u8))) := Lib.hid (own_kept (r := none) HO5.out (grown_below b2 (Nat.le_refl _)) (fun k e => by cases e))
      obtain ⟨N5, hN5⟩ : ∃ N5, u5.heap.size = N5 := ⟨_, rfl⟩
      rw [hN5] at r2
      have HD6 : Hid (u6.ownsRow N5 5 1 (.slice Ad xl cd) xl (X.map (Value.int .u8))) := Lib.hid (by rw [← hN5]; exact o2)
      have HN5 : Hid (u1.heap.size ≤ N5 ∧ w.heap.size ≤ N5 ∧ ∀ k, (Value.slice Ax xl cx).ownBlock = some k → k < N5) := Lib.hid (by
        rw [← hN5]
        exact ⟨HS5.out, HB5.out.size, fun k e => (own_lt HO5.out e).2⟩)
      clear b1 o1 g2 o2 b2 HO5 HB5 HS2 HS3 HS4 HS5 hxA hxl hxc
      go_upto_block 0 with fail
      go_cut [17] from 58 to 94 (fun v17 wx => Hid (∃ D : List Int, D.length = xl ∧ (∀ x ∈ D, 0 ≤ x ∧ x ≤ 255) ∧ wx.ownsRow N5 5 1 (.slice Ad xl cd) xl (D.map (Value.int .u8)) ∧ wx.ownsRow u1.heap.size 5 1 (.slice Ax xl cx) xl (X.map (Value.int .u8)) ∧ Below w.heap.size w wx))
      case first =>
        have hN5w := HN5.out.2.1
        go_wp2_with fail
        go_loopg [17] 3 (fun g v wr => ∃ (i : Nat), i + g = 3 ∧ v = .int .i64 (i : Int) ∧ Hid (∃ D : List Int, D.length = xl ∧ (∀ x ∈ D, 0 ≤ x ∧ x ≤ 255) ∧ wr.ownsRow N5 5 1 (.slice Ad xl cd) xl (D.map (Value.int .u8)) ∧ wr.ownsRow u1.heap.size 5 1 (.slice Ax xl cx) xl (X.map (Value.int .u8)) ∧ Below w.heap.size w wr))
        case atStart => exact ⟨0, by omega, rfl, Lib.hid ⟨X, HX.out.2, HXB.out, HD6.out, HO6.out, HB6.out⟩⟩
        case round =>
          obtain ⟨i, hig, rfl, HI⟩ := hrel
          by_cases k1 : i < len1
          · by_cases k2 : i < len2
            · by_cases k3 : i < 3
              · by_cases k4 : 0 < xl
                · obtain ⟨g1, rfl⟩ : ∃ g1, gk = g1 + 1 := ⟨gk - 1, by omega⟩
                  have t1 : (i : Int) < (len1 : Int) ∧ (i : Int) < (len2 : Int) ∧ (i : Int) < 3 ∧ (0 : Int) < (xl : Int) := by omega
                  go_upto_region 16 with fail
                  obtain ⟨D, hDl, hDb, hDo, hXo, hBo⟩ := HI.out
                  obtain ⟨bd, cd', hAd, hbd1, hbd2, _, hcd⟩ := own_form hDo k4
                  obtain ⟨rfl, rfl⟩ : Ad = some ⟨bd, 0, none⟩ ∧ cd = cd' := by cases hAd; exact ⟨rfl, rfl⟩
                  obtain ⟨ab1, ao1, rfl, AT, hat, hatb, hab1⟩ : ∃ b o, a1 = some ⟨b, o, none⟩ ∧ ∃ AT, w.cell? ⟨b, o + i, none⟩ = some (.int .i64 AT) ∧ (Lit.int .i64 AT).wf = true ∧ b < w.heap.size := row_at W1.out k1
                  obtain ⟨ab2, ao2, rfl, BY, hby, hbyb, hab2⟩ : ∃ b o, a2 = some ⟨b, o, none⟩ ∧ ∃ AT, w.cell? ⟨b, o + i, none⟩ = some (.int .u8 AT) ∧ (Lit.int .u8 AT).wf = true ∧ b < w.heap.size := row_at W2.out k2
                  have hBYb := bd_u8 hbyb
                  obtain ⟨WX, hWX⟩ : ∃ WX, wr.drew = WX := ⟨_, rfl⟩
                  have HWX := Lib.hid hWX
                  have hBX : Below w.heap.size w WX := by rw [← hWX]; exact below_drewN hBo 1
                  have hDX : WX.ownsRow N5 5 1 (.slice (some ⟨bd, 0, none⟩) xl cd) xl (D.map (Value.int .u8)) := by rw [← hWX]; exact own_kept (r := none) hDo (grown_below (below_drewN (Below.refl _ wr) 1) (Nat.le_refl _)) (fun k e => by cases e)
                  have hXX : WX.ownsRow u1.heap.size 5 1 (.slice Ax xl cx) xl (X.map (Value.int .u8)) := by rw [← hWX]; exact own_kept (r := none) hXo (grown_below (below_drewN (Below.refl _ wr) 1) (Nat.le_refl _)) (fun k e => by cases e)
                  obtain ⟨kk, hkk⟩ : ∃ kk, modN AT xl = kk := ⟨_, rfl⟩
                  have hkx : kk < xl := by rw [← hkk]; exact (modN_lt AT xl (by omega)).1
                  obtain ⟨DX, hDXe⟩ : ∃ DX, D.getD kk 0 = DX := ⟨_, rfl⟩
                  have hDXm : DX ∈ D := by rw [← hDXe, List.getD_eq_getElem?_getD, List.getElem?_eq_getElem (by omega)]; exact List.getElem_mem _
                  have hDXb := hDb DX hDXm
                  obtain ⟨ZZ, hZZ⟩ : ∃ ZZ, (DX + BY) % 256 = ZZ := ⟨_, rfl⟩
                  have hZb : 0 ≤ ZZ ∧ ZZ ≤ 255 := by omega
                  have s1 : IntKind.u8.wrap (DX + BY) = ZZ := by rw [← hZZ]; exact u8_wrap _
                  have c0 : WX.cell? ⟨bd, kk, none⟩ = some (.int .u8 DX) := by
                    rw [hDX.cellAt kk (by omega), List.getElem?_map, ← hDXe, List.getD_eq_getElem?_getD, List.getElem?_eq_getElem (by omega)]
                    rfl
                  have HF : Hid (WX.cell? ⟨ab1, ao1 + i, none⟩ = some (.int .i64 AT) ∧ WX.cell? ⟨ab2, ao2 + i, none⟩ = some (.int .u8 BY) ∧ WX.cell? ⟨bd, kk, none⟩ = some (.int .u8 DX) ∧ WX.frozen? ⟨bd, kk, none⟩ = false) := Lib.hid ⟨(hBX.cell (p := ⟨ab1, _, none⟩) hab1).trans hat, (hBX.cell (p := ⟨ab2, _, none⟩) hab2).trans hby, c0, hDX.frozenAt kk⟩
                  have SW : Hid (∀ u, Calls Try.prog 13 #[.int .i64 AT, .int .i64 (xl : Int)] u fun e w' => e = .returned (.int .i64 (kk : Int)) ∧ u = w') := Lib.hid fun u => by rw [← hkk]; exact some20 AT xl u (by omega) (by omega)
                  obtain ⟨st1, st2⟩ := hDX.stored kk (.int .u8 ZZ)
                  have HN : Hid (∃ D : List Int, D.length = xl ∧ (∀ x ∈ D, 0 ≤ x ∧ x ≤ 255) ∧ (WX.setCell ⟨bd, kk, none⟩ (.int .u8 ZZ)).ownsRow N5 5 1 (.slice (some ⟨bd, 0, none⟩) xl cd) xl (D.map (Value.int .u8)) ∧ (WX.setCell ⟨bd, kk, none⟩ (.int .u8 ZZ)).ownsRow u1.heap.size 5 1 (.slice Ax xl cx) xl (X.map (Value.int .u8)) ∧ Below w.heap.size w (WX.setCell ⟨bd, kk, none⟩ (.int .u8 ZZ))) := Lib.hid (by
                    refine ⟨D.set kk ZZ, by simpa using hDl, fun x hx => ?_, by rw [List.map_set]; exact st1, ?_, hBX.grown st2 hBX.size (fun q e => by injection e with e; omega)⟩
                    · rcases List.mem_or_eq_of_mem_set hx with h | h
                      · exact hDb x h
                      · rw [h]; exact hZb
                    · refine ownsRow_keep hXX st2.size fun q hq => st2.block q (own_lt hXX hq).2 fun e => ?_
                      injection e with e
                      have := HN5.out.2.2 q hq
                      omega)
                  have t2 : (kk : Int) < (xl : Int) ∧ (0 : Int) ≤ (kk : Int) := by omega
                  clear HI hDl hDb hDo hXo hBo hAd hat hatb hby hbyb hWX hBX hDX hXX hkk hDXe hDXm hZZ c0 st1 st2
                  refine (wpIn_wide (n := 9)).1 (regionIn_inv (w := wr) (Inv := fun L a' w' => a' = { tmps := #[.slice a0 len0 cap0, .slice (some ⟨ab1, ao1, none⟩) len1 cap1, .slice (some ⟨ab2, ao2, none⟩) len2 cap2, .int .i64 a3, .slice a4 len4 cap4, undef, undef, undef, undef, undef, .bool false, .slice A1 bl c1, .slice A2 bl c2, .slice Ax xl cx, .slice A14 bl c14, .int .i64 0, .slice (some ⟨bd, 0, none⟩) xl cd, .int .i64 (i : Int), undef, undef, undef, undef, undef, undef, .bool true, .bool false, .slice a4 len4 cap4, .int .i64 (len4 : Int), .bool (decide (200 < (len4 : Int))), .tuple #[.slice A1 bl c1, .slice A2 bl c2], .slice a0 len0 cap0, .tuple #[.slice A1 bl c1, .slice A2 bl c2], .slice A1 bl c1, .slice A2 bl c2, .slice A1 bl c1, .slice Ax xl cx, .slice Ax xl cx, .string SX, .slice A2 bl c2, .slice A3 xl c3, .string SX, .bool false, .tuple #[.slice A14 bl c14, .int .i64 0], .slice Ax xl cx, .tuple #[.slice A14 bl c14, .int .i64 0], .slice A14 bl c14, .int .i64 0, .int .i64 0, .bool false, .bool false, .slice A14 bl c14, .slice A2 bl c2, .bool true, .bool false, .bool false, .slice (some ⟨N5, 0, none⟩) 0 0, .slice Ax xl cx, .slice (some ⟨bd, 0, none⟩) xl cd, .int .i64 (i : Int), .slice (some ⟨ab1, ao1, none⟩) len1 cap1, .int .i64 (len1 : Int), .bool true, .bool true, .int .i64 (i : Int), .slice (some ⟨ab2, ao2, none⟩) len2 cap2, .int .i64 (len2 : Int), .bool true, .bool true, .bool true, .int .i64 (i : Int), .bool true, .bool true, .bool true, .slice (some ⟨bd, 0, none⟩) xl cd, .int .i64 (xl : Int), .bool true, .bool true, u77, u78, bif L 0 then .slice (some ⟨bd, 0, none⟩) xl cd else u79, bif L 1 then .slice (some ⟨ab1, ao1, none⟩) len1 cap1 else u80, bif L 2 then .int .i64 (i : Int) else u81, bif L 3 then .pointer (some ⟨ab1, ao1 + i, none⟩) else u82, bif L 4 then .int .i64 AT else u83, bif L 5 then .slice (some ⟨bd, 0, none⟩) xl cd else u84, bif L 6 then .int .i64 (xl : Int) else u85, bif L 7 then .int .i64 (kk : Int) else u86, bif L 8 then .pointer (some ⟨bd, kk, none⟩) else u87, bif L 9 then .int .u8 DX else u88, bif L 10 then .slice (some ⟨ab2, ao2, none⟩) len2 cap2 else u89, bif L 11 then .int .i64 (i : Int) else u90, bif L 12 then .pointer (some ⟨ab2, ao2 + i, none⟩) else u91, bif L 13 then .int .u8 BY else u92, bif L 14 then .int .u8 ZZ else u93, bif L 15 then .pointer (some ⟨bd, kk, none⟩) else u94, undef, undef, undef, undef, undef, undef, undef, undef, undef, undef, undef, undef, undef, undef, undef, undef, undef, undef, undef, undef, undef, undef, undef, undef, undef, undef, undef, undef, undef, undef, undef, undef, undef, undef, undef, undef, undef, undef, undef, undef, undef, undef, undef, undef, undef, undef, undef, undef, undef, undef], defers := [] } ∧ (bif L 16 then (w' = WX.setCell ⟨bd, kk, none⟩ (.int .u8 ZZ)) else w' = WX)) (by kernel_rfl) (by kernel_rfl) ?start ?step ?fin)
                  case start => exact ⟨rfl, HWX.out⟩
                  case step =>
                    intro i hi L a' w' hI hs hu
                    obtain ⟨rfl, hph⟩ := hI
                    have hL := hu.1
                    have hi : i < 17 := hi
                    obtain rfl | rfl | rfl | rfl | rfl | rfl | rfl | rfl | rfl | rfl | rfl | rfl | rfl | rfl | rfl | rfl | rfl := (by omega : i = 0 ∨ i = 1 ∨ i = 2 ∨ i = 3 ∨ i = 4 ∨ i = 5 ∨ i = 6 ∨ i = 7 ∨ i = 8 ∨ i = 9 ∨ i = 10 ∨ i = 11 ∨ i = 12 ∨ i = 13 ∨ i = 14 ∨ i = 15 ∨ i = 16)
                    · skip
                      have n16 : L 16 = false := not_yet hL fun h => shut_at hs 16 0 (by kernel_rfl) (h)
                      refine opIn_run (v := .slice (some ⟨bd, 0, none⟩) xl cd) (w' := w') rfl rfl (fun c h => by cases h) (fun _ => trivial) ?_ ⟨by simp [Act.put, upd, n16, hL], by simpa [upd] using hph⟩
                      simp only [n16, hL, cond_true, cond_false]
                      go_simp
                    · skip
                      have n16 : L 16 = false := not_yet hL fun h => shut_at hs 16 1 (by kernel_rfl) (h)
                      refine opIn_run (v := .slice (some ⟨ab1, ao1, none⟩) len1 cap1) (w' := w') rfl rfl (fun c h => by cases h) (fun _ => trivial) ?_ ⟨by simp [Act.put, upd, n16, hL], by simpa [upd] using hph⟩
                      simp only [n16, hL, cond_true, cond_false]
                      go_simp
                    · skip
                      have n16 : L 16 = false := not_yet hL fun h => shut_at hs 16 2 (by kernel_rfl) (h)
                      refine opIn_run (v := .int .i64 (i : Int)) (w' := w') rfl rfl (fun c h => by cases h) (fun _ => trivial) ?_ ⟨by simp [Act.put, upd, n16, hL], by simpa [upd] using hph⟩
                      simp only [n16, hL, cond_true, cond_false]
                      go_simp
                    · skip
                      have y1 : L 1 = true := up_at hu 1 (by kernel_rfl)
                      have y2 : L 2 = true := up_at hu 2 (by kernel_rfl)
                      have n16 : L 16 = false := not_yet hL fun h => shut_at hs 16 3 (by kernel_rfl) (h)
                      refine opIn_run (v := .pointer (some ⟨ab1, ao1 + i, none⟩)) (w' := w') rfl rfl (fun c h => by cases h) (fun _ => trivial) ?_ ⟨by simp [Act.put, upd, y1, y2, n16, hL], by simpa [upd] using hph⟩
                      simp only [y1, y2, n16, hL, cond_true, cond_false]
                      go_simp
                    · skip
                      have y1 : L 1 = true := shut_at hs 3 1 (by kernel_rfl) (up_at hu 3 (by kernel_rfl))
                      have y2 : L 2 = true := shut_at hs 3 2 (by kernel_rfl) (up_at hu 3 (by kernel_rfl))
                      have y3 : L 3 = true := up_at hu 3 (by kernel_rfl)
                      have n16 : L 16 = false := not_yet hL fun h => shut_at hs 16 4 (by kernel_rfl) (h)
                      try simp only [y1, y2, y3, n16, hL, cond_true, cond_false] at hph
                      have g0 : w'.cell? ⟨ab1, ao1 + i, none⟩ = some (.int .i64 AT) := by rw [hph]; exact HF.out.1
                      refine opIn_run (v := .int .i64 AT) (w' := w') rfl rfl (fun c h => by cases h) (fun _ => trivial) ?_ ⟨by simp [Act.put, upd, y1, y2, y3, n16, hL], by simp only [upd, y1, y2, y3, n16, hL]; exact hph⟩
                      simp only [y1, y2, y3, n16, hL, cond_true, cond_false]
                      clear hph; go_simp
                    · skip
                      have n16 : L 16 = false := not_yet hL fun h => shut_at hs 16 5 (by kernel_rfl) (h)
                      refine opIn_run (v := .slice (some ⟨bd, 0, none⟩) xl cd) (w' := w') rfl rfl (fun c h => by cases h) (fun _ => trivial) ?_ ⟨by simp [Act.put, upd, n16, hL], by simpa [upd] using hph⟩
                      simp only [n16, hL, cond_true, cond_false]
                      go_simp
                    · skip
                      have y5 : L 5 = true := up_at hu 5 (by kernel_rfl)
                      have n16 : L 16 = false := not_yet hL fun h => shut_at hs 16 6 (by kernel_rfl) (h)
                      refine opIn_run (v := .int .i64 (xl : Int)) (w' := w') rfl rfl (fun c h => by cases h) (fun _ => trivial) ?_ ⟨by simp [Act.put, upd, y5, n16, hL], by simpa [upd] using hph⟩
                      simp only [y5, n16, hL, cond_true, cond_false]
                      go_simp
                    · skip
                      have y1 : L 1 = true := shut_at hs 3 1 (by kernel_rfl) (shut_at hs 4 3 (by kernel_rfl) (up_at hu 4 (by kernel_rfl)))
                      have y2 : L 2 = true := shut_at hs 3 2 (by kernel_rfl) (shut_at hs 4 3 (by kernel_rfl) (up_at hu 4 (by kernel_rfl)))
                      have y3 : L 3 = true := shut_at hs 4 3 (by kernel_rfl) (up_at hu 4 (by kernel_rfl))
                      have y4 : L 4 = true := up_at hu 4 (by kernel_rfl)
                      have y5 : L 5 = true := shut_at hs 6 5 (by kernel_rfl) (up_at hu 6 (by kernel_rfl))
                      have y6 : L 6 = true := up_at hu 6 (by kernel_rfl)
                      have n16 : L 16 = false := not_yet hL fun h => shut_at hs 16 7 (by kernel_rfl) (h)
                      try simp only [y1, y2, y3, y4, y5, y6, n16, hL, cond_true, cond_false] at hph
                      refine opIn_call (f := 13) (args := #[.int .i64 AT, .int .i64 (xl : Int)]) (w' := w') rfl rfl (fun c h => by cases h) (fun _ => trivial) rfl ?_ ((callsIn_wide.2 (SW.out w')).mono ?_)
                      · simp only [y1, y2, y3, y4, y5, y6, n16, hL, cond_true, cond_false]
                        go_simp
                      · rintro e w2 ⟨rfl, hw2⟩
                        exact ⟨_, rfl, by simp [Act.put, upd, y1, y2, y3, y4, y5, y6, n16, hL], by simp only [upd, y1, y2, y3, y4, y5, y6, n16, hL]; exact (hw2 ▸ hph)⟩
                    · skip
                      have y0 : L 0 = true := up_at hu 0 (by kernel_rfl)
                      have y1 : L 1 = true := shut_at hs 3 1 (by kernel_rfl) (shut_at hs 4 3 (by kernel_rfl) (shut_at hs 7 4 (by kernel_rfl) (up_at hu 7 (by kernel_rfl))))
                      have y2 : L 2 = true := shut_at hs 3 2 (by kernel_rfl) (shut_at hs 4 3 (by kernel_rfl) (shut_at hs 7 4 (by kernel_rfl) (up_at hu 7 (by kernel_rfl))))
                      have y3 : L 3 = true := shut_at hs 4 3 (by kernel_rfl) (shut_at hs 7 4 (by kernel_rfl) (up_at hu 7 (by kernel_rfl)))
                      have y4 : L 4 = true := shut_at hs 7 4 (by kernel_rfl) (up_at hu 7 (by kernel_rfl))
                      have y5 : L 5 = true := shut_at hs 6 5 (by kernel_rfl) (shut_at hs 7 6 (by kernel_rfl) (up_at hu 7 (by kernel_rfl)))
                      have y6 : L 6 = true := shut_at hs 7 6 (by kernel_rfl) (up_at hu 7 (by kernel_rfl))
                      have y7 : L 7 = true := up_at hu 7 (by kernel_rfl)
                      have n16 : L 16 = false := not_yet hL fun h => shut_at hs 16 8 (by kernel_rfl) (h)
                      refine opIn_run (v := .pointer (some ⟨bd, kk, none⟩)) (w' := w') rfl rfl (fun c h => by cases h) (fun _ => trivial) ?_ ⟨by simp [Act.put, upd, y0, y1, y2, y3, y4, y5, y6, y7, n16, hL], by simpa [upd] using hph⟩
                      simp only [y0, y1, y2, y3, y4, y5, y6, y7, n16, hL, cond_true, cond_false]
                      go_simp
                    · skip
                      have y0 : L 0 = true := shut_at hs 8 0 (by kernel_rfl) (up_at hu 8 (by kernel_rfl))
                      have y1 : L 1 = true := shut_at hs 3 1 (by kernel_rfl) (shut_at hs 4 3 (by kernel_rfl) (shut_at hs 7 4 (by kernel_rfl) (shut_at hs 8 7 (by kernel_rfl) (up_at hu 8 (by kernel_rfl)))))
                      have y2 : L 2 = true := shut_at hs 3 2 (by kernel_rfl) (shut_at hs 4 3 (by kernel_rfl) (shut_at hs 7 4 (by kernel_rfl) (shut_at hs 8 7 (by kernel_rfl) (up_at hu 8 (by kernel_rfl)))))
                      have y3 : L 3 = true := shut_at hs 4 3 (by kernel_rfl) (shut_at hs 7 4 (by kernel_rfl) (shut_at hs 8 7 (by kernel_rfl) (up_at hu 8 (by kernel_rfl))))
                      have y4 : L 4 = true := shut_at hs 7 4 (by kernel_rfl) (shut_at hs 8 7 (by kernel_rfl) (up_at hu 8 (by kernel_rfl)))
                      have y5 : L 5 = true := shut_at hs 6 5 (by kernel_rfl) (shut_at hs 7 6 (by kernel_rfl) (shut_at hs 8 7 (by kernel_rfl) (up_at hu 8 (by kernel_rfl))))
                      have y6 : L 6 = true := shut_at hs 7 6 (by kernel_rfl) (shut_at hs 8 7 (by kernel_rfl) (up_at hu 8 (by kernel_rfl)))
                      have y7 : L 7 = true := shut_at hs 8 7 (by kernel_rfl) (up_at hu 8 (by kernel_rfl))
                      have y8 : L 8 = true := up_at hu 8 (by kernel_rfl)
                      have n16 : L 16 = false := not_yet hL fun h => shut_at hs 16 9 (by kernel_rfl) (h)
                      try simp only [y0, y1, y2, y3, y4, y5, y6, y7, y8, n16, hL, cond_true, cond_false] at hph
                      have g0 : w'.cell? ⟨bd, kk, none⟩ = some (.int .u8 DX) := by rw [hph]; exact HF.out.2.2.1
                      refine opIn_run (v := .int .u8 DX) (w' := w') rfl rfl (fun c h => by cases h) (fun _ => trivial) ?_ ⟨by simp [Act.put, upd, y0, y1, y2, y3, y4, y5, y6, y7, y8, n16, hL], by simp only [upd, y0, y1, y2, y3, y4, y5, y6, y7, y8, n16, hL]; exact hph⟩
                      simp only [y0, y1, y2, y3, y4, y5, y6, y7, y8, n16, hL, cond_true, cond_false]
                      clear hph; go_simp
                    · skip
                      have n16 : L 16 = false := not_yet hL fun h => shut_at hs 16 10 (by kernel_rfl) (h)
                      refine opIn_run (v := .slice (some ⟨ab2, ao2, none⟩) len2 cap2) (w' := w') rfl rfl (fun c h => by cases h) (fun _ => trivial) ?_ ⟨by simp [Act.put, upd, n16, hL], by simpa [upd] using hph⟩
                      simp only [n16, hL, cond_true, cond_false]
                      go_simp
                    · skip
                      have n16 : L 16 = false := not_yet hL fun h => shut_at hs 16 11 (by kernel_rfl) (h)
                      refine opIn_run (v := .int .i64 (i : Int)) (w' := w') rfl rfl (fun c h => by cases h) (fun _ => trivial) ?_ ⟨by simp [Act.put, upd, n16, hL], by simpa [upd] using hph⟩
                      simp only [n16, hL, cond_true, cond_false]
                      go_simp
                    · skip
                      have y10 : L 10 = true := up_at hu 10 (by kernel_rfl)
                      have y11 : L 11 = true := up_at hu 11 (by kernel_rfl)
                      have n16 : L 16 = false := not_yet hL fun h => shut_at hs 16 12 (by kernel_rfl) (h)
                      refine opIn_run (v := .pointer (some ⟨ab2, ao2 + i, none⟩)) (w' := w') rfl rfl (fun c h => by cases h) (fun _ => trivial) ?_ ⟨by simp [Act.put, upd, y10, y11, n16, hL], by simpa [upd] using hph⟩
                      simp only [y10, y11, n16, hL, cond_true, cond_false]
                      go_simp
                    · skip
                      have y10 : L 10 = true := shut_at hs 12 10 (by kernel_rfl) (up_at hu 12 (by kernel_rfl))
                      have y11 : L 11 = true := shut_at hs 12 11 (by kernel_rfl) (up_at hu 12 (by kernel_rfl))
                      have y12 : L 12 = true := up_at hu 12 (by kernel_rfl)
                      have n16 : L 16 = false := not_yet hL fun h => shut_at hs 16 13 (by kernel_rfl) (h)
                      try simp only [y10, y11, y12, n16, hL, cond_true, cond_false] at hph
                      have g0 : w'.cell? ⟨ab2, ao2 + i, none⟩ = some (.int .u8 BY) := by rw [hph]; exact HF.out.2.1
                      refine opIn_run (v := .int .u8 BY) (w' := w') rfl rfl (fun c h => by cases h) (fun _ => trivial) ?_ ⟨by simp [Act.put, upd, y10, y11, y12, n16, hL], by simp only [upd, y10, y11, y12, n16, hL]; exact hph⟩
                      simp only [y10, y11, y12, n16, hL, cond_true, cond_false]
                      clear hph; go_simp
                    · skip
                      have y0 : L 0 = true := shut_at hs 8 0 (by kernel_rfl) (shut_at hs 9 8 (by kernel_rfl) (up_at hu 9 (by kernel_rfl)))
                      have y1 : L 1 = true := shut_at hs 3 1 (by kernel_rfl) (shut_at hs 4 3 (by kernel_rfl) (shut_at hs 7 4 (by kernel_rfl) (shut_at hs 8 7 (by kernel_rfl) (shut_at hs 9 8 (by kernel_rfl) (up_at hu 9 (by kernel_rfl))))))
                      have y2 : L 2 = true := shut_at hs 3 2 (by kernel_rfl) (shut_at hs 4 3 (by kernel_rfl) (shut_at hs 7 4 (by kernel_rfl) (shut_at hs 8 7 (by kernel_rfl) (shut_at hs 9 8 (by kernel_rfl) (up_at hu 9 (by kernel_rfl))))))
                      have y3 : L 3 = true := shut_at hs 4 3 (by kernel_rfl) (shut_at hs 7 4 (by kernel_rfl) (shut_at hs 8 7 (by kernel_rfl) (shut_at hs 9 8 (by kernel_rfl) (up_at hu 9 (by kernel_rfl)))))
                      have y4 : L 4 = true := shut_at hs 7 4 (by kernel_rfl) (shut_at hs 8 7 (by kernel_rfl) (shut_at hs 9 8 (by kernel_rfl) (up_at hu 9 (by kernel_rfl))))
                      have y5 : L 5 = true := shut_at hs 6 5 (by kernel_rfl) (shut_at hs 7 6 (by kernel_rfl) (shut_at hs 8 7 (by kernel_rfl) (shut_at hs 9 8 (by kernel_rfl) (up_at hu 9 (by kernel_rfl)))))
                      have y6 : L 6 = true := shut_at hs 7 6 (by kernel_rfl) (shut_at hs 8 7 (by kernel_rfl) (shut_at hs 9 8 (by kernel_rfl) (up_at hu 9 (by kernel_rfl))))
                      have y7 : L 7 = true := shut_at hs 8 7 (by kernel_rfl) (shut_at hs 9 8 (by kernel_rfl) (up_at hu 9 (by kernel_rfl)))
                      have y8 : L 8 = true := shut_at hs 9 8 (by kernel_rfl) (up_at hu 9 (by kernel_rfl))
                      have y9 : L 9 = true := up_at hu 9 (by kernel_rfl)
                      have y10 : L 10 = true := shut_at hs 12 10 (by kernel_rfl) (shut_at hs 13 12 (by kernel_rfl) (up_at hu 13 (by kernel_rfl)))
                      have y11 : L 11 = true := shut_at hs 12 11 (by kernel_rfl) (shut_at hs 13 12 (by kernel_rfl) (up_at hu 13 (by kernel_rfl)))
                      have y12 : L 12 = true := shut_at hs 13 12 (by kernel_rfl) (up_at hu 13 (by kernel_rfl))
                      have y13 : L 13 = true := up_at hu 13 (by kernel_rfl)
                      have n16 : L 16 = false := not_yet hL fun h => shut_at hs 16 14 (by kernel_rfl) (h)
                      refine opIn_run (v := .int .u8 ZZ) (w' := w') rfl rfl (fun c h => by cases h) (fun _ => trivial) ?_ ⟨by simp [Act.put, upd, y0, y1, y2, y3, y4, y5, y6, y7, y8, y9, y10, y11, y12, y13, n16, hL], by simpa [upd] using hph⟩
                      simp only [y0, y1, y2, y3, y4, y5, y6, y7, y8, y9, y10, y11, y12, y13, n16, hL, cond_true, cond_false]
                      go_simp
                    · skip
                      have y0 : L 0 = true := up_at hu 0 (by kernel_rfl)
                      have y1 : L 1 = true := up_at hu 1 (by kernel_rfl)
                      have y2 : L 2 = true := up_at hu 2 (by kernel_rfl)
                      have y3 : L 3 = true := up_at hu 3 (by kernel_rfl)
                      have y4 : L 4 = true := up_at hu 4 (by kernel_rfl)
                      have y5 : L 5 = true := up_at hu 5 (by kernel_rfl)
                      have y6 : L 6 = true := up_at hu 6 (by kernel_rfl)
                      have y7 : L 7 = true := up_at hu 7 (by kernel_rfl)
                      have y8 : L 8 = true := up_at hu 8 (by kernel_rfl)
                      have y9 : L 9 = true := up_at hu 9 (by kernel_rfl)
                      have y10 : L 10 = true := up_at hu 10 (by kernel_rfl)
                      have y11 : L 11 = true := up_at hu 11 (by kernel_rfl)
                      have y12 : L 12 = true := up_at hu 12 (by kernel_rfl)
                      have y13 : L 13 = true := up_at hu 13 (by kernel_rfl)
                      have y14 : L 14 = true := up_at hu 14 (by kernel_rfl)
                      have n16 : L 16 = false := not_yet hL fun h => shut_at hs 16 15 (by kernel_rfl) (h)
                      refine opIn_run (v := .pointer (some ⟨bd, kk, none⟩)) (w' := w') rfl rfl (fun c h => by cases h) (fun _ => trivial) ?_ ⟨by simp [Act.put, upd, y0, y1, y2, y3, y4, y5, y6, y7, y8, y9, y10, y11, y12, y13, y14, n16, hL], by simpa [upd] using hph⟩
                      simp only [y0, y1, y2, y3, y4, y5, y6, y7, y8, y9, y10, y11, y12, y13, y14, n16, hL, cond_true, cond_false]
                      go_simp
                    · skip
                      have y0 : L 0 = true := up_at hu 0 (by kernel_rfl)
                      have y1 : L 1 = true := up_at hu 1 (by kernel_rfl)
                      have y2 : L 2 = true := up_at hu 2 (by kernel_rfl)
                      have y3 : L 3 = true := up_at hu 3 (by kernel_rfl)
                      have y4 : L 4 = true := up_at hu 4 (by kernel_rfl)
                      have y5 : L 5 = true := up_at hu 5 (by kernel_rfl)
                      have y6 : L 6 = true := up_at hu 6 (by kernel_rfl)
                      have y7 : L 7 = true := up_at hu 7 (by kernel_rfl)
                      have y8 : L 8 = true := up_at hu 8 (by kernel_rfl)
                      have y9 : L 9 = true := up_at hu 9 (by kernel_rfl)
                      have y10 : L 10 = true := up_at hu 10 (by kernel_rfl)
                      have y11 : L 11 = true := up_at hu 11 (by kernel_rfl)
                      have y12 : L 12 = true := up_at hu 12 (by kernel_rfl)
                      have y13 : L 13 = true := up_at hu 13 (by kernel_rfl)
                      have y14 : L 14 = true := up_at hu 14 (by kernel_rfl)
                      have y15 : L 15 = true := up_at hu 15 (by kernel_rfl)
                      try simp only [y0, y1, y2, y3, y4, y5, y6, y7, y8, y9, y10, y11, y12, y13, y14, y15, hL, cond_true, cond_false] at hph
                      have hph := hph.symm
                      subst hph
                      have g0 := HF.out.2.2.1
                      have gf := HF.out.2.2.2
                      refine opIn_skip (w' := WX.setCell ⟨bd, kk, none⟩ (.int .u8 ZZ)) rfl rfl (fun c h => by cases h) (fun _ => trivial) ?_ ⟨by simp [Act.put, upd, y0, y1, y2, y3, y4, y5, y6, y7, y8, y9, y10, y11, y12, y13, y14, y15, hL], by simp [upd, y0, y1, y2, y3, y4, y5, y6, y7, y8, y9, y10, y11, y12, y13, y14, y15, hL]⟩
                      simp only [y0, y1, y2, y3, y4, y5, y6, y7, y8, y9, y10, y11, y12, y13, y14, y15, hL, cond_true, cond_false]
                      go_simp
                  case fin =>
                    intro L a' w' hall hI
                    obtain ⟨rfl, hph⟩ := hI
                    have l0 := hall 0 (by decide)
                    have l1 := hall 1 (by decide)
                    have l2 := hall 2 (by decide)
                    have l3 := hall 3 (by decide)
                    have l4 := hall 4 (by decide)
                    have l5 := hall 5 (by decide)
                    have l6 := hall 6 (by decide)
                    have l7 := hall 7 (by decide)
                    have l8 := hall 8 (by decide)
                    have l9 := hall 9 (by decide)
                    have l10 := hall 10 (by decide)
                    have l11 := hall 11 (by decide)
                    have l12 := hall 12 (by decide)
                    have l13 := hall 13 (by decide)
                    have l14 := hall 14 (by decide)
                    have l15 := hall 15 (by decide)
                    have l16 := hall 16 (by decide)
                    simp only [l0, l1, l2, l3, l4, l5, l6, l7, l8, l9, l10, l11, l12, l13, l14, l15, l16, cond_true] at hph ⊢
                    clear l0 l1 l2 l3 l4 l5 l6 l7 l8 l9 l10 l11 l12 l13 l14 l15 l16 hall
                    subst hph
                    have HI2 : Hid (∃ D : List Int, D.length = xl ∧ (∀ x ∈ D, 0 ≤ x ∧ x ≤ 255) ∧ (WX.setCell ⟨bd, kk, none⟩ (.int .u8 ZZ)).ownsRow N5 5 1 (.slice (some ⟨bd, 0, none⟩) xl cd) xl (D.map (Value.int .u8)) ∧ (WX.setCell ⟨bd, kk, none⟩ (.int .u8 ZZ)).ownsRow u1.heap.size 5 1 (.slice Ax xl cx) xl (X.map (Value.int .u8)) ∧ Below w.heap.size w (WX.setCell ⟨bd, kk, none⟩ (.int .u8 ZZ))) := Lib.hid HN.out
                    clear HF SW HN
                    go_wp2
                    go_roundg g1
                    case rel => exact ⟨i + 1, by omega, by go_num, HI2⟩
                    case measure => omega
                · have t1 : (i : Int) < (len1 : Int) ∧ (i : Int) < (len2 : Int) ∧ (i : Int) < 3 ∧ ¬ (0 : Int) < (xl : Int) := by omega
                  go_wp2
                  go_meet
                  exact HI
              · have t1 : (i : Int) < (len1 : Int) ∧ (i : Int) < (len2 : Int) ∧ ¬ (i : Int) < 3 := by omega
                go_wp2
                go_meet
                exact HI
            · have t1 : (i : Int) < (len1 : Int) ∧ ¬ (i : Int) < (len2 : Int) := by omega
              go_wp2
              go_meet
              exact HI
          · have t1 : ¬ (i : Int) < (len1 : Int) := by omega
            go_wp2
            go_meet
            exact HI
      case rest =>
        have HC := hcut
        clear hcut HO6 HD6 HB6
        obtain ⟨q2, hq2⟩ : ∃ q2, IntKind.i64.wrap (a3.tdiv 2) = q2 := ⟨_, rfl⟩
        have s5 : IntKind.i64.wrap ((xl : Int) + 1) = ((xl + 1 : Nat) : Int) := by rw [IntWalk.i64_in _ (by omega)]; omega
        have hxx : xl ≤ cd ∧ cd ≤ 9223372036854775807 := by
          obtain ⟨D, _, _, h, _⟩ := HC.out
          obtain ⟨A', c', hA', _, h1, h2⟩ := own_any h
          cases hA'
          unfold maxLen at h2
          omega
        go_upto_if 97 with fail
        go_cut [16] from 95 to 105 (fun v16 wx => (∃ j : Nat, v16 = .slice Ad j cd ∧ j ≤ xl) ∧ wx = wc)
        case first =>
          by_cases hodd : a3.tmod 2 = 1
          · have eo : (a3.tmod 2 == 1) = true := by simpa using hodd
            go_wp2_with fail
            refine (within20 q2 ((xl : Int) + 1) wc (by omega) (by omega)).mono ?_
            rintro e w' ⟨rfl, rfl⟩
            obtain ⟨jj, hjj⟩ : ∃ jj : Nat, q2 % ((xl : Int) + 1) = (jj : Int) := ⟨(q2 % ((xl : Int) + 1)).toNat, by have := Int.emod_nonneg q2 (show (xl : Int) + 1 ≠ 0 by omega); omega⟩
            have hjx : jj ≤ xl := by have := Int.emod_lt_of_pos q2 (show 0 < (xl : Int) + 1 by omega); omega
            have hjc : (0 : Int) ≤ (jj : Int) ∧ (jj : Int) ≤ (cd : Int) := by omega
            rw [hjj]
            go_wp2
            go_meet
            exact ⟨⟨jj, rfl, hjx⟩, rfl⟩
          · have eo : (a3.tmod 2 == 1) = false := by simpa using hodd
            go_wp2
            go_meet
            exact ⟨⟨xl, rfl, Nat.le_refl _⟩, rfl⟩
        case rest =>
          obtain ⟨⟨j, rfl, hj⟩, rfl⟩ := hcut
          obtain ⟨D, hDl, hDb, hDo, hXo, hBo⟩ := HC.out
          obtain ⟨hl4, e4, hn4, hb4⟩ := R4H.out
          obtain ⟨Ax', cx', hAx, hxA, hxl, hxc⟩ := own_any hXo
          cases hAx
          obtain ⟨Ad', cd', hAd, hdA, hdl, hdc⟩ := own_any hDo
          cases hAd
          have hB0 := hBo.size
          have b1 : Below wc.heap.size wc (wc.alloc (Obj.cells #[] 5)) := (Below.refl _ _).alloc (Nat.le_refl _) _
          have o1 : (wc.alloc (Obj.cells #[] 5)).ownsRow wc.heap.size 5 1 (.slice (some ⟨wc.heap.size, 0, none⟩) 0 0) 0 (([] : List Int).map (Value.int .u8)) := World.ownsRow_made wc #[] 0 (Nat.le_refl _) (by unfold maxLen; omega) rfl
          obtain ⟨v2, u6', r2', o2, g2⟩ := app_lst (L := X) (m := xl) (c := cx) (A := Ax) o1 HX.out.2 hxA ((Lst.own hXo).below b1) (by simp) (by omega)
          rw [Nat.zero_add, List.nil_append] at o2
          obtain ⟨Ay, cy, rfl, _⟩ := own_any o2
          have b2 : Below wc.heap.size wc u6' := b1.grown g2 (by simp) (fun k e => (own_lt o1 e).1)
          obtain ⟨v3, u7, r3', o3, g3⟩ := app_lst (L := R4) (m := len4) (c := cap4) (A := a4) o2 e4 hn4 (hl4.below (hBo.trans (b2.mono hB0))) b2.size (by omega)
          obtain ⟨Az, cz, rfl, hzA, hzl, hzc⟩ := own_any o3
          have b3 : Below wc.heap.size wc u7 := b2.grown g3 b2.size (fun k e => (own_lt o2 e).1)
          have b4 : Below u7.heap.size u7 (u7.alloc (Obj.cells #[.slice Ad j cd, .slice Az (xl + len4) cz, .slice a4 len4 cap4] 24)) := (Below.refl _ _).alloc (Nat.le_refl _) _
          have hz9 : (u7.alloc (Obj.cells #[.slice Ad j cd, .slice Az (xl + len4) cz, .slice a4 len4 cap4] 24)).heap[u7.heap.size]? = some (.cells #[.slice Ad j cd, .slice Az (xl + len4) cz, .slice a4 len4 cap4] 24 (0, 0)) := World.alloc_heap_new u7 _
          obtain ⟨W9, hW9⟩ : ∃ W9, u7.alloc (Obj.cells #[.slice Ad j cd, .slice Az (xl + len4) cz, .slice a4 len4 cap4] 24) = W9 := ⟨_, rfl⟩
          rw [hW9] at b4 hz9
          have b9 : Below wc.heap.size wc W9 := b3.trans (b4.mono b3.size)
          have bw9 : Below w.heap.size w W9 := hBo.trans (b9.mono hB0)
          have HE : Hid (∀ i, i < 3 → Ent W9 W9.heap.size u7.heap.size i) := Lib.hid (by
            have hs9 := b9.size
            intro i hi
            rcases (by omega : i = 0 ∨ i = 1 ∨ i = 2) with rfl | rfl | rfl
            · refine ⟨Ad, j, cd, D.take j, by rw [blk_cell hz9 0]; rfl, by rw [List.length_take]; omega, by omega, by omega, hdc, fun e => ?_, ?_, fun x hx => hDb x (List.mem_of_mem_take hx)⟩
              · have := hdA e
                omega
              · rw [List.map_take]
                exact (((Lst.own hDo).below b9).more hs9).take j
            · refine ⟨Az, xl + len4, cz, X ++ R4, by rw [blk_cell hz9 1]; rfl, by rw [List.length_append, HX.out.2, e4], by omega, hzl, hzc, hzA, ((Lst.own o3).below b4).more b4.size, fun x hx => ?_⟩
              rcases List.mem_append.1 hx with h | h
              · exact HXB.out x h
              · exact hb4 x h
            · exact ⟨a4, len4, cap4, R4, by rw [blk_cell hz9 2]; rfl, e4, by omega, hlc4, by unfold maxLen; exact hcm4, hn4, (hl4.below bw9).more bw9.size, hb4⟩)
          have HZ : Hid (u7.heap.size < W9.heap.size) := Lib.hid (blk_lt hz9)
          have HB9 := Lib.hid bw9
          clear hDl hDb hDo hXo hBo hl4 e4 hn4 hb4 hxA hxl hxc hdA hdl hdc hB0 b1 o1 g2 o2 b2 g3 o3 hzA hzl hzc b3 b4 hz9 b9 bw9 HC
          go_wp2_with fail
          obtain ⟨z9, hz9⟩ : ∃ z9, u7.heap.size = z9 := ⟨_, rfl⟩
          rw [hz9] at HE HZ
          try rw [hz9]
          clear r2' r3' hW9 hz9
          go_loopg [19] 3 (fun g v wr => ∃ (i : Nat), i + g = 3 ∧ v = .int .i64 (i : Int) ∧ Hid (Below w.heap.size w wr ∧ Below W9.heap.size W9 wr))
          case atStart => exact ⟨0, by omega, rfl, Lib.hid ⟨HB9.out, Below.refl _ _⟩⟩
          case round =>
            obtain ⟨i, hig, rfl, HI⟩ := hrel
            by_cases hlt : i < 3
            · obtain ⟨g1, rfl⟩ : ∃ g1, gk = g1 + 1 := ⟨gk - 1, by omega⟩
              have t1 : (i : Int) < 3 ∧ (0 : Int) ≤ (i : Int) := by omega
              obtain ⟨EA, en, ec, EL, q0, q1, q2', q3, q4, q5, q6, q7⟩ := HE.out i hlt
              have p0 := (HI.out.2.cell (p := ⟨z9, i, none⟩) HZ.out).trans q0
              have b1 : Below wr.heap.size wr (wr.alloc (Obj.cells #[] 5)) := (Below.refl _ _).alloc (Nat.le_refl _) _
              have p1 : (wr.alloc (Obj.cells #[] 5)).cell? ⟨z9, i, none⟩ = some (.slice EA en ec) := (b1.cell (p := ⟨z9, i, none⟩) (World.block_lt_of_cell? wr _ p0)).trans p0
              have o1 : (wr.alloc (Obj.cells #[] 5)).ownsRow wr.heap.size 5 1 (.slice (some ⟨wr.heap.size, 0, none⟩) 0 0) 0 (([] : List Int).map (Value.int .u8)) := World.ownsRow_made wr #[] 0 (Nat.le_refl _) (by unfold maxLen; omega) rfl
              have hs1 := HI.out.2.size
              obtain ⟨v2, x2, r2', o2, g2⟩ := app_lst (L := EL) (m := en) (c := ec) (A := EA) o1 q1 q5 (q6.below (HI.out.2.trans (b1.mono hs1))) (by simp) (by omega)
              rw [Nat.zero_add, List.nil_append] at o2
              obtain ⟨Ay, cy, rfl, hyA, _⟩ := own_any o2
              have b2 : Below wr.heap.size wr x2 := b1.grown g2 (by simp) (fun k e => (own_lt o1 e).1)
              obtain ⟨EE, ebs, hebs, C1, C2⟩ := both_any (A' := none) (c' := 0) q1 q2' hyA (Lst.own o2) q7
              have HP := Lib.hid p0
              have HB2 := Lib.hid b2
              have HC1 := Lib.hid C1
              have HC2 := Lib.hid C2
              have HQ := Lib.hid (And.intro q3 (And.intro q4 (And.intro q5 q6)))
              clear b1 o1 g2 o2 b2 C1 C2 q0 q3 q4 q5 q6 q7 hyA hs1
              go_wp2_with fail
              refine HC1.out.mono ?_
              rintro e x3 ⟨hb3, V, rfl, hV⟩
              obtain ⟨Av, cv, rfl⟩ : ∃ A c, V = .slice A ebs.length c := by obtain ⟨A, c, h, _⟩ := hV; exact ⟨A, c, h⟩
              have hb3' : Below wr.heap.size wr x3 := HB2.out.trans (hb3.mono HB2.out.size)
              have p3 : x3.cell? ⟨z9, i, none⟩ = some (.slice EA en ec) := (hb3'.cell (p := ⟨z9, i, none⟩) (World.block_lt_of_cell? wr _ HP.out)).trans HP.out
              have HV := Lib.hid hV
              have HB3 := Lib.hid hb3'
              clear hb3 hV hb3' p0 p1 r2' HC1 HB2
              go_wp2_with fail
              refine (HC2.out x3 EA ec HQ.out.2.2.1 HQ.out.1 HQ.out.2.1 ((HQ.out.2.2.2.below (HI.out.2.trans (HB3.out.mono HI.out.2.size))).more (Nat.le_trans HI.out.2.size HB3.out.size))).mono ?_
              rintro e x4 ⟨hb4, V', rfl, hV'⟩
              obtain ⟨Av', cv', rfl⟩ : ∃ A c, V' = .slice A ebs.length c := by obtain ⟨A, c, h, _⟩ := hV'; exact ⟨A, c, h⟩
              have HB4 : Hid (Below wr.heap.size wr x4) := Lib.hid (HB3.out.trans (hb4.mono HB3.out.size))
              have C3 := Lib.hid (same_any (HV.out.below hb4 hb4.size) hV' (by omega))
              clear hb4 hV' p3 HC2 HB3 HV
              go_wp2_with fail
              refine C3.out.mono ?_
              rintro e x5 ⟨rfl, hb5⟩
              have HIN : Hid (Below w.heap.size w x5 ∧ Below W9.heap.size W9 x5) := Lib.hid (by
                have hb6 := HB4.out.trans (hb5.mono HB4.out.size)
                exact ⟨HI.out.1.trans (hb6.mono HI.out.1.size), HI.out.2.trans (hb6.mono HI.out.2.size)⟩)
              clear hb5 C3 HB4
              go_wp2
              go_roundg g1
              case rel => exact ⟨i + 1, by omega, by go_num, HIN⟩
              case measure => omega
            · obtain rfl : i = 3 := by omega
              go_wp2
              go_ret
              exact ⟨rfl, HI.out.1⟩
  · have h2 : (200 : Int) < (len4 : Int) := by omega
    go_enter Try.func3, Try.ntmps3
    go_wp2_with fail
    refine (K.out _).mono ?_
    rintro e u0 ⟨rfl, hb⟩
    have HB := Lib.hid hb
    clear hb K
    go_wp2
    go_ret
    exact ⟨rfl, HB.out⟩
end Go.Proofs.Ytfjkfajhfnmjjaa
