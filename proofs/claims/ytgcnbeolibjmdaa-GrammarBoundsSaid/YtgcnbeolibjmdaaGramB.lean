/- GrammarBounds, walked. -/
import Derived.Test.YtgcnbeolibjmdaaGramC
set_option linter.unusedVariables false
namespace Go.Proofs.Ytgcnbeolibjmdaa
open Go.RowKit

theorem and127 (a : Int) : 0 ≤ bits .and .u8 a 127 ∧ bits .and .u8 a 127 ≤ 127 := by
  have h : ∃ m : Nat, m ≤ 127 ∧ bits .and .u8 a 127 = IntKind.u8.wrap (m : Int) :=
    ⟨(BitVec.ofInt 8 a &&& BitVec.ofInt 8 127).toNat, by
      rw [BitVec.toNat_and]
      have : (BitVec.ofInt 8 127).toNat = 127 := by decide
      rw [this]
      exact Nat.and_le_right, rfl⟩
  obtain ⟨m, h1, h2⟩ := h
  rw [h2, IntWalk.u8_in _ (by omega)]
  omega
theorem mem_set_le {xs : List Int} {k : Nat} {a : Int} (h : ∀ x ∈ xs, x ≤ 127) (ha : a ≤ 127) : ∀ x ∈ xs.set k a, x ≤ 127 := by
  intro x hx
  rcases List.mem_or_eq_of_mem_set hx with h1 | h1
  · exact h x h1
  · omega
theorem get_le {xs : List Int} (h : ∀ x ∈ xs, x ≤ 127) (i : Nat) : xs.getD i 0 ≤ 127 := by
  rw [List.getD_eq_getElem?_getD]
  rcases Nat.lt_or_ge i xs.length with hi | hi
  · rw [List.getElem?_eq_getElem hi]; exact h _ (List.getElem_mem hi)
  · rw [List.getElem?_eq_none hi]; decide
theorem getD_set_ne {xs : List Int} {k i : Nat} {a : Int} (h : k ≠ i) : (xs.set k a).getD i 0 = xs.getD i 0 := by
  simp only [List.getD_eq_getElem?_getD, List.getElem?_set_ne h]
theorem getD_set_eq {xs : List Int} {k : Nat} {a : Int} (h : k < xs.length) : (xs.set k a).getD k 0 = a := by
  simp only [List.getD_eq_getElem?_getD, List.getElem?_set_self h, Option.getD_some]
theorem clean_two {xs : List Int} {k : Nat} {v : Int} (h : ∀ x ∈ xs, x ≤ 127) (hk : k + 1 < xs.length) :
    clean ((xs.set k 255).set (k + 1) v) = decide (v ≤ 143) ∧ clean (((xs.set k 255).set (k + 1) v).take (k + 1)) = true := by
  have ln : ((xs.set k 255).set (k + 1) v).length = xs.length := by simp
  have g0 : ((xs.set k 255).set (k + 1) v).getD k 0 = 255 := by rw [getD_set_ne (by omega), getD_set_eq (by omega)]
  have g1 : ((xs.set k 255).set (k + 1) v).getD (k + 1) 0 = v := getD_set_eq (by simp; omega)
  have g2 : ∀ i, i ≠ k → i ≠ k + 1 → ((xs.set k 255).set (k + 1) v).getD i 0 ≤ 127 := fun i h1 h2 => by
    rw [getD_set_ne (by omega), getD_set_ne (by omega)]; exact get_le h i
  have lt : (((xs.set k 255).set (k + 1) v).take (k + 1)).length = k + 1 := by rw [List.length_take, ln]; omega
  refine ⟨?_, ?_⟩
  · by_cases hv : v ≤ 143
    · rw [decide_eq_true hv]
      refine clean_yes fun i hi => ?_
      rw [ln] at hi
      unfold pairAt
      by_cases e1 : i = k
      · subst e1; rw [g1, decide_eq_false (show ¬ 143 < v by omega), Bool.and_false]
      · by_cases e2 : i = k + 1
        · subst e2
          have := g2 (k + 1 + 1) (by omega) (by omega)
          rw [decide_eq_false (show ¬ 143 < ((xs.set k 255).set (k + 1) v).getD (k + 1 + 1) 0 by omega), Bool.and_false]
        · have := g2 i e1 e2
          rw [decide_eq_false (show ¬ ((xs.set k 255).set (k + 1) v).getD i 0 = 255 by omega), Bool.false_and]
    · rw [decide_eq_false hv]
      refine clean_no (i := k) (by omega) ?_
      unfold pairAt
      rw [g0, g1]; simp; omega
  · refine clean_yes fun i hi => ?_
    rw [lt] at hi
    unfold pairAt
    rw [getD_take (by omega), getD_take (by omega)]
    have := g2 i (by omega) (by omega)
    rw [decide_eq_false (show ¬ ((xs.set k 255).set (k + 1) v).getD i 0 = 255 by omega), Bool.false_and]

set_option maxHeartbeats 8000000 in
theorem walk_bounds_go (A : Option Addr) (n c k v : Nat) (at0 n0 : Int) (l : List Int) (w : World) (hl : l.length = n) (hn : n ≤ 200) (hn2 : 2 ≤ n) {B : Nat} (h : Lst w B A (l.map (Value.int .u8))) (hB : B ≤ w.heap.size) (hk : at0 % ((n : Int) - 1) = (k : Int)) (hv : n0 % 256 = (v : Int)) (hkn : k + 1 < n) (hv2 : v < 256) :
    Calls Try.prog 4 #[.slice A n c, .int .i64 at0, .int .i64 n0] w fun e w' => e = .returned (.bool true) ∧ Below w.heap.size w w' := by
  have HL := Lib.hid hl
  have H := Lib.hid h
  have WI : Hid (∀ u, Calls Try.prog 6 #[.int .i64 at0, .int .i64 ((n : Int) - 1)] u fun e w'' => e = .returned (.int .i64 (k : Int)) ∧ u = w'') := Lib.hid (fun u => by
    have := within_any at0 ((n : Int) - 1) u (by omega) (by omega)
    rwa [hk] at this)
  have WV : Hid (∀ u, Calls Try.prog 6 #[.int .i64 n0, .int .i64 256] u fun e w'' => e = .returned (.int .i64 (v : Int)) ∧ u = w'') := Lib.hid (fun u => by
    have := within_any n0 256 u (by omega) (by omega)
    rwa [hv] at this)
  have hmk : ∀ u : World, (Instr.makeSlice 22 (.int .i64 (n : Int)) (.int .i64 (n : Int))).run Try.prog u = .ok (.slice (some ⟨u.heap.size, 0, none⟩) n n) (u.alloc (.cells (madeCells #[.int .u8 0] n) 5)) := fun u =>
    run_make_row' 22 5 (.int .u8 0) 1 Try.underlying22 Try.info5 rfl .i64 .i64 n (by omega) (by omega) u
  clear hl h hk hv
  have hn3 : ¬ (200 : Int) < (n : Int) := by omega
  have hn4 : ¬ (n : Int) < 2 := by omega
  go_enter Try.func4, Try.ntmps4
  go_wp2_with fail
  refine (known19 _).mono ?_
  rintro e w1 ⟨rfl, b1⟩
  have s1 := b1.size
  have HL1 := Lib.hid (H.out.keep (w' := w1) fun p hp => b1.cell (by omega))
  have hX : (w1.alloc (Obj.cells (madeCells #[Value.int IntKind.u8 0] n) 5)).ownsRow w1.heap.size 5 1 (.slice (some ⟨w1.heap.size, 0, none⟩) n n) n ((List.replicate n (0 : Int)).map (Value.int .u8)) := by
    have h := World.ownsRow_lit (base := w1.heap.size) (e := 5) (size := 1) w1 (madeCells #[Value.int IntKind.u8 0] n) n (by simp) (by unfold maxLen; omega) (by rw [size_madeCells]; simp)
    rw [toList_madeCells_one] at h
    simpa using h
  have HX := Lib.hid hX
  have b2 := b1.alloc s1 (Obj.cells (madeCells #[Value.int IntKind.u8 0] n) 5)
  clear hX H
  go_wp2
  go_loopw [8] (fun i wr => ∃ (j : Nat) (xs : List Int), j ≤ n ∧ i = .int .i64 (j : Int) ∧ xs.length = n ∧ (∀ x ∈ xs, x ≤ 127) ∧ wr.ownsRow w1.heap.size 5 1 (.slice (some ⟨w1.heap.size, 0, none⟩) n n) n (xs.map (Value.int .u8)) ∧ Below w.heap.size w wr ∧ Lst wr B A (l.map (Value.int .u8))) (fun i _ => n - (intOf i).toNat)
  case atStart => exact ⟨0, _, by omega, rfl, by simp, by intro x hx; rw [List.eq_of_mem_replicate hx]; decide, HX.out, b2, HL1.out.keep fun p hp => World.cell?_alloc_lt w1 _ p (by omega)⟩
  case round =>
    obtain ⟨j, xs, hj, rfl, hxl, hx7, hO, hb, hL⟩ := hrel
    clear b2
    by_cases c1 : j < n
    · have c2 : (j : Int) < (n : Int) := by omega
      obtain ⟨b, o, rfl, _, f1⟩ := lst_at hL (k := j) (by rw [HL.out]; omega)
      have ha := and127 (l.getD j 0)
      have f4 := hO.cellAt j (by omega)
      have f5 := hO.frozenAt j
      have e4 : (xs.map (Value.int .u8))[j]? = some (.int .u8 (xs.getD j 0)) := by rw [List.getElem?_map, List.getD_eq_getElem?_getD, List.getElem?_eq_getElem (by omega)]; rfl
      rw [e4] at f4
      clear e4
      generalize xs.getD j 0 = z at f4
      have S := hO.stored j (.int .u8 (bits .and .u8 (l.getD j 0) 127))
      have hx2 := mem_set_le (k := j) hx7 ha.2
      have S1 := S.1
      rw [← List.map_set] at S1
      have hb2 := hb.setCell (p := ⟨w1.heap.size, j, none⟩) (by show w.heap.size ≤ w1.heap.size; omega) (.int .u8 (bits .and .u8 (l.getD j 0) 127))
      have hL2 := hL.keep (w' := wr.setCell ⟨w1.heap.size, j, none⟩ (.int .u8 (bits .and .u8 (l.getD j 0) 127))) fun p hp => World.cell?_of_block (Below.heap_setCell _ _ _ _ (by show p.block ≠ w1.heap.size; omega))
      have HS := Lib.hid S1
      have HB2 := Lib.hid hb2
      have HL2 := Lib.hid hL2
      have HX2 := Lib.hid hx2
      have hlen2 : Hid ((xs.set j (bits .and .u8 (l.getD j 0) 127)).length = n) := Lib.hid (by simp [hxl])
      clear S S1 hb2 hL2 hx2 hO hb hL hx7 hxl
      generalize l.getD j 0 = y at *
      obtain ⟨a, hae⟩ : ∃ a, bits .and .u8 y 127 = a := ⟨_, rfl⟩
      rw [hae] at HS HB2 HL2 HX2 hlen2 ha
      go_wp2
      go_roundw
      case rel => exact ⟨j + 1, _, by omega, by go_num, hlen2.out, HX2.out, HS.out, HB2.out, HL2.out⟩
      case measure => simp [intOf] <;> omega
    · have c2 : ¬ (j : Int) < (n : Int) := by omega
      have hct := clean_two (k := k) (v := (v : Int)) hx7 (by omega)
      have HCT := Lib.hid hct
      have f4 := hO.cellAt k (by omega)
      have f5 := hO.frozenAt k
      have e4 : (xs.map (Value.int .u8))[k]? = some (.int .u8 (xs.getD k 0)) := by rw [List.getElem?_map, List.getD_eq_getElem?_getD, List.getElem?_eq_getElem (by omega)]; rfl
      rw [e4] at f4
      clear e4
      generalize xs.getD k 0 = z at f4
      have S := (hO.stored k (.int .u8 255)).1
      rw [← List.map_set] at S
      have hb2 := hb.setCell (p := ⟨w1.heap.size, k, none⟩) (by show w.heap.size ≤ w1.heap.size; omega) (.int .u8 255)
      generalize hW2 : wr.setCell ⟨w1.heap.size, k, none⟩ (.int .u8 255) = W2 at *
      have f6 := S.cellAt (k + 1) (by omega)
      have f7 := S.frozenAt (k + 1)
      have e4 : ((xs.set k 255).map (Value.int .u8))[k + 1]? = some (.int .u8 ((xs.set k 255).getD (k + 1) 0)) := by rw [List.getElem?_map, List.getD_eq_getElem?_getD, List.getElem?_eq_getElem (by simp; omega)]; rfl
      rw [e4] at f6
      clear e4
      generalize (xs.set k 255).getD (k + 1) 0 = z' at f6
      have S2 := (S.stored (k + 1) (.int .u8 (v : Int))).1
      rw [← List.map_set] at S2
      have hb3 := hb2.setCell (p := ⟨w1.heap.size, k + 1, none⟩) (by show w.heap.size ≤ w1.heap.size; omega) (.int .u8 (v : Int))
      generalize hW3 : W2.setCell ⟨w1.heap.size, k + 1, none⟩ (.int .u8 (v : Int)) = W3 at *
      have f8 := S2.cellAt (k + 1) (by omega)
      have e4 : (((xs.set k 255).set (k + 1) (v : Int)).map (Value.int .u8))[k + 1]? = some (.int .u8 (v : Int)) := by rw [List.getElem?_map, List.getElem?_set_self (by simp; omega)]; rfl
      rw [e4] at f8
      clear e4
      have hlen3 : ((xs.set k 255).set (k + 1) (v : Int)).length = n := by simp [hxl]
      have HLS := Lib.hid (Lst.own S2)
      have HLN := Lib.hid hlen3
      have HB3 := Lib.hid hb3
      have HHW3 := Lib.hid hW3
      have i1 : (k : Int) + 1 < (n : Int) := by omega
      have i2 : (k : Int) < (n : Int) := by omega
      have i3 : k + 1 ≤ n := by omega
      have iv : IntKind.u8.wrap (v : Int) = (v : Int) := IntWalk.u8_in _ (by omega)
      clear S S2 hb hb2 hb3 hlen3 hct hx7 hO hL hxl HL1 HX hmk
      generalize ((xs.set k 255).set (k + 1) (v : Int)) = ys at *
      obtain ⟨c3, hc3⟩ : ∃ c3, decide ((v : Int) ≤ 143) = c3 := ⟨_, rfl⟩
      have HC3 := Lib.hid hc3
      have C1 : Hid (∀ q, Calls Try.prog 7 #[.slice (some ⟨w1.heap.size, 0, none⟩) n n] (W3.drewN q) fun e w' => e = .returned (.bool c3) ∧ ∃ m, w' = (W3.drewN q).drewN m) := Lib.hid (fun q => by
        have := clean_any (w := W3.drewN q) (c := n) HLN.out (Drew.lst HLS.out (Drew.mk _ _)) (by omega)
        rw [HCT.out.1, hc3] at this
        exact this)
      have C2 : Hid (∀ q, Calls Try.prog 7 #[.slice (some ⟨w1.heap.size, 0, none⟩) (k + 1) n] (W3.drewN q) fun e w' => e = .returned (.bool true) ∧ ∃ m, w' = (W3.drewN q).drewN m) := Lib.hid (fun q => by
        have := clean_any (w := W3.drewN q) (l := ys.take (k + 1)) (c := n) (n := k + 1) (B := W3.heap.size) (by rw [List.length_take, HLN.out]; omega) (by have := (Drew.lst HLS.out (Drew.mk W3 q)).take (k + 1); rwa [← List.map_take] at this) (by omega)
        rw [HCT.out.2] at this
        exact this)
      have C4 : Hid (∀ q, Calls Try.prog 7 #[.slice none 0 0] (W3.drewN q) fun e w' => e = .returned (.bool true) ∧ ∃ m, w' = (W3.drewN q).drewN m) := Lib.hid (fun q => by
        have := clean_any (w := W3.drewN q) (B := 0) (A := none) (l := []) (c := 0) (n := 0) rfl (by simpa using Lst.nil) (by omega)
        exact this)
      clear hc3
      go_wp2_with fail
      refine (WI.out _).mono ?_
      rintro e w9 ⟨rfl, rfl⟩
      go_wp2_with fail
      refine (WV.out _).mono ?_
      rintro e w9 ⟨rfl, rfl⟩
      clear WI WV
      have w1k : IntKind.i64.wrap ((k : Int) + 1) = (k : Int) + 1 := IntWalk.i64_in _ (by omega)
      have w2k : (0 : Int) ≤ (k : Int) + 1 := by omega
      have w3k : ((k : Int) + 1).toNat = k + 1 := by omega
      have b1 : (k : Int) + 1 ≤ (n : Int) := by omega
      by_cases hv3 : (v : Int) ≤ 143
      · have hvd : decide ((v : Int) ≤ 143) = true := decide_eq_true hv3
        obtain rfl : c3 = true := by rw [← HC3.out, hvd]
        go_wp2
        go_quiet ((first | (go_at_call 7; exact Calls.quiet_of (C1.out _)) | (go_at_call 7; exact Calls.quiet_of (C2.out _)) | (go_at_call 7; exact Calls.quiet_of (C4.out _))))
        go_wp2
        go_ret
        exact ⟨rfl, below_drewN HB3.out nq⟩
      · have hvd : decide ((v : Int) ≤ 143) = false := decide_eq_false hv3
        obtain rfl : c3 = false := by rw [← HC3.out, hvd]
        go_wp2
        go_quiet ((first | (go_at_call 7; exact Calls.quiet_of (C1.out _)) | (go_at_call 7; exact Calls.quiet_of (C2.out _)) | (go_at_call 7; exact Calls.quiet_of (C4.out _))))
        go_wp2
        go_ret
        exact ⟨rfl, below_drewN HB3.out nq⟩
theorem walk_grammarBounds (a0 : Option Addr) (len0 cap0 : Nat) (z0 : List Int) (a1 a2 : Int) (w : World) (w0 : IsRow .u8 w a0 len0 cap0 z0) (w1 : (Lit.int .i64 a1).wf = true) (w2 : (Lit.int .i64 a2).wf = true) :
    Calls Try.prog 4 #[.slice a0 len0 cap0, .int .i64 a1, .int .i64 a2] w fun e w' => e = .returned (.bool true) ∧ Below w.heap.size w w' := by
  have hl := lst_of_row w0
  obtain ⟨hlen, hlc, hcm, hnil⟩ := row_len w0
  clear w0
  generalize z0.take len0 = l at *
  have hno : (len0 < 2 ∨ 200 < len0) → Calls Try.prog 4 #[.slice a0 len0 cap0, .int .i64 a1, .int .i64 a2] w fun e w' => e = .returned (.bool true) ∧ Below w.heap.size w w' := by
    unfold maxLen at hcm
    clear hl hlen hnil
    rintro (h | h)
    · have h' : (len0 : Int) < 2 := by omega
      go_enter Try.func4, Try.ntmps4
      go_wp2_with fail
      refine (known19 _).mono ?_
      rintro e w1 ⟨rfl, b1⟩
      go_wp2
      go_ret
      exact ⟨rfl, b1⟩
    · have h' : (200 : Int) < (len0 : Int) := by omega
      have h'' : ¬ (len0 : Int) < 2 := by omega
      go_enter Try.func4, Try.ntmps4
      go_wp2_with fail
      refine (known19 _).mono ?_
      rintro e w1 ⟨rfl, b1⟩
      go_wp2
      go_ret
      exact ⟨rfl, b1⟩
  by_cases h1 : len0 < 2
  · exact hno (Or.inl h1)
  by_cases h2 : 200 < len0
  · exact hno (Or.inr h2)
  have r1 := within_rng a1 ((len0 : Int) - 1) (by omega)
  have r2 := within_rng a2 256 (by omega)
  exact walk_bounds_go a0 len0 cap0 (a1 % ((len0 : Int) - 1)).toNat (a2 % 256).toNat a1 a2 l w hlen (by omega) (by omega) hl (Nat.le_refl _) (by omega) (by omega) (by omega) (by omega)
end Go.Proofs.Ytgcnbeolibjmdaa
