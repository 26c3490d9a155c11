/- BitsStuffed, walked. -/
import Derived.Test.YthgbnkcbcepjdaaBitX
import Derived.Deep.RegionWith
set_option linter.unusedVariables false
namespace Go.Proofs.Ythgbnkcbcepjdaa
open Go.RowKit

theorem lst_at {w : World} {B : Nat} {A : Option Addr} {l : List Int} (h : Lst w B A (l.map (Value.int .u8))) {k : Nat} (hk : k < l.length) :
    ∃ b o, A = some ⟨b, o, none⟩ ∧ b < B ∧ w.cell? ⟨b, o + k, none⟩ = some (.int .u8 (l.getD k 0)) :=
  h k (.int .u8 (l.getD k 0)) (by rw [List.getElem?_map, List.getElem?_eq_getElem hk, List.getD_eq_getElem?_getD, List.getElem?_eq_getElem hk]; rfl)
theorem lst_ati {w : World} {B : Nat} {A : Option Addr} {l : List Int} (h : Lst w B A (l.map (Value.int .i64))) {k : Nat} (hk : k < l.length) :
    ∃ b o, A = some ⟨b, o, none⟩ ∧ b < B ∧ w.cell? ⟨b, o + k, none⟩ = some (.int .i64 (l.getD k 0)) :=
  h k (.int .i64 (l.getD k 0)) (by rw [List.getElem?_map, List.getElem?_eq_getElem hk, List.getD_eq_getElem?_getD, List.getElem?_eq_getElem hk]; rfl)
theorem bytesF_ok {s : List Int × Nat} (h : WOk s) : (∀ i, (bytesF s.1).getD i 0 = 255 → i + 1 < (bytesF s.1).length → (bytesF s.1).getD (i + 1) 0 ≤ 127) ∧ (∀ m, (bytesF s.1).length = m + 1 → (bytesF s.1).getD m 0 ≠ 255) ∧ (∀ x ∈ bytesF s.1, 0 ≤ x ∧ x ≤ 255) ∧ (bytesF s.1).length ≤ s.1.length + 1 := by
  obtain ⟨it, fr⟩ := s
  have hb := h.behind
  have hr := h.rng
  simp only at hb hr ⊢
  clear h
  unfold bytesF
  by_cases c : it.getLastD 0 = 255
  · rw [if_pos c]
    refine ⟨fun i h1 h2 => ?_, fun m hm => ?_, fun x hx => ?_, by simp⟩
    · rw [List.length_append, List.length_singleton] at h2
      rw [List.getD_eq_getElem?_getD, List.getElem?_append_left (by omega)] at h1
      by_cases c2 : i + 1 < it.length
      · have e1 : it[i]? = some 255 := by
          rw [List.getElem?_eq_getElem (by omega)] at h1 ⊢
          simpa using h1
        have := hb i e1 (it.getD (i + 1) 0) (by rw [List.getD_eq_getElem?_getD, List.getElem?_eq_getElem c2]; rfl)
        rw [List.getD_eq_getElem?_getD, List.getElem?_append_left c2, ← List.getD_eq_getElem?_getD]
        exact this
      · rw [List.getD_eq_getElem?_getD, List.getElem?_append_right (by omega), show i + 1 - it.length = 0 from by omega]
        decide
    · rw [List.length_append, List.length_singleton] at hm
      rw [List.getD_eq_getElem?_getD, List.getElem?_append_right (by omega), show m - it.length = 0 from by omega]
      decide
    · rcases List.mem_append.1 hx with hx | hx
      · exact hr x hx
      · simp at hx; omega
  · rw [if_neg c]
    refine ⟨fun i h1 h2 => ?_, fun m hm hx => c ?_, hr, by omega⟩
    · have e1 : it[i]? = some 255 := by
        rw [List.getD_eq_getElem?_getD] at h1
        rw [List.getElem?_eq_getElem (by omega)] at h1 ⊢
        simpa using h1
      exact hb i e1 (it.getD (i + 1) 0) (by rw [List.getD_eq_getElem?_getD, List.getElem?_eq_getElem h2]; rfl)
    · rw [List.getLastD_eq_getLast?, List.getLast?_eq_getElem?, show it.length - 1 = m from by omega, ← List.getD_eq_getElem?_getD]
      exact hx

end Go.Proofs.Ythgbnkcbcepjdaa
