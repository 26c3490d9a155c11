/- marks: comments compared. -/
import Derived.Test.YtlbfjaifemnkpaaMkSb
import Derived.Deep.QuietTactic
import Derived.BigQuiet
set_option linter.unusedVariables false
set_option linter.unusedSimpArgs false
namespace Go.Proofs.Ytlbfjaifemnkpaa
open Go.RowKit
set_option maxRecDepth 100000
set_option maxHeartbeats 8000000 in
theorem eqb_any (A A' : Option Addr) (c c' : Nat) (l l' : List Int) (w : World) (h1 : Lst w w.heap.size A (l.map (Value.int .u8))) (h2 : Lst w w.heap.size A' (l'.map (Value.int .u8))) (hn : l.length ≤ 100000) (hn' : l'.length ≤ 100000) :
    Calls Try.prog 39 #[.slice A l.length c, .slice A' l'.length c'] w fun e w' => ∃ b, e = .returned (.bool b) ∧ (b = true ↔ l = l') ∧ Below w.heap.size w w' := by
  obtain ⟨m, hm⟩ : ∃ m, l.length = m := ⟨_, rfl⟩
  obtain ⟨m', hm'⟩ : ∃ m', l'.length = m' := ⟨_, rfl⟩
  rw [hm] at hn ⊢
  rw [hm'] at hn' ⊢
  have H1 := Lib.hid h1
  have H2 := Lib.hid h2
  have HM := Lib.hid hm
  have HM' := Lib.hid hm'
  clear h1 h2 hm hm'
  by_cases hne : m = m'
  · subst hne
    go_enter Try.func39, Try.ntmps39
    go_wp2_with fail
    go_loopw [13] (fun i wr => ∃ k : Nat, k ≤ m ∧ i = .int .i64 k ∧ Hid (Below w.heap.size w wr ∧ ∀ j : Nat, j < k → l[j]? = l'[j]?)) (fun i _ => m - (intOf i).toNat)
    case atStart => exact ⟨0, by omega, rfl, Lib.hid ⟨Below.refl _ _, fun j hj => by omega⟩⟩
    case round =>
      obtain ⟨k, k0, rfl, HK⟩ := hrel
      by_cases hk : k < m
      · obtain ⟨x, hx⟩ : ∃ x, l[k]? = some x := ⟨_, List.getElem?_eq_getElem (by rw [HM.out]; exact hk)⟩
        obtain ⟨y, hy⟩ : ∃ y, l'[k]? = some y := ⟨_, List.getElem?_eq_getElem (by rw [HM'.out]; exact hk)⟩
        obtain ⟨g, o, hA, hg, ha⟩ := (H1.out.below HK.out.1) k _ (by rw [List.getElem?_map, hx]; rfl)
        obtain ⟨g', o', hA', hg', ha'⟩ := (H2.out.below HK.out.1) k _ (by rw [List.getElem?_map, hy]; rfl)
        subst hA hA'
        have HX := Lib.hid (And.intro hx hy)
        clear hx hy H1 H2 hg hg'
        by_cases hxy : x = y
        · subst hxy
          go_wp2_with fail
          go_quiet (fail)
          go_wp2
          go_roundw
          case rel => exact ⟨k + 1, by omega, by go_num, Lib.hid ⟨below_drewN HK.out.1 _, fun j hj => by
            rcases Nat.lt_or_ge j k with h | h
            · exact HK.out.2 j h
            · obtain rfl : j = k := by omega
              exact HX.out.1.trans HX.out.2.symm⟩⟩
          case measure => simp [intOf]; omega
        · go_wp2_with fail
          go_quiet (fail)
          go_wp2
          go_ret
          exact ⟨false, rfl, ⟨fun h => (by cases h), fun h => absurd (by have h5 := HX.out.1.symm.trans ((congrArg (fun t => t[k]?) h).trans HX.out.2); injection h5) hxy⟩, below_drewN HK.out.1 _⟩
      · obtain rfl : k = m := by omega
        go_wp2
        go_ret
        exact ⟨true, rfl, ⟨fun _ => List.ext_getElem? fun i => by
          rcases Nat.lt_or_ge i k with h | h
          · exact HK.out.2 i h
          · rw [List.getElem?_eq_none (by rw [HM.out]; exact h), List.getElem?_eq_none (by rw [HM'.out]; exact h)], fun _ => rfl⟩, HK.out.1⟩
  · go_enter Try.func39, Try.ntmps39
    have hne2 : ¬ ((m : Int) = (m' : Int)) := by omega
    go_wp2_with fail
    go_ret
    exact ⟨false, rfl, ⟨fun h => (by cases h), fun h => absurd (HM.out.symm.trans ((congrArg List.length h).trans HM'.out)) hne⟩, Below.refl _ _⟩
end Go.Proofs.Ytlbfjaifemnkpaa
