/- boxes: a slice of boxes that is handed in, opened. -/
import Derived.Test.YtfjkfajhfnmjjaaBoxY
import Derived.Deep.SlicePairs
import Derived.SizedLaws
import Derived.WalkKit
import Derived.ProofKit
import Derived.OpenShut
import Derived.ShutString
import Derived.ChangeOld
set_option linter.unusedVariables false
namespace Go.Proofs.Ytfjkfajhfnmjjaa
open Go.ChangeShapes Go.WideShapes Go.ChangeAt Go.RowKit Go.Deep
theorem mem_weightsAll {H : Type} {P : Program} {e : TypeId} : ∀ {ds : List (DataW H)} {d : DataW H} {n : Nat}, d ∈ ds → n ∈ d.weights P e → n ∈ DataW.weightsAll P e ds
  | d0 :: ds, d, n, hd, hn => by
    simp only [DataW.weightsAll, List.mem_append]
    rcases List.mem_cons.1 hd with rfl | hd
    · exact Or.inl hn
    · exact Or.inr (mem_weightsAll hd hn)
theorem box_in {H : Type} {enc : TypeId × Value → H} {W : World} {a0 : Option Addr} {len cap fuel : Nat} {x : DataW H × List MemPlace} (hf : DataW.trod enc Try.prog W 0 (fun _ => true) true fuel 22 [.slice a0 len cap] = some x)
    (hsz : ∀ n ∈ x.1.weights Try.prog 22, n ≤ reachBytes) : BoxIn W a0 len cap := by
  rcases open_slice_pairs Try.underlying22 Try.underlying42 (by kernel_rfl) rfl rfl (by kernel_rfl) (by kernel_rfl) hf with ⟨hcs, _⟩ | ⟨a, l, c, m, n, V0, V1, D0, D1, P0, P1, hcs, _, hl, hm, hmm, hx, hall⟩
  · simp at hcs
    obtain ⟨rfl, rfl, rfl⟩ := hcs
    exact ⟨Nat.le_refl _, by unfold maxLen; omega, fun i hi => absurd hi (by omega)⟩
  · simp at hcs
    obtain ⟨rfl, rfl, rfl⟩ := hcs
    refine ⟨hl, hm, fun i hi => ?_⟩
    simp only [if_true] at hmm
    obtain ⟨q0, q1, t0, t1⟩ := hall i (by rw [hmm]; omega)
    obtain ⟨s, hs, hd, _⟩ := DataW.trod_string Try.underlying9 t0
    simp only [List.cons.injEq, and_true] at hs
    simp only [Prod.mk.injEq] at hd
    obtain ⟨b, o, spot⟩ := a
    have hsp : (Addr.add ⟨b, o, spot⟩ (i * 2)).spot = none := World.cell?_spot q0
    have hs0 : spot = none := by
      obtain ⟨q0', _⟩ := hall 0 (by rw [hmm]; omega)
      have h := World.cell?_spot q0'
      simpa [Addr.add] using h
    subst hs0
    have ea : ∀ k, Addr.add ⟨b, o, none⟩ k = ⟨b, o + k, none⟩ := fun k => by unfold Addr.add; split <;> simp_all
    rw [ea] at q0 q1
    rw [hs] at q0
    have hsize : s.size ≤ 140737488351232 := by
      have h1 : s.data.toList.length ≤ reachBytes := by
        refine hsz _ ?_
        rw [hx]
        simp only [DataW.weights, Try.underlying22, List.mem_cons, List.mem_append]
        refine .inr (.inl (mem_weightsAll (d := .agg [D0 i, D1 i]) (List.mem_map.2 ⟨i, List.mem_range.2 hi, rfl⟩) ?_))
        simp [DataW.weights, DataW.weightsEach, Try.underlying42, hd.1]
      have h2 : s.size = s.data.toList.length := by rw [Array.length_toList]; rfl
      have h3 : reachBytes = 140737488351232 := rfl
      omega
    rcases open_ints Try.underlying24 Try.underlying5 (by kernel_rfl) t1 with ⟨hcs, _⟩ | ⟨y, l2, c2, zs, hcs, _, hl2, hm2, hz, _, hcell, hwz⟩
    · simp only [List.cons.injEq, and_true] at hcs
      rw [hcs] at q1
      exact ⟨b, o, rfl, World.block_lt_of_cell? W _ q0, s, none, 0, 0, [], hsize, q0, q1, .inl ⟨rfl, rfl, rfl, rfl⟩⟩
    · simp only [List.cons.injEq, and_true] at hcs
      rw [hcs] at q1
      exact ⟨b, o, rfl, World.block_lt_of_cell? W _ q0, s, some y, l2, c2, zs, hsize, q0, q1, .inr ⟨y, rfl, hl2, hm2, by simpa using hz, hcell, hwz⟩⟩
end Go.Proofs.Ytfjkfajhfnmjjaa
