/- Packets in order: one component at its own size: precincts by rows. -/
import Derived.Test.YtejoedanhonpkaaOrG
set_option linter.unusedVariables false
set_option linter.unusedSimpArgs false
namespace Go.Proofs.Ytejoedanhonpkaa
open Go.RowKit
set_option maxRecDepth 100000
theorem over_one (t : Int × Int × Int × Int) : overN t 1 = t := by
  obtain ⟨a, b, c, d⟩ := t
  have h : ∀ x : Int, ceilF x 1 = x := fun x => by unfold ceilF; rw [Int.ediv_one, Int.emod_one, if_neg (by decide)]
  simp [overN, h]
theorem rs_one (t : Int × Int × Int × Int) : rsF t (1, 1) 0 0 = t := by
  have h : ptF t (1, 1) = overN t 1 := rfl
  unfold rsF
  rw [h, over_one]
  exact over_one t
theorem spot_lt {x n : Int} {i j : Nat} (hn : 1 ≤ n) (h : i < j) : spotF x x 1 n n i < spotF x x 1 n n j := by
  unfold spotF maxJ
  rw [Int.mul_one, Int.mul_one, Int.add_mul, Int.add_mul]
  have e1 := Int.mul_ediv_add_emod x n
  have e2 := Int.emod_nonneg x (show n ≠ 0 by omega)
  have e3 := Int.emod_lt_of_pos x (show 0 < n by omega)
  have e4 : 0 ≤ (i : Int) * n := Int.mul_nonneg (by omega) (by omega)
  have e5 : ((i : Int) + 1) * n ≤ (j : Int) * n := Int.mul_le_mul_of_nonneg_right (by omega) (by omega)
  rw [Int.add_mul, Int.one_mul] at e5
  rw [Int.mul_comm] at e1
  have e6 : i = 0 → (i : Int) * n = 0 := fun h => by rw [h]; simp
  have e7 : 1 ≤ i → n ≤ (i : Int) * n := fun h => by have := Int.mul_le_mul_of_nonneg_right (show (1 : Int) ≤ i by omega) (show 0 ≤ n by omega); rwa [Int.one_mul] at this
  generalize x / n * n = a at *
  generalize x % n = b at *
  generalize (i : Int) * n = c at *
  generalize (j : Int) * n = d at *
  split <;> split <;> omega
theorem spots_list {t : Int × Int × Int × Int} {PR o : Nat} {M : List Pk} (h : OL (geo t [(1, 1)] 0 PR) 1 o M) :
    M.length = (pcF t ((2 ^ PR : Nat) : Int)).1.toNat * (pcF t ((2 ^ PR : Nat) : Int)).2.toNat ∧ ∀ (k : Nat) (x : Pk), M[k]? = some x → x.pc = (k : Int) := by
  have hwh : (geo t [(1, 1)] 0 PR).wh 0 0 = (pcF t ((2 ^ PR : Nat) : Int)).1.toNat * (pcF t ((2 ^ PR : Nat) : Int)).2.toNat := by
    show wdF t [(1, 1)] 0 PR 0 0 * htF t [(1, 1)] 0 PR 0 0 = _
    unfold wdF htF
    rw [show dAt [(1, 1)] 0 = ((1 : Int), (1 : Int)) from rfl, rs_one]
  have hdn : ∀ k, (geo t [(1, 1)] 0 PR).dn 0 0 k = spotF t.2.1 t.2.1 1 ((2 ^ PR : Nat) : Int) ((2 ^ PR : Nat) : Int) (k / wdF t [(1, 1)] 0 PR 0 0) := fun k => by
    show spotF t.2.1 (rsF t (dAt [(1, 1)] 0) 0 0).2.1 (dAt [(1, 1)] 0).2 ((2 ^ PR : Nat) : Int) ((2 ^ (PR + 0 - 0) : Nat) : Int) _ = _
    rw [show dAt [(1, 1)] 0 = ((1 : Int), (1 : Int)) from rfl, rs_one]
    rfl
  have hac : ∀ k, (geo t [(1, 1)] 0 PR).ac 0 0 k = spotF t.1 t.1 1 ((2 ^ PR : Nat) : Int) ((2 ^ PR : Nat) : Int) (k % wdF t [(1, 1)] 0 PR 0 0) := fun k => by
    show spotF t.1 (rsF t (dAt [(1, 1)] 0) 0 0).1 (dAt [(1, 1)] 0).1 ((2 ^ PR : Nat) : Int) ((2 ^ (PR + 0 - 0) : Nat) : Int) _ = _
    rw [show dAt [(1, 1)] 0 = ((1 : Int), (1 : Int)) from rfl, rs_one]
    rfl
  obtain ⟨wd, hwd⟩ : ∃ n, wdF t [(1, 1)] 0 PR 0 0 = n := ⟨_, rfl⟩
  rw [hwd] at hdn hac
  obtain ⟨G, hG⟩ : ∃ G, geo t [(1, 1)] 0 PR = G := ⟨_, rfl⟩
  have h1 : G.nc = 1 := by rw [← hG]; rfl
  have h2 : G.lv = 0 := by rw [← hG]; rfl
  rw [hG] at h hwh hdn hac
  have hM : M = (List.range (G.wh 0 0)).map fun k => G.pk 0 0 0 k := by
    refine h.unique ⟨?_, ?_⟩
    · have : G.pks 1 = (List.range (G.wh 0 0)).map fun k => G.pk 0 0 0 k := by
        simp [GE.pks, GE.spots, h1, h2, List.range_succ, Pk.at, GE.pk, List.flatMap_map]
        generalize List.range (G.wh 0 0) = l
        induction l with
        | nil => rfl
        | cons a l ih => simp [List.flatMap_cons, ih]
      rw [this]
    · unfold Srt
      rw [List.pairwise_map]
      refine List.Pairwise.imp ?_ List.pairwise_lt_range
      intro i j hij
      have hn : 1 ≤ ((2 ^ PR : Nat) : Int) := two_pos PR
      have hI : (i : Int) < (j : Int) := by omega
      have key : G.dn 0 0 i < G.dn 0 0 j ∨ (G.dn 0 0 i = G.dn 0 0 j ∧ G.ac 0 0 i < G.ac 0 0 j) := by
        rw [hdn, hdn, hac, hac]
        rcases Nat.lt_or_eq_of_le (Nat.div_le_div_right (c := wd) (Nat.le_of_lt hij)) with hl | he
        · exact .inl (spot_lt hn hl)
        · refine .inr ⟨by rw [he], spot_lt hn ?_⟩
          have a1 := Nat.div_add_mod i wd
          have a2 := Nat.div_add_mod j wd
          rw [he] at a1
          omega
      unfold Pk.rk GE.pk
      generalize G.dn 0 0 i = a at *
      generalize G.dn 0 0 j = b at *
      generalize G.ac 0 0 i = c at *
      generalize G.ac 0 0 j = e at *
      (repeat' split) <;> simp [lexL] <;> omega
  refine ⟨by rw [hM, List.length_map, List.length_range, hwh], fun k x hx => ?_⟩
  rw [hM, List.getElem?_map] at hx
  rcases hk : (List.range (G.wh 0 0))[k]? with _ | y
  · rw [hk] at hx; simp at hx
  · rw [hk] at hx
    simp only [Option.map_some, Option.some.injEq] at hx
    have hy : y = k := by
      obtain ⟨hlt, he⟩ := List.getElem?_eq_some_iff.1 hk
      simpa using he.symm
    rw [← hx, hy]
    rfl
end Go.Proofs.Ytejoedanhonpkaa
