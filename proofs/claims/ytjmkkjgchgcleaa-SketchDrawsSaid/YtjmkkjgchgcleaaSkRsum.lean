/- Sum of the reference. -/
import Derived.Test.YtjmkkjgchgcleaaSkSum
set_option linter.unusedVariables false
namespace Go.Proofs.Ytjmkkjgchgcleaa
open Go.RowKit

set_option maxRecDepth 100000 in
set_option maxHeartbeats 8000000 in
theorem rsum_any {AC : Option Addr} {cC : Nat} {Ls : List (List Int)} {d : Int} {st : Nat → Int} {w : World} (x y ox oy : Int) (h : RdImg w AC Ls d st) (hl : Ls.length ≤ 4) (hc : Ls.length ≤ cC ∧ cC ≤ maxLen)
    (hv : ∀ L ∈ Ls, L.length ≤ 4096 ∧ ∀ v ∈ L, 0 ≤ v ∧ v ≤ 65535) :
    Calls Try.prog 13 #[.agg #[.int .i64 x, .int .i64 y, .int .i64 ox, .int .i64 oy, .slice AC Ls.length cC]] w fun e w' => e = .returned (.int .i64 (sumF Ls)) ∧ Below w.heap.size w w' := by
  have hc2 := hc.2
  unfold maxLen at hc2
  obtain ⟨W0, hW0⟩ : ∃ W0, w.alloc (Obj.cells #[.int .i64 x, .int .i64 y, .int .i64 ox, .int .i64 oy, .slice AC Ls.length cC] 25) = W0 := ⟨_, rfl⟩
  have hB0 : Below w.heap.size w W0 := by rw [← hW0]; exact (Below.refl w.heap.size w).alloc (Nat.le_refl _) _
  have hb : W0.heap[w.heap.size]? = some (.cells #[.int .i64 x, .int .i64 y, .int .i64 ox, .int .i64 oy, .slice AC Ls.length cC] 25 (0, 0)) := by rw [← hW0]; exact World.alloc_heap_new w _
  have g4 : W0.cell? ⟨w.heap.size, 4, none⟩ = some (.slice AC Ls.length cC) := by simp [World.cell?, hb]
  have HI := Lib.hid (h.keep hB0)
  have HV := Lib.hid hv
  clear h hv hb
  go_enter Try.func13, Try.ntmps13
  go_wp2
  clear hW0
  go_loopw [3, 4] (fun sv iv wr => ∃ i : Nat, i ≤ Ls.length ∧ iv = .int .i64 i ∧ sv = .int .i64 ((Ls.take i).foldl sumL 7) ∧ W0 = wr) (fun _ iv _ => Ls.length - (intOf iv).toNat)
  case atStart => exact ⟨0, by omega, rfl, rfl, rfl⟩
  case round =>
    obtain ⟨i, hi, rfl, rfl, rfl⟩ := hrel
    by_cases ci : i < Ls.length
    · obtain ⟨L, hL⟩ : ∃ L, Ls[i]? = some L := ⟨_, List.getElem?_eq_getElem ci⟩
      obtain ⟨b, A, cap, rfl, hbl, c0, c1, c2, c3, c4, hcap, hmx, hLst⟩ := HI.out i L hL
      have hvL := HV.out L (List.mem_of_getElem? hL)
      have HS := Lib.hid (fold_take sumL 7 hL)
      have hsb := sumFold_bd (Ls.take i) (s := 7) (by omega)
      generalize (Ls.take i).foldl sumL 7 = s0 at *
      unfold maxLen at hmx
      have ci' : (i : Int) < (Ls.length : Int) := by omega
      have HL := Lib.hid hLst
      have HVL := Lib.hid hvL.2
      have hLl := hvL.1
      clear hLst hL hvL c0 c1 c2 c3
      go_wp2
      go_loopw [3, 5] (fun sv tv wr => ∃ (t : Nat) (s : Int), t ≤ L.length ∧ tv = .int .i64 t ∧ sv = .int .i64 s ∧ s = sumL s0 (L.take t) ∧ W0 = wr) (fun _ tv _ => L.length - (intOf tv).toNat)
      case atStart => exact ⟨0, s0, by omega, rfl, rfl, rfl, rfl⟩
      case round =>
        obtain ⟨t, s, ht, rfl, rfl, hs, rfl⟩ := hrel
        have hsb2 := sumL_bd hsb (L.take t)
        rw [← hs] at hsb2
        have HSS := Lib.hid hs
        clear hs
        by_cases ct : t < L.length
        · obtain ⟨v, hv⟩ : ∃ v, L[t]? = some v := ⟨_, List.getElem?_eq_getElem ct⟩
          obtain ⟨ba, oa, rfl, hba, m0⟩ := HL.out t (.int .i64 v) (by rw [List.getElem?_map, hv]; rfl)
          have hvb := HVL.out v (List.mem_of_getElem? hv)
          have HF := Lib.hid (fold_take sumS s0 hv)
          have ct' : (t : Int) < (L.length : Int) := by omega
          have e1 : Hid (v % 1000003 = v) := Lib.hid (Int.emod_eq_of_lt hvb.1 (by omega))
          have e2 : v.tmod 1000003 = v := by rw [Int.tmod_eq_emod_of_nonneg hvb.1, e1.out]
          have e3 : (s * 31 + v).tmod 1000003 = sumS s v := by rw [Int.tmod_eq_emod_of_nonneg (by omega)]; rfl
          have e4 := sumS_bd s v
          have e5 : (sumS s v + 1000003).tmod 1000003 = sumS s v := by
            rw [Int.tmod_eq_emod_of_nonneg (by omega)]; omega
          have E4 : Hid (sumS s v = (s * 31 + v) % 1000003) := Lib.hid rfl
          clear hv
          go_wp2
          exact ⟨⟨t + 1, sumS s v, by omega, by go_num, rfl, by unfold sumL; rw [HF.out, HSS.out]; rfl, trivial⟩, by simp [intOf]; omega⟩
        · obtain rfl : t = L.length := by omega
          have ES : Hid (s = sumL s0 L) := Lib.hid (by rw [HSS.out, List.take_length])
          go_wp2
          go_roundw
          case rel => exact ⟨i + 1, by omega, by go_num, by rw [HS.out, ← ES.out], trivial⟩
          case measure => simp [intOf]; omega
    · obtain rfl : i = Ls.length := by omega
      have E := Lib.hid (show Ls.take Ls.length = Ls from List.take_length)
      go_wp2
      go_ret
      exact ⟨ret_i64 (by rw [E.out]; rfl), hB0⟩
end Go.Proofs.Ytjmkkjgchgcleaa
