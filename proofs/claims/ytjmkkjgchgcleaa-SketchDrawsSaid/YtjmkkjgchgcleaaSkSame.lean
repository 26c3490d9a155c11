/- Same of the references, at two pictures with the same rows. -/
import Derived.Test.YtjmkkjgchgcleaaSkSum
import Derived.Deep.DeepCutAuto
import Derived.Laws.BytesString
set_option linter.unusedVariables false
namespace Go.Proofs.Ytjmkkjgchgcleaa
open Go.RowKit

theorem conv_nil (w : World) : (convert 54 9 (.slice none 0 0)).run Try.prog w = .ok (.string ⟨#[]⟩) w := by
  rw [run_convert_bytes_string w 54 9 5 none 0 0 Try.underlying54 Try.underlying5 Try.underlying9]
  simp [Conv.bytesToString]
  rfl
theorem cell_2 {W : World} {a : Addr} {v : Value} (Z : Obj) (h : W.cell? a = some v) : (((W.alloc Z).alloc Z).drew).cell? a = some v :=
  ((below_drewN (((Below.refl W.heap.size W).alloc (Nat.le_refl _) Z).alloc (by simp) Z) 1).cell (World.block_lt_of_cell? W a h)).trans h
set_option maxRecDepth 100000 in
set_option maxHeartbeats 8000000 in
theorem rsame17_any {AC AD : Option Addr} {cC cD : Nat} {Ls : List (List Int)} {d : Int} {st : Nat → Int} {w : World} (x y ox oy : Int) (h : RdImg w AC Ls d st) (h' : RdImg w AD Ls d st) (hl : Ls.length ≤ 4) (hc : Ls.length ≤ cC ∧ cC ≤ maxLen) (hc' : Ls.length ≤ cD ∧ cD ≤ maxLen) :
    Calls Try.prog 22 #[.agg #[.int .i64 x, .int .i64 y, .int .i64 ox, .int .i64 oy, .slice AC Ls.length cC, .int .i64 0, .int .i64 0, .int .i64 0, .int .i64 0, .int .i64 0, .int .i64 0, .int .i64 0, .int .i64 0, .int .i64 0, .bool false, .bool false, .bool false, .slice none 0 0], .agg #[.int .i64 x, .int .i64 y, .int .i64 ox, .int .i64 oy, .slice AD Ls.length cD, .int .i64 0, .int .i64 0, .int .i64 0, .int .i64 0, .int .i64 0, .int .i64 0, .int .i64 0, .int .i64 0, .int .i64 0, .bool false, .bool false, .bool false, .slice none 0 0]] w fun e w' => e = .returned (.bool true) ∧ Below w.heap.size w w' := by
  have hmo : Try.prog.follows .mixedOrders = true := by kernel_rfl
  have hc2 := hc.2
  have hc3 := hc'.2
  unfold maxLen at hc2 hc3
  have HI := Lib.hid h
  have HJ := Lib.hid h'
  clear h h'
  have hcv := conv_nil
  go_enter Try.func22, Try.ntmps22
  go_wp2
  obtain ⟨X, hX⟩ : ∃ X, (w.alloc (Obj.cells #[.int .i64 x, .int .i64 y, .int .i64 ox, .int .i64 oy, .slice AC Ls.length cC, .int .i64 0, .int .i64 0, .int .i64 0, .int .i64 0, .int .i64 0, .int .i64 0, .int .i64 0, .int .i64 0, .int .i64 0, .bool false, .bool false, .bool false, .slice none 0 0] 56)).alloc (Obj.cells #[.int .i64 x, .int .i64 y, .int .i64 ox, .int .i64 oy, .slice AD Ls.length cD, .int .i64 0, .int .i64 0, .int .i64 0, .int .i64 0, .int .i64 0, .int .i64 0, .int .i64 0, .int .i64 0, .int .i64 0, .bool false, .bool false, .bool false, .slice none 0 0] 56) = X := ⟨_, rfl⟩
  have hz : (w.alloc (Obj.cells #[.int .i64 x, .int .i64 y, .int .i64 ox, .int .i64 oy, .slice AC Ls.length cC, .int .i64 0, .int .i64 0, .int .i64 0, .int .i64 0, .int .i64 0, .int .i64 0, .int .i64 0, .int .i64 0, .int .i64 0, .bool false, .bool false, .bool false, .slice none 0 0] 56)).heap.size = w.heap.size + 1 := by simp
  have hB0 : Below w.heap.size w X := by rw [← hX]; exact ((Below.refl w.heap.size w).alloc (Nat.le_refl _) _).alloc (by rw [hz]; omega) _
  have b1 : X.heap[w.heap.size]? = some (.cells #[.int .i64 x, .int .i64 y, .int .i64 ox, .int .i64 oy, .slice AC Ls.length cC, .int .i64 0, .int .i64 0, .int .i64 0, .int .i64 0, .int .i64 0, .int .i64 0, .int .i64 0, .int .i64 0, .int .i64 0, .bool false, .bool false, .bool false, .slice none 0 0] 56 (0, 0)) := by
    rw [← hX, Below.heap_alloc _ _ _ (by rw [hz]; omega)]; exact World.alloc_heap_new w _
  have b2 : X.heap[w.heap.size + 1]? = some (.cells #[.int .i64 x, .int .i64 y, .int .i64 ox, .int .i64 oy, .slice AD Ls.length cD, .int .i64 0, .int .i64 0, .int .i64 0, .int .i64 0, .int .i64 0, .int .i64 0, .int .i64 0, .int .i64 0, .int .i64 0, .bool false, .bool false, .bool false, .slice none 0 0] 56 (0, 0)) := by
    rw [← hX, ← hz]; exact World.alloc_heap_new _ _
  rw [hX]
  clear hX hz
  go_loopw [5] (fun iv wr => ∃ i : Nat, i ≤ Ls.length ∧ iv = .int .i64 i ∧ Below w.heap.size w wr ∧ wr.heap[w.heap.size]? = some (.cells #[.int .i64 x, .int .i64 y, .int .i64 ox, .int .i64 oy, .slice AC Ls.length cC, .int .i64 0, .int .i64 0, .int .i64 0, .int .i64 0, .int .i64 0, .int .i64 0, .int .i64 0, .int .i64 0, .int .i64 0, .bool false, .bool false, .bool false, .slice none 0 0] 56 (0, 0)) ∧ wr.heap[w.heap.size + 1]? = some (.cells #[.int .i64 x, .int .i64 y, .int .i64 ox, .int .i64 oy, .slice AD Ls.length cD, .int .i64 0, .int .i64 0, .int .i64 0, .int .i64 0, .int .i64 0, .int .i64 0, .int .i64 0, .int .i64 0, .int .i64 0, .bool false, .bool false, .bool false, .slice none 0 0] 56 (0, 0))) (fun iv _ => Ls.length - (intOf iv).toNat)
  case atStart => exact ⟨0, by omega, rfl, hB0, b1, b2⟩
  case round =>
    obtain ⟨i, hi, rfl, hB, hb1, hb2⟩ := hrel
    have q4 : wr.cell? ⟨w.heap.size, 4, none⟩ = some (.slice AC Ls.length cC) := by simp [World.cell?, hb1]
    have p4 : wr.cell? ⟨w.heap.size + 1, 4, none⟩ = some (.slice AD Ls.length cD) := by simp [World.cell?, hb2]
    have hsz : w.heap.size + 1 < wr.heap.size := (Array.getElem?_eq_some_iff.1 hb2).1
    have HBB := Lib.hid (And.intro hB (And.intro hb1 hb2))
    clear hb1 hb2 b1 b2 hB0
    by_cases ci : i < Ls.length
    · obtain ⟨L, hL⟩ : ∃ L, Ls[i]? = some L := ⟨_, List.getElem?_eq_getElem ci⟩
      obtain ⟨b, A, cap, rfl, hbl, c0, c1, c2, c3, c4, hcap, hmx, hLst⟩ := (HI.out.keep hB) i L hL
      obtain ⟨g, A', cap', rfl, hgl, e0, e1, e2, e3, e4, hcap', hmx', hLst'⟩ := (HJ.out.keep hB) i L hL
      have ci' : (i : Int) < (Ls.length : Int) := by omega
      clear hLst hLst' hL hcap hcap' hmx hmx'
      obtain ⟨s, hsE⟩ : ∃ s, st i = s := ⟨_, rfl⟩
      rw [hsE] at c2 c3 e2 e3
      clear hB HI HJ
      have zq4 := cell_2 (Obj.cells #[.int .i64 0, .bool false, .int .i64 0, .int .i64 0, .slice none 0 0] 41) q4
      have zp4 := cell_2 (Obj.cells #[.int .i64 0, .bool false, .int .i64 0, .int .i64 0, .slice none 0 0] 41) p4
      have zc0 := cell_2 (Obj.cells #[.int .i64 0, .bool false, .int .i64 0, .int .i64 0, .slice none 0 0] 41) c0
      have zc1 := cell_2 (Obj.cells #[.int .i64 0, .bool false, .int .i64 0, .int .i64 0, .slice none 0 0] 41) c1
      have zc2 := cell_2 (Obj.cells #[.int .i64 0, .bool false, .int .i64 0, .int .i64 0, .slice none 0 0] 41) c2
      have zc3 := cell_2 (Obj.cells #[.int .i64 0, .bool false, .int .i64 0, .int .i64 0, .slice none 0 0] 41) c3
      have zc4 := cell_2 (Obj.cells #[.int .i64 0, .bool false, .int .i64 0, .int .i64 0, .slice none 0 0] 41) c4
      have ze0 := cell_2 (Obj.cells #[.int .i64 0, .bool false, .int .i64 0, .int .i64 0, .slice none 0 0] 41) e0
      have ze1 := cell_2 (Obj.cells #[.int .i64 0, .bool false, .int .i64 0, .int .i64 0, .slice none 0 0] 41) e1
      have ze2 := cell_2 (Obj.cells #[.int .i64 0, .bool false, .int .i64 0, .int .i64 0, .slice none 0 0] 41) e2
      have ze3 := cell_2 (Obj.cells #[.int .i64 0, .bool false, .int .i64 0, .int .i64 0, .slice none 0 0] 41) e3
      have ze4 := cell_2 (Obj.cells #[.int .i64 0, .bool false, .int .i64 0, .int .i64 0, .slice none 0 0] 41) e4
      have hs0 : w.heap.size < wr.heap.size := by omega
      have hs1 : w.heap.size < wr.heap.size + 1 := by omega
      have hs2 : b < wr.heap.size + 1 := by omega
      have hs3 : g < wr.heap.size + 1 := by omega
      go_wp2_with fail
      have hK : ∀ A B, Below wr.heap.size wr (((wr.alloc A).alloc B).drew) := fun A B => below_drewN (((Below.refl wr.heap.size wr).alloc (Nat.le_refl _) A).alloc (by simp) B) 1
      go_region
      all_goals
        clear zq4 zp4 zc0 zc1 zc2 zc3 zc4 ze0 ze1 ze2 ze3 ze4
        go_wp2
        exact ⟨⟨i + 1, by omega, by go_num, HBB.out.1.trans ((hK _ _).mono HBB.out.1.size), ((hK _ _).block _ (by omega)).trans HBB.out.2.1, ((hK _ _).block _ hsz).trans HBB.out.2.2⟩, by simp [intOf]; omega⟩
    · obtain rfl : i = Ls.length := by omega
      go_wp2
      go_ret
      exact ⟨rfl, hB⟩

set_option maxRecDepth 100000 in
set_option maxHeartbeats 8000000 in
theorem rsame_any {AC AD : Option Addr} {cC cD : Nat} {Ls : List (List Int)} {d : Int} {st : Nat → Int} {w : World} (x y ox oy : Int) (h : RdImg w AC Ls d st) (h' : RdImg w AD Ls d st) (hl : Ls.length ≤ 4) (hc : Ls.length ≤ cC ∧ cC ≤ maxLen) (hc' : Ls.length ≤ cD ∧ cD ≤ maxLen) (hv : ∀ L ∈ Ls, L.length ≤ 4096) :
    Calls Try.prog 11 #[.agg #[.int .i64 x, .int .i64 y, .int .i64 ox, .int .i64 oy, .slice AC Ls.length cC], .agg #[.int .i64 x, .int .i64 y, .int .i64 ox, .int .i64 oy, .slice AD Ls.length cD]] w fun e w' => e = .returned (.bool true) ∧ Below w.heap.size w w' := by
  have hc2 := hc.2
  have hc3 := hc'.2
  unfold maxLen at hc2 hc3
  go_enter Try.func11, Try.ntmps11
  go_wp2_with fail
  obtain ⟨X, hX⟩ : ∃ X, (w.alloc (Obj.cells #[.int .i64 x, .int .i64 y, .int .i64 ox, .int .i64 oy, .slice AC Ls.length cC] 25)).alloc (Obj.cells #[.int .i64 x, .int .i64 y, .int .i64 ox, .int .i64 oy, .slice AD Ls.length cD] 25) = X := ⟨_, rfl⟩
  have hz : (w.alloc (Obj.cells #[.int .i64 x, .int .i64 y, .int .i64 ox, .int .i64 oy, .slice AC Ls.length cC] 25)).heap.size = w.heap.size + 1 := by simp
  have hB0 : Below w.heap.size w X := by rw [← hX]; exact ((Below.refl w.heap.size w).alloc (Nat.le_refl _) _).alloc (by rw [hz]; omega) _
  have b1 : X.heap[w.heap.size]? = some (.cells #[.int .i64 x, .int .i64 y, .int .i64 ox, .int .i64 oy, .slice AC Ls.length cC] 25 (0, 0)) := by
    rw [← hX, Below.heap_alloc _ _ _ (by rw [hz]; omega)]; exact World.alloc_heap_new w _
  have b2 : X.heap[w.heap.size + 1]? = some (.cells #[.int .i64 x, .int .i64 y, .int .i64 ox, .int .i64 oy, .slice AD Ls.length cD] 25 (0, 0)) := by
    rw [← hX, ← hz]; exact World.alloc_heap_new _ _
  rw [hX]
  clear hX hz
  refine (rsame17_any x y ox oy (h.keep hB0) (h'.keep hB0) hl hc hc').mono ?_
  rintro e Y ⟨rfl, hY⟩
  have hB1 := hB0.trans (hY.mono hB0.size)
  have b3 := (hY.block _ (Array.getElem?_eq_some_iff.1 b1).1).trans b1
  have b4 := (hY.block _ (Array.getElem?_eq_some_iff.1 b2).1).trans b2
  have q4 : Y.cell? ⟨w.heap.size, 4, none⟩ = some (.slice AC Ls.length cC) := by simp [World.cell?, b3]
  have p4 : Y.cell? ⟨w.heap.size + 1, 4, none⟩ = some (.slice AD Ls.length cD) := by simp [World.cell?, b4]
  have HI := Lib.hid (h.keep hB1)
  have HJ := Lib.hid (h'.keep hB1)
  have HV := Lib.hid hv
  clear h h' hB0 hY b1 b2 b3 b4 hv
  go_wp2
  go_loopw [5] (fun iv wr => ∃ i n : Nat, i ≤ Ls.length ∧ iv = .int .i64 i ∧ Y.drewN n = wr) (fun iv _ => Ls.length - (intOf iv).toNat)
  case atStart => exact ⟨0, 0, by omega, rfl, rfl⟩
  case round =>
    obtain ⟨i, n, hi, rfl, rfl⟩ := hrel
    by_cases ci : i < Ls.length
    · obtain ⟨L, hL⟩ : ∃ L, Ls[i]? = some L := ⟨_, List.getElem?_eq_getElem ci⟩
      obtain ⟨b, A, cap, rfl, hbl, c0, c1, c2, c3, c4, hcap, hmx, hLst⟩ := HI.out i L hL
      obtain ⟨g, A', cap', rfl, hgl, e0, e1, e2, e3, e4, hcap', hmx', hLst'⟩ := HJ.out i L hL
      have hLl := HV.out L (List.mem_of_getElem? hL)
      have ci' : (i : Int) < (Ls.length : Int) := by omega
      have HL := Lib.hid hLst
      have HM := Lib.hid hLst'
      unfold maxLen at hmx hmx'
      clear hLst hLst' hL c0 c1 c2 c3 e0 e1 e2 e3
      go_wp2_with fail
      go_quiet (fail)
      go_wp2
      go_loopw [8] (fun tv wr => ∃ t m : Nat, t ≤ L.length ∧ tv = .int .i64 t ∧ Y.drewN m = wr) (fun tv _ => L.length - (intOf tv).toNat)
      case atStart => exact ⟨0, _, by omega, rfl, rfl⟩
      case round =>
        obtain ⟨t, m, ht, rfl, rfl⟩ := hrel
        by_cases ct : t < L.length
        · obtain ⟨v, hv⟩ : ∃ v, L[t]? = some v := ⟨_, List.getElem?_eq_getElem ct⟩
          obtain ⟨ba, oa, rfl, hba, m0⟩ := HL.out t (.int .i64 v) (by rw [List.getElem?_map, hv]; rfl)
          obtain ⟨bb, ob, rfl, hbb, m1⟩ := HM.out t (.int .i64 v) (by rw [List.getElem?_map, hv]; rfl)
          have ct' : (t : Int) < (L.length : Int) := by omega
          clear hv
          go_wp2_with fail
          go_quiet (fail)
          go_wp2
          exact ⟨⟨t + 1, _, by omega, by go_num, rfl⟩, by simp [intOf]; omega⟩
        · obtain rfl : t = L.length := by omega
          go_wp2
          go_roundw
          case rel => exact ⟨i + 1, _, by omega, by go_num, rfl⟩
          case measure => simp [intOf]; omega
    · obtain rfl : i = Ls.length := by omega
      go_wp2
      go_ret
      exact ⟨rfl, below_drewN hB1 n⟩
end Go.Proofs.Ytjmkkjgchgcleaa
