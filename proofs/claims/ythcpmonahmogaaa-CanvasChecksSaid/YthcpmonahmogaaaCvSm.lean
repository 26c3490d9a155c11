/- checkSamples of package canvas, by its contract. -/
import Derived.Test.YthcpmonahmogaaaCvPt
import Derived.Deep.CutRange
set_option linter.unusedVariables false
set_option linter.unusedSimpArgs false
namespace Go.Proofs.Ythcpmonahmogaaa
open Go.RowKit
set_option maxRecDepth 100000
theorem pow_bd {d : Nat} (h : d ≤ 38) : 1 ≤ (2 : Int) ^ d ∧ (2 : Int) ^ d ≤ 274877906944 := by
  have h1 : ((2 ^ d : Nat) : Int) = (2 : Int) ^ d := by simp
  have h2 : 2 ^ d ≤ 2 ^ 38 := Nat.pow_le_pow_right (by decide) h
  have h3 : 1 ≤ 2 ^ d := Nat.one_le_two_pow
  have h4 : 2 ^ 38 = 274877906944 := by decide
  rw [← h1]
  omega
theorem w64_in {x : Int} (h : -9223372036854775808 ≤ x ∧ x ≤ 9223372036854775807) : wrap64 x = x := IntWalk.wrap64_in _ h
/-- The least and the greatest sample. -/
def leastF (d : Nat) (sg : Bool) : Int := if sg then -(2 : Int) ^ (d - 1) else 0
def mostF (d : Nat) (sg : Bool) : Int := if sg then (2 : Int) ^ (d - 1) - 1 else (2 : Int) ^ d - 1
/-- What checkSamples answers. -/
def smpF (d : Nat) (sg : Bool) (n : Nat) (x0 y0 x1 y1 : Int) (l : List Int) : Int :=
  if (n : Int) = (x1 - x0) * (y1 - y0) then (if l.all (fun x => inB x (leastF d sg) (mostF d sg)) then 0 else 11) else 7
set_option maxHeartbeats 4000000 in
theorem samples_any (d : Nat) (sg : Bool) (dx dy x0 y0 x1 y1 : Int) (A : Option Addr) (n c : Nat) (l : List Int) (w : World) (hl : Lst w w.heap.size A (l.map (Value.int .i64))) (hn : l.length = n) (hd : 1 ≤ d ∧ d ≤ 38) (hn2 : n ≤ 1000000)
    (h0 : 0 ≤ x0 ∧ x0 ≤ x1 ∧ x1 ≤ 1000000) (h1 : 0 ≤ y0 ∧ y0 ≤ y1 ∧ y1 ≤ 1000000) :
    Calls Try.prog 34 #[.agg #[.int .i64 (d : Int), .bool sg, .int .i64 dx, .int .i64 dy, .slice A n c], .agg #[.int .i64 x0, .int .i64 y0, .int .i64 x1, .int .i64 y1]] w fun e w' =>
      e = .returned (.int .i64 (smpF d sg n x0 y0 x1 y1 l)) ∧ Below w.heap.size w w' := by
  have hm : 0 ≤ (x1 - x0) * (y1 - y0) ∧ (x1 - x0) * (y1 - y0) ≤ 1000000 * 1000000 :=
    ⟨Int.mul_nonneg (by omega) (by omega), Int.mul_le_mul (by omega) (by omega) (by omega) (by omega)⟩
  go_enter Try.func34, Try.ntmps34
  go_upto_region 1 with fail
  obtain ⟨M, hM⟩ : ∃ M, (x1 - x0) * (y1 - y0) = M := ⟨_, rfl⟩
  have HM := Lib.hid hM
  rw [hM] at hm
  clear hM
  obtain ⟨W0, hW0⟩ : ∃ W0, (w.alloc (Obj.cells #[.int .i64 (d : Int), .bool sg, .int .i64 dx, .int .i64 dy, .slice A n c] 39)).alloc (Obj.cells #[.int .i64 x0, .int .i64 y0, .int .i64 x1, .int .i64 y1] 48) = W0 := ⟨_, rfl⟩
  have hB : Below w.heap.size w W0 := by rw [← hW0]; exact ((Below.refl _ w).alloc (Nat.le_refl _) _).alloc (by simp) _
  have b1 : W0.heap[w.heap.size]? = some (.cells #[.int .i64 (d : Int), .bool sg, .int .i64 dx, .int .i64 dy, .slice A n c] 39 (0, 0)) := by
    rw [← hW0, Below.heap_alloc _ _ _ (by simp)]; exact World.alloc_heap_new w _
  have b2 : W0.heap[w.heap.size + 1]? = some (.cells #[.int .i64 x0, .int .i64 y0, .int .i64 x1, .int .i64 y1] 48 (0, 0)) := by
    rw [← hW0, show w.heap.size + 1 = (w.alloc (Obj.cells #[.int .i64 (d : Int), .bool sg, .int .i64 dx, .int .i64 dy, .slice A n c] 39)).heap.size by simp]; exact World.alloc_heap_new _ _
  rw [hW0]
  have HL := Lib.hid (hl.below hB)
  have HB := Lib.hid hB
  have HC := Lib.hid b1
  have g0 : W0.cell? ⟨w.heap.size + 1, 0, none⟩ = some (.int .i64 x0) := by simp [World.cell?, b2]
  have g1 : W0.cell? ⟨w.heap.size + 1, 1, none⟩ = some (.int .i64 y0) := by simp [World.cell?, b2]
  have g2 : W0.cell? ⟨w.heap.size + 1, 2, none⟩ = some (.int .i64 x1) := by simp [World.cell?, b2]
  have g3 : W0.cell? ⟨w.heap.size + 1, 3, none⟩ = some (.int .i64 y1) := by simp [World.cell?, b2]
  have k0 : W0.cell? ⟨w.heap.size, 0, none⟩ = some (.int .i64 (d : Int)) := by simp [World.cell?, b1]
  have k1 : W0.cell? ⟨w.heap.size, 1, none⟩ = some (.bool sg) := by simp [World.cell?, b1]
  have k4 : W0.cell? ⟨w.heap.size, 4, none⟩ = some (.slice A n c) := by simp [World.cell?, b1]
  clear hW0 hB b1 b2 hl
  have HMM := Lib.hid (show x1 - x0 = x1 - x0 from rfl)
  obtain ⟨P, hP⟩ : ∃ P : Int, (2 : Int) ^ d = P := ⟨_, rfl⟩
  obtain ⟨P1, hP1⟩ : ∃ P1 : Int, (2 : Int) ^ (d - 1) = P1 := ⟨_, rfl⟩
  obtain ⟨q, hq⟩ : ∃ q, d - 1 = q := ⟨_, rfl⟩
  have hdq : (d : Int) - 1 = (q : Int) := by omega
  have bP : 1 ≤ P ∧ P ≤ 274877906944 := by rw [← hP]; exact pow_bd hd.2
  have bP1 : 1 ≤ P1 ∧ P1 ≤ 274877906944 := by rw [← hP1]; exact pow_bd (by omega)
  have HP := Lib.hid (And.intro hP hP1)
  rw [hq] at hP1
  have wP : wrap64 P = P := w64_in (by omega)
  have wP2 : wrap64 (P - 1) = P - 1 := w64_in (by omega)
  have wQ : wrap64 P1 = P1 := w64_in (by omega)
  have wQ2 : wrap64 (P1 - 1) = P1 - 1 := w64_in (by omega)
  have wQ3 : wrap64 (-P1) = -P1 := w64_in (by omega)
  clear hq
  by_cases hz : (n : Int) = M
  · have e1 : ((n : Int) != M) = false := by simp [hz]
    have hMe : (x1 - x0) * (y1 - y0) = M := HM.out
    have HZ := Lib.hid hz
    clear hz
    go_wp2
    go_quiet (fail)
    obtain ⟨W1, hW1⟩ : ∃ W1, W0.drewN nq = W1 := ⟨_, rfl⟩
    have b1 : W1.heap[w.heap.size]? = some (.cells #[.int .i64 (d : Int), .bool sg, .int .i64 dx, .int .i64 dy, .slice A n c] 39 (0, 0)) := by rw [← hW1]; exact HC.out
    have HB1 : Hid (Below w.heap.size w W1) := Lib.hid (by rw [← hW1]; exact below_drewN HB.out nq)
    have HL1 : Hid (Lst W1 w.heap.size A (l.map (Value.int .i64))) := Lib.hid (by rw [← hW1]; exact HL.out.below (below_drewN (Below.refl _ _) nq))
    rw [hW1]
    have HC1 := Lib.hid b1
    have k0 : W1.cell? ⟨w.heap.size, 0, none⟩ = some (.int .i64 (d : Int)) := by simp [World.cell?, b1]
    have k1 : W1.cell? ⟨w.heap.size, 1, none⟩ = some (.bool sg) := by simp [World.cell?, b1]
    clear hW1 b1 HL HB HC g0 g1 g2 g3 k4 hP
    go_upto_if 29 with fail
    go_cut [5, 6] from 30 to 39 (fun u v wx => u = .int .i64 (leastF d sg) ∧ v = .int .i64 (mostF d sg) ∧ Below w.heap.size w wx ∧ Lst wx w.heap.size A (l.map (Value.int .i64)) ∧ wx.heap[w.heap.size]? = some (.cells #[.int .i64 (d : Int), .bool sg, .int .i64 dx, .int .i64 dy, .slice A n c] 39 (0, 0)))
    case first =>
      cases sg with
      | false =>
        go_wp2
        go_meet
        exact ⟨rfl, by unfold mostF; rw [HP.out.1]; rfl, HB1.out, HL1.out, HC1.out⟩
      | true =>
        go_wp2
        go_quiet (fail)
        go_wp2
        go_meet
        exact ⟨by unfold leastF; rw [HP.out.2]; rfl, by unfold mostF; rw [HP.out.2]; rfl, below_drewN HB1.out nq, HL1.out.below (below_drewN (Below.refl _ _) nq), HC1.out⟩
    case rest =>
      obtain ⟨rfl, rfl, hb, hL, hblk⟩ := hcut
      obtain ⟨LO, hLO⟩ : ∃ LO, leastF d sg = LO := ⟨_, rfl⟩
      obtain ⟨HI, hHI⟩ : ∃ HI, mostF d sg = HI := ⟨_, rfl⟩
      have k4 : wc.cell? ⟨w.heap.size, 4, none⟩ = some (.slice A n c) := by simp [World.cell?, hblk]
      have HBC := Lib.hid hb
      have HLC := Lib.hid hL
      have HLH := Lib.hid (And.intro hLO hHI)
      have HN := Lib.hid hn
      rw [hLO, hHI]
      clear hb hL hblk hLO hHI HB1 HL1 HC1 hn k0 k1
      go_wp2
      go_loopw [42] (fun i wr => ∃ j : Nat, j ≤ n ∧ i = .int .i64 (j : Int) ∧ (∀ x ∈ l.take j, inB x LO HI = true) ∧ Below w.heap.size w wr ∧ Lst wr w.heap.size A (l.map (Value.int .i64))) (fun i _ => n - (intOf i).toNat)
      case atStart => exact ⟨0, by omega, rfl, by simp, HBC.out, HLC.out⟩
      case round =>
        obtain ⟨j, hj, rfl, hall, hb, hL⟩ := hrel
        have HA := Lib.hid hall
        have HB := Lib.hid hb
        have HL := Lib.hid hL
        clear hall hb
        by_cases hlt : j < n
        · have hjl : j < l.length := by have := HN.out; omega
          obtain ⟨x, hx⟩ : ∃ x, l[j] = x := ⟨_, rfl⟩
          have hx2 : l[j]? = some x := by rw [List.getElem?_eq_getElem hjl, hx]
          obtain ⟨bk, ok, rfl, hbk, mk⟩ := hL j (.int .i64 x) (by rw [List.getElem?_map, hx2]; rfl)
          have h2 : (j : Int) < (n : Int) := by omega
          have h4 : (0 : Int) ≤ (j : Int) := by omega
          have HX := Lib.hid hx2
          have WI := Lib.hid (within_any x LO HI wr)
          clear hL hx hx2 HBC HLC k4
          go_wp2_with fail
          refine WI.out.mono ?_
          rintro e v ⟨rfl, rfl⟩
          obtain ⟨ob, hob⟩ : ∃ ob, inB x LO HI = ob := ⟨_, rfl⟩
          rw [hob]
          have HO := Lib.hid hob
          clear WI hob
          cases ob with
          | true =>
            go_wp2
            refine ⟨⟨j + 1, by omega, by go_num, ?_, HB.out, HL.out⟩, by simp [intOf]; omega⟩
            intro y hy
            rw [List.take_add_one, HX.out] at hy
            rcases List.mem_append.1 hy with hy | hy
            · exact HA.out y hy
            · obtain rfl : y = x := by simpa using hy
              exact HO.out
          | false =>
            go_wp2
            go_ret
            refine ⟨ret_i64 ?_, HB.out⟩
            unfold smpF
            rw [HM.out, if_pos HZ.out, HLH.out.1, HLH.out.2, if_neg]
            intro h
            have := List.all_eq_true.1 h x (List.mem_of_getElem? HX.out)
            rw [HO.out] at this
            cases this
        · obtain rfl : j = n := by omega
          have h2 : ¬ (j : Int) < (j : Int) := by omega
          clear hL HBC HLC k4
          go_wp2
          go_ret
          refine ⟨ret_i64 ?_, HB.out⟩
          unfold smpF
          have ha := HA.out
          rw [List.take_of_length_le (by have := HN.out; omega)] at ha
          rw [HM.out, if_pos HZ.out, HLH.out.1, HLH.out.2, if_pos (List.all_eq_true.2 ha)]
  · have e1 : ((n : Int) != M) = true := by simp; exact hz
    have hMe : (x1 - x0) * (y1 - y0) = M := HM.out
    have HZ := Lib.hid hz
    clear hz
    go_wp2
    go_ret
    exact ⟨ret_i64 (by unfold smpF; rw [HM.out, if_neg HZ.out]), HB.out⟩
end Go.Proofs.Ythcpmonahmogaaa
