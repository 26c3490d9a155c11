/- The statement LayersPlain of chapter 14, walked. -/
import Derived.Test.YtglplhiafeopdaaLayCuts
set_option linter.unusedVariables false
namespace Go.Proofs.Ytglplhiafeopdaa
open Go.RowKit Go.Shelf

theorem sty (s : Int) (h0 : 0 ≤ s) (h1 : s < 64) : 0 ≤ bits .andNot .i64 s 5 ∧ bits .andNot .i64 s 5 < 64 ∧ (bits .and .i64 (bits .andNot .i64 s 5) 4 != 0) = false ∧ (bits .and .i64 (bits .andNot .i64 s 5) 1 == 0) = true ∧
    0 ≤ bits .or .i64 (bits .andNot .i64 s 5) 4 ∧ bits .or .i64 (bits .andNot .i64 s 5) 4 < 64 ∧ (bits .and .i64 (bits .or .i64 (bits .andNot .i64 s 5) 4) 4 != 0) = true := by
  obtain ⟨n, rfl⟩ : ∃ n : Nat, s = (n : Int) := ⟨s.toNat, by omega⟩
  have hn : n < 64 := by omega
  clear h0 h1
  revert n
  decide

/-- The ends of the statement, when k of them have been stored. -/
def stair (k : Nat) : List Int := (List.range 40).map fun i => if i < k then 3 * ((i : Int) + 1) else 0
theorem stair_set {k : Nat} (h : k < 40) : ((stair k).map (Value.int .i64)).set k (.int .i64 (3 * ((k : Int) + 1))) = (stair (k + 1)).map (Value.int .i64) := by
  apply List.ext_getElem?
  intro i
  unfold stair
  rw [List.getElem?_set]
  by_cases hi : i < 40
  · by_cases hk : k = i
    · subst hk
      simp [h]
    · rw [if_neg hk]
      simp [List.getElem?_range hi]
      have : (i < k) = (i < k + 1) := by simp; omega
      simp only [this]
  · rw [if_neg (by omega)]
    simp [List.getElem?_eq_none (l := List.range 40) (i := i) (by simp; omega)]
theorem pcs_plain {s f t : Int} (h : ∀ k, f ≤ k → endsF s k = false) (m : Nat) : (f + m < t → pcs s f t m = ([], f)) ∧ (0 < m → f + m = t → pcs s f t m = ([(f, t)], t)) := by
  induction m with
  | zero => exact ⟨fun _ => rfl, fun h => absurd h (by omega)⟩
  | succ m ih =>
    refine ⟨fun hl => ?_, fun _ hl => ?_⟩
    · push_cast at hl
      rw [pcs_on (by omega) (h _ (by omega))]
      exact ih.1 (by omega)
    · push_cast at hl
      rw [pcs_cut (fun hc => by omega), ih.1 (by omega), show f + (m : Int) + 1 = t by omega]
      rfl
theorem pcs_each {s f t : Int} (h : ∀ k, f ≤ k → endsF s k = true) (m : Nat) : pcs s f t m = ((List.range m).map fun i : Nat => ((f + i : Int), (f + i + 1 : Int)), f + m) := by
  induction m with
  | zero => simp [pcs]
  | succ m ih =>
    rw [pcs_cut (fun hc => by rw [h _ (by omega)] at hc; cases hc.2), ih, List.range_succ, List.map_append]
    simp
    omega
theorem stair_near : Near (stair 40) := fun i => by
  unfold stair
  rw [List.getD_eq_getElem?_getD, List.getElem?_map]
  by_cases hi : i < 40
  · rw [List.getElem?_range hi]; simp [hi]; omega
  · rw [List.getElem?_eq_none (by simp; omega)]; simp
theorem stair_len (k : Nat) : (stair k).length = 40 := by simp [stair]
theorem stair_bef {i : Int} (h0 : 0 ≤ i) (h1 : i ≤ 40) : bef (stair 40) i = 3 * i := by
  unfold bef
  by_cases h : i < 1
  · rw [if_pos h]; omega
  · rw [if_neg h]
    unfold stair
    rw [List.getD_eq_getElem?_getD, List.getElem?_map, List.getElem?_range (by omega)]
    simp [show (i - 1).toNat < 40 by omega]
    omega

set_option maxRecDepth 100000 in
set_option maxHeartbeats 8000000 in
theorem walk_layersPlain (a0 : Int) (a1 : Int) (a2 : Int) (w : World) (w0 : (Lit.int .i64 a0).wf = true) (w1 : (Lit.int .i64 a1).wf = true) (w2 : (Lit.int .i64 a2).wf = true) :
    Calls Try.prog 8 #[.int .i64 a0, .int .i64 a1, .int .i64 a2] w fun e w' => e = .returned (.bool true) ∧ Below w.heap.size w w' := by
  clear w0 w1 w2
  go_enter Try.func8, Try.ntmps8
  go_wp2_with fail
  refine (known14 _).mono ?_
  rintro e w1 ⟨rfl, d1⟩
  have h1 := d1.below
  clear d1
  go_wp2_with fail
  refine (some14 _ _ _ (by omega) (by omega)).mono ?_
  rintro e w' ⟨st, rfl, s0, s1, rfl⟩
  go_wp2_with fail
  refine (some14 _ _ _ (by omega) (by omega)).mono ?_
  rintro e w' ⟨tto, rfl, p0, p1, rfl⟩
  go_wp2_with fail
  refine (some14 _ _ _ (by omega) (by omega)).mono ?_
  rintro e w' ⟨fr, rfl, f0, f1, rfl⟩
  have hmk : ∀ u : World, (Instr.makeSlice 22 (.int .i64 40) (.int .i64 40)).run Try.prog u = .ok (.slice (some ⟨u.heap.size, 0, none⟩) 40 40) (u.alloc (.cells (madeCells #[.int .i64 0] 40) 3)) := fun u =>
    run_make_row' 22 3 (.int .i64 0) 8 Try.underlying22 Try.info3 rfl .i64 .i64 40 (by omega) (by omega) u
  have hsz := h1.size
  have HO := World.ownsRow_lit (base := w.heap.size) (e := 3) (size := 1) w1 (madeCells #[Value.int IntKind.i64 0] 40) 40 (by simpa using hsz) (by unfold maxLen; omega) (by rw [size_madeCells])
  rw [toList_madeCells_one] at HO
  have e0 : List.replicate 40 (Value.int .i64 0) = (stair 0).map (Value.int .i64) := rfl
  rw [e0] at HO
  have hB1 := h1.alloc hsz (.cells (madeCells #[.int .i64 0] 40) 3)
  have HH := Lib.hid (And.intro HO hB1)
  obtain ⟨sa, sb, sc, sd, se, sf, sg⟩ := sty st s0 s1
  have SG := Lib.hid (And.intro sc (And.intro sd sg))
  clear e0 HO hB1 sc sd sg
  generalize bits .andNot .i64 st 5 = u1 at *
  clear h1
  go_upto_block 0 with fail
  go_cut [8] from 26 to 35 (fun iv wx => wx.ownsRow w.heap.size 3 1 (.slice (some ⟨w1.heap.size, 0, none⟩) 40 40) 40 ((stair 40).map (Value.int .i64)) ∧ Below w.heap.size w wx)
  case first =>
    go_wp2_with fail
    go_loopw [8] (fun iv wr => ∃ k : Nat, k ≤ 40 ∧ iv = .int .i64 k ∧ wr.ownsRow w.heap.size 3 1 (.slice (some ⟨w1.heap.size, 0, none⟩) 40 40) 40 ((stair k).map (Value.int .i64)) ∧ Below w.heap.size w wr) (fun iv _ => 40 - (intOf iv).toNat)
    case atStart => exact ⟨0, by omega, rfl, HH.out.1, HH.out.2⟩
    case round =>
      obtain ⟨k, hk, rfl, hO, hB⟩ := hrel
      by_cases ck : k < 40
      · have hk2 : (k : Int) < 40 := by omega
        have f4 := hO.cellAt k (by omega)
        rw [List.getElem?_map, List.getElem?_eq_getElem (by rw [stair_len]; exact ck)] at f4
        simp only [Option.map_some] at f4
        generalize (stair k)[k] = y at f4
        have f5 := hO.frozenAt k
        have S := hO.stored k (.int .i64 (3 * ((k : Int) + 1)))
        rw [stair_set ck] at S
        have hB2 := hB.setCell (p := ⟨w1.heap.size, k, none⟩) hsz (.int .i64 (3 * ((k : Int) + 1)))
        have HS := Lib.hid (And.intro S.1 hB2)
        clear S hB2 hO hB
        go_wp2
        go_roundw
        case rel => exact ⟨k + 1, by omega, by go_num, HS.out.1, HS.out.2⟩
        case measure => simp [intOf]; omega
      · obtain rfl : k = 40 := by omega
        go_wp2
        go_meet
        exact ⟨hO, hB⟩
  case rest =>
    obtain ⟨hO, hB⟩ := hcut
    obtain ⟨A, c, e, hA⟩ := rowI_own hO
    injection e with e1 e2 e3
    subst e1 e3
    have HA := Lib.hid hA
    clear hO hA
    go_wp2_with fail
    refine (segments_any HA.out stair_near _ _ _ f0 (by omega) (by omega) (by omega) (by omega)).mono ?_
    rintro e w3 ⟨ys, A1, c1, A2, c2, rfl, hys, r1, r2, b3⟩
    obtain ⟨e1, e2, e3⟩ := pcs_map hys (stair 40)
    rw [e1, e2] at r1
    rw [e1, e3] at r2
    have HA3 := Lib.hid (HA.out.keep b3 (Nat.le_refl _))
    have hB3 := hB.trans (b3.mono hB.size)
    clear hys e2 e3 b3
    rw [e1]
    clear e1 ys
    go_wp2_with fail
    refine (segments_any HA3.out stair_near _ _ _ f0 (by omega) (by omega) (by omega) (by omega)).mono ?_
    rintro e w4 ⟨ys, A3, c3, A4, c4, rfl, hys, r3, r4, b4⟩
    obtain ⟨e1, e2, e3⟩ := pcs_map hys (stair 40)
    rw [e1, e2] at r3
    rw [e1, e3] at r4
    have hB4 := hB3.trans (b4.mono hB3.size)
    have R := Lib.hid (And.intro (r1.keep b4 (Nat.le_refl _)) (And.intro (r2.keep b4 (Nat.le_refl _)) (And.intro r3 r4)))
    rw [e1]
    clear hys e2 e3 b4 hB3 hB HA HA3 e1 ys r1 r2 r3 r4
    have q1 := pcs_plain (s := u1) (f := fr) (t := tto) (fun k hk => ends_none (by omega) SG.out.1 SG.out.2.1) (tto - fr).toNat
    have q2 := pcs_each (s := bits .or .i64 u1 4) (f := fr) (t := tto) (fun k hk => ends_all (by omega) SG.out.2.2) (tto - fr).toNat
    obtain ⟨d, hd⟩ : ∃ d : Nat, tto = fr + d := ⟨(tto - fr).toNat, by omega⟩
    have hdn : (tto - fr).toNat = d := by omega
    rw [hdn] at q1 q2 R ⊢
    rw [q2] at R ⊢
    have hd40 : d < 40 := by omega
    by_cases d0 : d = 0
    · subst d0
      have Q1 := Lib.hid q1
      have HD := Lib.hid hd
      have e5 : (tto == fr) = true := by simp; omega
      clear q1 q2 hd hdn
      have e6 : (pcs u1 fr tto 0).1.length = 0 := rfl
      have e7 : ((List.range 0).map fun i : Nat => ((fr + i : Int), (fr + i + 1 : Int))).length = 0 := rfl
      rw [e6, e7]
      clear e6 e7
      go_wp2
      go_ret
      exact ⟨rfl, hB4⟩
    · have q3 := q1.2 (by omega) hd.symm
      rw [q3] at R ⊢
      have R1 := Lib.hid R.out.1
      have R2 := Lib.hid R.out.2.1
      have R3 := Lib.hid R.out.2.2.1
      have R4 := Lib.hid R.out.2.2.2
      obtain ⟨b1, o1, rfl, hb1, m1⟩ := R1.out.cell (k := 0) (by simp)
      obtain ⟨b2, o2, rfl, hb2, m2⟩ := R2.out.cell (k := 0) (by simp)
      have m1 : w4.cell? ⟨b1, o1, none⟩ = some (.int .i64 (tto - fr)) := m1
      have m2 : w4.cell? ⟨b2, o2, none⟩ = some (.int .i64 (bef (stair 40) tto - bef (stair 40) fr)) := m2
      rw [stair_bef (by omega) (by omega), stair_bef (by omega) (by omega)] at m2
      have e5 : (tto == fr) = false := by simp; omega
      have e8 : ((tto - fr : Int) == tto - fr) = true := beq_self_eq_true _
      have e9 : ((3 * tto - 3 * fr : Int) == 3 * (tto - fr)) = true := by simp; omega
      have e10 : ((d : Int) == tto - fr) = true := by simp; omega
      have hn3 := R3.out.2.1
      have hn4 := R4.out.2.1
      have hx3 := R3.out.2.2.1
      have hx4 := R4.out.2.2.1
      unfold maxLen at hx3 hx4
      have hl : ((List.range d).map fun i : Nat => ((fr + i : Int), (fr + i + 1 : Int))).length = d := by simp
      rw [hl] at hn3 hn4 R3 R4 ⊢
      have hc3 : Hid (∀ i, i < d → ((((List.range d).map fun i : Nat => ((fr + i : Int), (fr + i + 1 : Int))).map qN).getD i 0 = 1) ∧ ((((List.range d).map fun i : Nat => ((fr + i : Int), (fr + i + 1 : Int))).map (qB (stair 40))).getD i 0 = 3)) := Lib.hid fun i hi => by
        have h0 : ((List.range d).map fun i : Nat => ((fr + i : Int), (fr + i + 1 : Int)))[i]? = some (fr + i, fr + i + 1) := by rw [List.getElem?_map, List.getElem?_range hi]; rfl
        refine ⟨by rw [map_getD h0]; unfold qN; omega, ?_⟩
        rw [map_getD h0]
        unfold qB
        rw [stair_bef (by simp; omega) (by simp; omega), stair_bef (by simp; omega) (by simp; omega)]
        simp; omega
      have M1 := Lib.hid m1
      have M2 := Lib.hid m2
      have HD := Lib.hid hd
      have E8 := Lib.hid (And.intro e8 (And.intro e9 e10))
      clear q1 q2 q3 R hd hdn hl m1 m2 e8 e9 e10
      have hone : ([(fr, tto)] : List (Int × Int)).length = 1 := rfl
      rw [hone]
      clear hone
      go_wp2_with fail
      go_loopw [13] (fun iv wr => ∃ i : Nat, i ≤ d ∧ iv = .int .i64 i ∧ w4 = wr) (fun iv _ => d - (intOf iv).toNat)
      case atStart => exact ⟨0, by omega, rfl, rfl⟩
      case round =>
        obtain ⟨i, hi, rfl, rfl⟩ := hrel
        by_cases ci : i < d
        · obtain ⟨b3, o3, rfl, hb3, m3⟩ := R3.out.cell ci
          obtain ⟨b4, o4, rfl, hb4, m4⟩ := R4.out.cell ci
          rw [(hc3.out i ci).1] at m3
          rw [(hc3.out i ci).2] at m4
          have hci : (i : Int) < (d : Int) := by omega
          go_wp2
          go_roundw
          case rel => exact ⟨i + 1, by omega, by go_num, trivial⟩
          case measure => simp [intOf]; omega
        · have hci : ¬ (i : Int) < (d : Int) := by omega
          have m1 := M1.out
          have m2 := M2.out
          obtain ⟨e8, e9, e10⟩ := E8.out
          go_wp2
          go_ret
          exact ⟨rfl, hB4⟩
end Go.Proofs.Ytglplhiafeopdaa
