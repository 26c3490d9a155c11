/- canvas: the reference's Tiles. -/
import Derived.Test.YthcpmonahmogaaaCvM1
import Derived.Deep.LoopGhost
set_option linter.unusedVariables false
set_option linter.unusedSimpArgs false
namespace Go.Proofs.Ythcpmonahmogaaa
open Go.RowKit
attribute [local go_sem ↓] appSem_eq
set_option maxRecDepth 100000
theorem mul_in (i : Nat) (t : Int) (hi : i ≤ 100) (ht : 1 ≤ t ∧ t ≤ 65536) : 0 ≤ (i : Int) * t ∧ (i : Int) * t ≤ 6553600 := by
  have h1 : (i : Int) * t ≤ 100 * 65536 := Int.mul_le_mul (by omega) ht.2 (by omega) (by omega)
  exact ⟨Int.mul_nonneg (by omega) (by omega), by omega⟩
/-- A tile of the reference. -/
def rtl (x y ox oy tx ty : Int) (i j : Nat) : Int × Int × Int × Int := (maxJ ((i : Int) * tx) ox, maxJ ((j : Int) * ty) oy, minJ (((i : Int) + 1) * tx) x, minJ (((j : Int) + 1) * ty) y)
def rrow (x y ox oy tx ty : Int) (j k : Nat) : List (Int × Int × Int × Int) := (List.range k).map fun i => rtl x y ox oy tx ty i j
def rtls (x y ox oy tx ty : Int) (wd m : Nat) : List (Int × Int × Int × Int) := (List.range m).flatMap fun j => rrow x y ox oy tx ty j wd
theorem rrow_succ (x y ox oy tx ty : Int) (j k : Nat) : rrow x y ox oy tx ty j (k + 1) = rrow x y ox oy tx ty j k ++ [rtl x y ox oy tx ty k j] := by simp [rrow, List.range_succ]
theorem rtls_succ (x y ox oy tx ty : Int) (wd m : Nat) : rtls x y ox oy tx ty wd (m + 1) = rtls x y ox oy tx ty wd m ++ rrow x y ox oy tx ty m wd := by simp [rtls, List.range_succ]
/-- The reference's Tiles between two rounds. -/
structure TI (w wr : World) (B : Nat) (x y ox oy : Int) (C : Value) (tx ty : Int) (P : List Value) (V : Value) (m : Nat) (l : List (Int × Int × Int × Int)) : Prop where
  own : wr.ownsRow (B + 2) 48 4 V m (l.flatMap recV)
  bel : Below B w wr
  img : wr.heap[B]? = some (.cells #[.int .i64 x, .int .i64 y, .int .i64 ox, .int .i64 oy, C] 24 (0, 0))
  par : wr.heap[B + 1]? = some (.cells (#[.int .i64 tx, .int .i64 ty] ++ P.toArray) 26 (0, 0))
theorem TI.cells {w wr : World} {B : Nat} {x y ox oy tx ty : Int} {C V : Value} {P : List Value} {m : Nat} {l : List (Int × Int × Int × Int)} (h : TI w wr B x y ox oy C tx ty P V m l) :
    wr.cell? ⟨B, 0, none⟩ = some (.int .i64 x) ∧ wr.cell? ⟨B, 1, none⟩ = some (.int .i64 y) ∧ wr.cell? ⟨B, 2, none⟩ = some (.int .i64 ox) ∧ wr.cell? ⟨B, 3, none⟩ = some (.int .i64 oy) ∧ wr.cell? ⟨B + 1, 0, none⟩ = some (.int .i64 tx) ∧ wr.cell? ⟨B + 1, 1, none⟩ = some (.int .i64 ty) := by
  have h1 := h.img
  have h2 := h.par
  refine ⟨by simp [World.cell?, h1], by simp [World.cell?, h1], by simp [World.cell?, h1], by simp [World.cell?, h1], by simp [World.cell?, h2], by simp [World.cell?, h2]⟩
theorem TI.sz {w wr : World} {B : Nat} {x y ox oy tx ty : Int} {C V : Value} {P : List Value} {m : Nat} {l : List (Int × Int × Int × Int)} (h : TI w wr B x y ox oy C tx ty P V m l) : B + 2 ≤ wr.heap.size := (Array.getElem?_eq_some_iff.1 h.par).1
theorem TI.app {w wr : World} {B : Nat} {x y ox oy tx ty : Int} {C V : Value} {P : List Value} {m : Nat} {l : List (Int × Int × Int × Int)} (h : TI w wr B x y ox oy C tx ty P V m l) (a b c d : Int) (hm : m ≤ 100000) :
    ∃ A k w', (appSem #[44, 44] 44 #[V, .slice (some ⟨wr.heap.size, 0, none⟩) 1 1]).run Try.prog (wr.alloc (Obj.cells #[.int .i64 a, .int .i64 b, .int .i64 c, .int .i64 d] 48)) = .ok (.slice A (m + 1) k) w' ∧ TI w w' B x y ox oy C tx ty P (.slice A (m + 1) k) (m + 1) (l ++ [(a, b, c, d)]) := by
  have hs := h.sz
  have o1 := h.own.alloc (Obj.cells #[.int .i64 a, .int .i64 b, .int .i64 c, .int .i64 d] 48)
  obtain ⟨v', w', hr, ho, hg, _⟩ := app_rect o1 (World.alloc_heap_new wr _) (by simp; omega) hm
  obtain ⟨A, k, rfl, _⟩ := own_any ho
  have hge : ∀ q, V.ownBlock = some q → B + 2 ≤ q := fun q e => (own_lt o1 e).1
  refine ⟨A, k, w', hr, by rw [List.flatMap_append]; simpa using ho, (h.bel.alloc (show B ≤ wr.heap.size by omega) _).grown hg (by simp; omega) (fun q e => by have := hge q e; omega), ?_, ?_⟩
  · rw [hg.block B (by simp; omega) (fun e => by have := hge _ e.symm; omega), Below.heap_alloc _ _ _ (by omega)]; exact h.img
  · rw [hg.block (B + 1) (by simp; omega) (fun e => by have := hge _ e.symm; omega), Below.heap_alloc _ _ _ (by omega)]; exact h.par
set_option maxHeartbeats 8000000 in
set_option pp.deepTerms true in
set_option pp.maxSteps 10000000 in
theorem rtiles_any (x y ox oy : Int) (AC : Option Addr) (n cC : Nat) (tx ty lv bw bh pr st od ly : Int) (rct sop eph : Bool) (wd ht : Nat) (w : World) (hx : 0 ≤ ox ∧ ox < x ∧ x ≤ 64) (hy : 0 ≤ oy ∧ oy < y ∧ y ≤ 64) (htx : 1 ≤ tx ∧ tx ≤ 65536) (hty : 1 ≤ ty ∧ ty ≤ 65536) (hwd : ceilF x tx = (wd : Int)) (hht : ceilF y ty = (ht : Int)) :
    Calls Try.prog 20 #[.agg #[.int .i64 x, .int .i64 y, .int .i64 ox, .int .i64 oy, .slice AC n cC], .agg #[.int .i64 tx, .int .i64 ty, .int .i64 lv, .int .i64 bw, .int .i64 bh, .int .i64 pr, .int .i64 st, .int .i64 od, .int .i64 ly, .bool rct, .bool sop, .bool eph]] w fun e w' =>
      ∃ A c, e = .returned (.slice A (ht * wd) c) ∧ w'.ownsRow w.heap.size 48 4 (.slice A (ht * wd) c) (ht * wd) ((rtls x y ox oy tx ty wd ht).flatMap recV) ∧ Below w.heap.size w w' := by
  have hwb := ceil_bd x tx (by omega) htx.1
  have hhb := ceil_bd y ty (by omega) hty.1
  rw [hwd] at hwb
  rw [hht] at hhb
  have CX : Hid (∀ u, Calls Try.prog 47 #[.int .i64 x, .int .i64 tx] u fun e w' => e = .returned (.int .i64 (wd : Int)) ∧ w' = u) := Lib.hid fun u => by rw [← hwd]; exact rceil_any x tx u (by omega) (by omega)
  have CY : Hid (∀ u, Calls Try.prog 47 #[.int .i64 y, .int .i64 ty] u fun e w' => e = .returned (.int .i64 (ht : Int)) ∧ w' = u) := Lib.hid fun u => by rw [← hht]; exact rceil_any y ty u (by omega) (by omega)
  go_enter Try.func20, Try.ntmps20
  go_upto_region 2 with fail
  obtain ⟨B, hBe⟩ : ∃ B, w.heap.size = B := ⟨_, rfl⟩
  obtain ⟨P, hP⟩ : ∃ P, ([.int .i64 lv, .int .i64 bw, .int .i64 bh, .int .i64 pr, .int .i64 st, .int .i64 od, .int .i64 ly, .bool rct, .bool sop, .bool eph] : List Value) = P := ⟨_, rfl⟩
  obtain ⟨W1, hW1⟩ : ∃ W1, (w.alloc (Obj.cells #[.int .i64 x, .int .i64 y, .int .i64 ox, .int .i64 oy, .slice AC n cC] 24)).alloc (Obj.cells #[.int .i64 tx, .int .i64 ty, .int .i64 lv, .int .i64 bw, .int .i64 bh, .int .i64 pr, .int .i64 st, .int .i64 od, .int .i64 ly, .bool rct, .bool sop, .bool eph] 26) = W1 := ⟨_, rfl⟩
  have HT0 : Hid (TI w W1 B x y ox oy (.slice AC n cC) tx ty P (.slice none 0 0) (0 * wd) (rtls x y ox oy tx ty wd 0)) := Lib.hid (by
    refine ⟨by rw [Nat.zero_mul]; exact World.ownsRow_nil _ _ _ _, ?_, ?_, ?_⟩
    · rw [← hW1, ← hBe]; exact ((Below.refl _ w).alloc (Nat.le_refl _) _).alloc (by simp) _
    · rw [← hW1, Below.heap_alloc _ _ _ (by simp; omega), ← hBe]; exact World.alloc_heap_new w _
    · rw [← hP, ← hW1, show B + 1 = (w.alloc (Obj.cells #[.int .i64 x, .int .i64 y, .int .i64 ox, .int .i64 oy, .slice AC n cC] 24)).heap.size by simp; omega]; exact World.alloc_heap_new _ _)
  have HBe := Lib.hid hBe
  rw [hW1, hBe]
  clear hW1 hP hwd hht
  go_wp2_with fail
  go_loopg [5, 6] ht (fun g v5 v6 wr => ∃ j : Nat, j + g = ht ∧ v6 = .int .i64 (j : Int) ∧ Hid (TI w wr B x y ox oy (.slice AC n cC) tx ty P v5 (j * wd) (rtls x y ox oy tx ty wd j)))
  case atStart => exact ⟨0, by omega, rfl, HT0⟩
  case round =>
    obtain ⟨j, hjg, rfl, HT⟩ := hrel
    obtain ⟨V5, c5, hV5, _⟩ := own_any HT.out.own
    subst hV5
    obtain ⟨e0, e1, e2, e3, e4, e5⟩ := HT.out.cells
    by_cases hlt : j < ht
    · obtain ⟨g0, rfl⟩ : ∃ g0, gk = g0 + 1 := ⟨gk - 1, by omega⟩
      have t1 : (j : Int) < (ht : Int) := by omega
      go_wp2_with fail
      refine (CY.out _).mono ?_
      rintro e w2 ⟨rfl, rfl⟩
      go_wp2_with fail
      have HTn : Hid (TI w w2 B x y ox oy (.slice AC n cC) tx ty P (.slice V5 (j * wd) c5) (j * wd + 0) (rtls x y ox oy tx ty wd j ++ rrow x y ox oy tx ty j 0)) := Lib.hid (by simpa [rrow] using HT.out)
      clear HT e0 e1 e2 e3 e4 e5
      go_loopg [5, 7] wd (fun g v5 v7 wr => ∃ i : Nat, i + g = wd ∧ v7 = .int .i64 (i : Int) ∧ Hid (TI w wr B x y ox oy (.slice AC n cC) tx ty P v5 (j * wd + i) (rtls x y ox oy tx ty wd j ++ rrow x y ox oy tx ty j i)))
      case atStart => exact ⟨0, by omega, rfl, HTn⟩
      case round =>
        obtain ⟨i, hig, rfl, HI⟩ := hrel
        obtain ⟨V6, c6, hV6, _⟩ := own_any HI.out.own
        subst hV6
        obtain ⟨e0, e1, e2, e3, e4, e5⟩ := HI.out.cells
        by_cases hli : i < wd
        · obtain ⟨g1, rfl⟩ : ∃ g1, gk = g1 + 1 := ⟨gk - 1, by omega⟩
          have t2 : (i : Int) < (wd : Int) := by omega
          have b1 := mul_in i tx (by omega) (by omega)
          have b2 := mul_in j ty (by omega) (by omega)
          have b3 := mul_in (i + 1) tx (by omega) (by omega)
          have b4 := mul_in (j + 1) ty (by omega) (by omega)
          have p5 : ((i + 1 : Nat) : Int) = (i : Int) + 1 := by omega
          have p6 : ((j + 1 : Nat) : Int) = (j : Int) + 1 := by omega
          rw [p5] at b3
          rw [p6] at b4
          obtain ⟨q1, hq1⟩ : ∃ q, (i : Int) * tx = q := ⟨_, rfl⟩
          obtain ⟨q2, hq2⟩ : ∃ q, (j : Int) * ty = q := ⟨_, rfl⟩
          obtain ⟨q3, hq3⟩ : ∃ q, ((i : Int) + 1) * tx = q := ⟨_, rfl⟩
          obtain ⟨q4, hq4⟩ : ∃ q, ((j : Int) + 1) * ty = q := ⟨_, rfl⟩
          rw [hq1] at b1
          rw [hq2] at b2
          rw [hq3] at b3
          rw [hq4] at b4
          have hmi : j * wd + i ≤ 100000 := by
            have : j * wd ≤ 64 * 64 := Nat.mul_le_mul (by omega) (by omega)
            omega
          obtain ⟨A9, k9, w9, hr9, ht9⟩ := HI.out.app (maxJ q1 ox) (maxJ q2 oy) (minJ q3 x) (minJ q4 y) hmi
          have HI9 : Hid (TI w w9 B x y ox oy (.slice AC n cC) tx ty P (.slice A9 (j * wd + i + 1) k9) (j * wd + (i + 1)) (rtls x y ox oy tx ty wd j ++ rrow x y ox oy tx ty j (i + 1))) := Lib.hid (by
            rw [rrow_succ, ← List.append_assoc]
            unfold rtl
            rw [hq1, hq2, hq3, hq4]
            exact ht9)
          have f1 : (if q1 < ox then ox else q1) = maxJ q1 ox := rfl
          have f2 : (if q2 < oy then oy else q2) = maxJ q2 oy := rfl
          have f3 : (if x < q3 then x else q3) = minJ q3 x := rfl
          have f4 : (if y < q4 then y else q4) = minJ q4 y := rfl
          generalize maxJ q1 ox = r1 at *
          generalize maxJ q2 oy = r2 at *
          generalize minJ q3 x = r3 at *
          generalize minJ q4 y = r4 at *
          have s1 : IntKind.i64.wrap q1 = q1 := IntWalk.i64_in _ (by omega)
          have s2 : IntKind.i64.wrap q2 = q2 := IntWalk.i64_in _ (by omega)
          have s3 : IntKind.i64.wrap q3 = q3 := IntWalk.i64_in _ (by omega)
          have s4 : IntKind.i64.wrap q4 = q4 := IntWalk.i64_in _ (by omega)
          clear HI ht9 hmi
          go_wp2_with fail
          refine (CX.out _).mono ?_
          rintro e w3 ⟨rfl, rfl⟩
          go_wp2
          go_roundg g1
          case rel => exact ⟨i + 1, by omega, by go_num, HI9⟩
          case measure => omega
        · obtain rfl : i = wd := by omega
          have t2 : ¬ (i : Int) < (i : Int) := by omega
          have HTn2 : Hid (TI w wr B x y ox oy (.slice AC n cC) tx ty P (.slice V6 (j * i + i) c6) ((j + 1) * i) (rtls x y ox oy tx ty i (j + 1))) := Lib.hid (by
            rw [rtls_succ, show (j + 1) * i = j * i + i by rw [Nat.add_mul, Nat.one_mul]]
            exact HI.out)
          clear HI
          go_wp2_with fail
          refine (CX.out _).mono ?_
          rintro e w3 ⟨rfl, rfl⟩
          go_wp2
          go_roundg g0
          case rel => exact ⟨j + 1, by omega, by go_num, HTn2⟩
          case measure => omega
    · obtain rfl : j = ht := by omega
      have t1 : ¬ (j : Int) < (j : Int) := by omega
      go_wp2_with fail
      refine (CY.out _).mono ?_
      rintro e w2 ⟨rfl, rfl⟩
      go_wp2
      go_ret
      exact ⟨_, _, rfl, own_mono HT.out.own (by have := HBe.out; omega), by rw [HBe.out]; exact HT.out.bel⟩

set_option maxHeartbeats 4000000 in
/-- The law's tiles: how many there are. -/
theorem ltiles_any (x y ox oy : Int) (AC : Option Addr) (n cC : Nat) (tx ty lv bw bh pr st od ly : Int) (rct sop eph : Bool) (wd ht : Nat) (w : World) (hx : 0 ≤ ox ∧ ox < x ∧ x ≤ 64) (hy : 0 ≤ oy ∧ oy < y ∧ y ≤ 64) (htx : 1 ≤ tx ∧ tx ≤ 65536) (hty : 1 ≤ ty ∧ ty ≤ 65536) (hwd : ceilF x tx = (wd : Int)) (hht : ceilF y ty = (ht : Int)) :
    Calls Try.prog 43 #[.agg #[.int .i64 x, .int .i64 y, .int .i64 ox, .int .i64 oy, .slice AC n cC], .agg #[.int .i64 tx, .int .i64 ty, .int .i64 lv, .int .i64 bw, .int .i64 bh, .int .i64 pr, .int .i64 st, .int .i64 od, .int .i64 ly, .bool rct, .bool sop, .bool eph]] w fun e w' =>
      e = .returned (.int .i64 ((ht * wd : Nat) : Int)) ∧ Below w.heap.size w w' := by
  have CT := Lib.hid (fun u => rtiles_any x y ox oy AC n cC tx ty lv bw bh pr st od ly rct sop eph wd ht u hx hy htx hty hwd hht)
  clear hwd hht
  go_enter Try.func43, Try.ntmps43
  go_wp2_with fail
  obtain ⟨W1, hW1⟩ : ∃ W1, (w.alloc (Obj.cells #[.int .i64 x, .int .i64 y, .int .i64 ox, .int .i64 oy, .slice AC n cC] 24)).alloc (Obj.cells #[.int .i64 tx, .int .i64 ty, .int .i64 lv, .int .i64 bw, .int .i64 bh, .int .i64 pr, .int .i64 st, .int .i64 od, .int .i64 ly, .bool rct, .bool sop, .bool eph] 26) = W1 := ⟨_, rfl⟩
  have HB1 : Hid (Below w.heap.size w W1) := Lib.hid (by rw [← hW1]; exact ((Below.refl _ w).alloc (Nat.le_refl _) _).alloc (by simp) _)
  rw [hW1]
  clear hW1
  refine (CT.out _).mono ?_
  rintro e w2 ⟨A, c, rfl, _, hb⟩
  have HB2 := Lib.hid (HB1.out.trans (hb.mono HB1.out.size))
  clear hb HB1 CT
  go_wp2
  go_ret
  exact ⟨rfl, HB2.out⟩
end Go.Proofs.Ythcpmonahmogaaa
