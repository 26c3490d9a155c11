/- canvas: Frame, by its contract. -/
import Derived.Test.YthcpmonahmogaaaCvA
set_option linter.unusedVariables false
set_option linter.unusedSimpArgs false
namespace Go.Proofs.Ythcpmonahmogaaa
open Go.RowKit
set_option maxRecDepth 100000
structure Cp where
  d : Int
  sg : Bool
  dx : Int
  dy : Int
  A : Option Addr
  n : Nat
  cap : Nat
/-- Components in memory. -/
def CompsAt (w : World) (AC : Option Addr) (cs : List Cp) : Prop := ∀ i c, cs[i]? = some c → ∃ b o, AC = some ⟨b, o, none⟩ ∧ b < w.heap.size ∧
  w.cell? ⟨b, o + i * 5, none⟩ = some (.int .i64 c.d) ∧ w.cell? ⟨b, o + i * 5 + 1, none⟩ = some (.bool c.sg) ∧ w.cell? ⟨b, o + i * 5 + 2, none⟩ = some (.int .i64 c.dx) ∧ w.cell? ⟨b, o + i * 5 + 3, none⟩ = some (.int .i64 c.dy) ∧ w.cell? ⟨b, o + i * 5 + 4, none⟩ = some (.slice c.A c.n c.cap)
theorem CompsAt.keep {w w' : World} {AC : Option Addr} {cs : List Cp} (h : CompsAt w AC cs) (hb : Below w.heap.size w w') : CompsAt w' AC cs := fun i c e => by
  obtain ⟨b, o, rfl, hl, c0, c1, c2, c3, c4⟩ := h i c e
  exact ⟨b, o, rfl, Nat.lt_of_lt_of_le hl hb.size, (hb.cell (p := ⟨b, _, none⟩) hl).trans c0, (hb.cell (p := ⟨b, _, none⟩) hl).trans c1, (hb.cell (p := ⟨b, _, none⟩) hl).trans c2, (hb.cell (p := ⟨b, _, none⟩) hl).trans c3, (hb.cell (p := ⟨b, _, none⟩) hl).trans c4⟩
def sameC (a b : Cp) : Bool := decide (a.d = b.d) && (a.sg == b.sg) && decide (a.dx = b.dx) && decide (a.dy = b.dy)
def alikeF : List Cp → Bool
  | a :: b :: c :: _ => sameC a b && sameC a c
  | _ => false
def compB (c : Cp) : Bool := inB c.d 1 16 && inB c.dx 1 4 && inB c.dy 1 4
def frameF (x y ox oy : Int) (cs : List Cp) (tx ty lv bw bh pr st od ly : Int) (rct : Bool) : Int :=
  if gridF x y ox oy ≠ 0 then gridF x y ox oy else if cs.length < 1 ∨ 4 < cs.length then 4 else if cs.all compB = false then 1 else
  if tilesF x y ox oy tx ty ≠ 0 then tilesF x y ox oy tx ty else if codingF lv bw bh pr st od ly ≠ 0 then codingF lv bw bh pr st od ly else if rct = true ∧ alikeF cs = false then 3 else 0
theorem grid_zero {x y ox oy : Int} (h : gridF x y ox oy = 0) : (0 ≤ ox ∧ ox < x ∧ x ≤ 64) ∧ (0 ≤ oy ∧ oy < y ∧ y ≤ 64) := by
  unfold gridF at h
  repeat (first | omega | split at h)
set_option maxHeartbeats 8000000 in
theorem alike_any {AC : Option Addr} {cC : Nat} {cs : List Cp} {w : World} (h : CompsAt w AC cs) (hc : cs.length ≤ cC ∧ cC ≤ maxLen) :
    Calls Try.prog 41 #[.slice AC cs.length cC] w fun e w' => e = .returned (.bool (alikeF cs)) ∧ Below w.heap.size w w' := by
  have hc2 := hc.2
  unfold maxLen at hc2
  have hcl := hc.1
  by_cases h3 : cs.length < 3
  · have hR : alikeF cs = false := by
      rcases cs with _ | ⟨a, _ | ⟨b, _ | ⟨c, l⟩⟩⟩ <;> first | rfl | (simp at h3; omega)
    have HR := Lib.hid hR
    have e1 : decide ((cs.length : Int) < 3) = true := by simp; omega
    have e9 : (cs.length : Int) < 3 := by omega
    clear h hR
    go_enter Try.func41, Try.ntmps41
    go_wp2
    go_ret
    exact ⟨ret_bool HR.out.symm, Below.refl _ _⟩
  · obtain ⟨a, b, c, l, rfl⟩ : ∃ a b c l, cs = a :: b :: c :: l := by
      rcases cs with _ | ⟨a, _ | ⟨b, _ | ⟨c, l⟩⟩⟩
      · simp at h3
      · simp at h3
      · simp at h3
      · exact ⟨a, b, c, l, rfl⟩
    obtain ⟨ba, oa, rfl, hbl, a0, a1, a2, a3, a4⟩ := h 0 a rfl
    obtain ⟨bb, ob, hb, _, b0, b1, b2, b3, b4⟩ := h 1 b rfl
    injection hb with hb
    injection hb with hb hb'
    subst hb hb'
    obtain ⟨bc, oc, hb, _, c0, c1, c2, c3, c4⟩ := h 2 c rfl
    injection hb with hb
    injection hb with hb hb'
    subst hb hb'
    have HR : Hid (alikeF (a :: b :: c :: l) = (sameC a b && sameC a c)) := Lib.hid rfl
    obtain ⟨r, hr⟩ : ∃ r, alikeF (a :: b :: c :: l) = r := ⟨_, rfl⟩
    rw [hr] at HR ⊢
    clear hr h
    obtain ⟨n, hn⟩ : ∃ n, (a :: b :: c :: l).length = n := ⟨_, rfl⟩
    rw [hn] at hcl h3 ⊢
    clear hn hc
    have e1 : decide ((n : Int) < 3) = false := by simp; omega
    have e9 : ¬ (n : Int) < 3 := by omega
    obtain ⟨ad, ag, ax, ay, aA, an, ac⟩ := a
    obtain ⟨bd, bg, bx, by', bA, bn, bcp⟩ := b
    obtain ⟨cd, cg, cx, cy, cA, cn, ccp⟩ := c
    simp only [Nat.zero_mul, Nat.add_zero, Nat.one_mul] at a0 a1 a2 a3 a4 b0 b1 b2 b3 b4 c0 c1 c2 c3 c4
    go_enter Try.func41, Try.ntmps41
    go_wp2
    obtain ⟨W1, hW1⟩ : ∃ W1, w.alloc (Obj.cells #[.int .i64 ad, .bool ag, .int .i64 ax, .int .i64 ay, .slice aA an ac] 39) = W1 := ⟨_, rfl⟩
    have hb1 : W1.heap[w.heap.size]? = some (.cells #[.int .i64 ad, .bool ag, .int .i64 ax, .int .i64 ay, .slice aA an ac] 39 (0, 0)) := by rw [← hW1]; exact World.alloc_heap_new w _
    have hB1 : Below w.heap.size w W1 := by rw [← hW1]; exact (Below.refl _ w).alloc (Nat.le_refl _) _
    rw [hW1]
    clear hW1 e1 e9
    go_loopw [15] (fun iv wr => ∃ i : Nat, i ≤ 2 ∧ iv = .int .i64 (i : Int) ∧ wr.heap[w.heap.size]? = some (.cells #[.int .i64 ad, .bool ag, .int .i64 ax, .int .i64 ay, .slice aA an ac] 39 (0, 0)) ∧ Below w.heap.size w wr ∧ Hid (1 ≤ i → sameC ⟨ad, ag, ax, ay, aA, an, ac⟩ ⟨bd, bg, bx, by', bA, bn, bcp⟩ = true) ∧ Hid (2 ≤ i → sameC ⟨ad, ag, ax, ay, aA, an, ac⟩ ⟨cd, cg, cx, cy, cA, cn, ccp⟩ = true)) (fun iv _ => 2 - (intOf iv).toNat)
    case atStart => exact ⟨0, by omega, rfl, hb1, hB1, Lib.hid (fun h => absurd h (by omega)), Lib.hid (fun h => absurd h (by omega))⟩
    case round =>
      obtain ⟨i, hi, rfl, hbx, hB, HP1, HP2⟩ := hrel
      clear hb1 hB1
      have k0 : wr.cell? ⟨w.heap.size, 0, none⟩ = some (.int .i64 ad) := by simp [World.cell?, hbx]
      have k1 : wr.cell? ⟨w.heap.size, 1, none⟩ = some (.bool ag) := by simp [World.cell?, hbx]
      have k2 : wr.cell? ⟨w.heap.size, 2, none⟩ = some (.int .i64 ax) := by simp [World.cell?, hbx]
      have k3 : wr.cell? ⟨w.heap.size, 3, none⟩ = some (.int .i64 ay) := by simp [World.cell?, hbx]
      have hszw : w.heap.size < wr.heap.size := (Array.getElem?_eq_some_iff.1 hbx).1
      have HXn : Hid (∀ o2, (wr.alloc o2).heap[w.heap.size]? = some (.cells #[.int .i64 ad, .bool ag, .int .i64 ax, .int .i64 ay, .slice aA an ac] 39 (0, 0))) := Lib.hid (fun o2 => (Below.heap_alloc wr _ _ hszw).trans hbx)
      have HBn : Hid (∀ o2, Below w.heap.size w (wr.alloc o2)) := Lib.hid (fun o2 => hB.alloc hB.size _)
      have HBr : Hid (Below w.heap.size w wr) := Lib.hid hB
      clear hbx
      rcases (by omega : i = 0 ∨ i = 1 ∨ i = 2) with rfl | rfl | rfl
      · skip
        rw [show ((0 : Nat) : Int) = 0 from rfl]
        have m0 := (hB.cell (p := ⟨ba, oa + 5, none⟩) hbl).trans b0
        have m1 := (hB.cell (p := ⟨ba, oa + 6, none⟩) hbl).trans b1
        have m2 := (hB.cell (p := ⟨ba, oa + 7, none⟩) hbl).trans b2
        have m3 := (hB.cell (p := ⟨ba, oa + 8, none⟩) hbl).trans b3
        have m4 := (hB.cell (p := ⟨ba, oa + 9, none⟩) hbl).trans b4
        clear a0 a1 a2 a3 a4 b0 b1 b2 b3 b4 c0 c1 c2 c3 c4 hB
        by_cases q0 : ad = bd
        case neg =>
          have HRf : Hid (r = false) := Lib.hid (by rw [HR.out]; simp [sameC, q0])
          have e0 : (ad != bd) = true := by simp [q0]
          have f0 : decide (ad = bd) = false := by simp [q0]
          have f0' : (ad == bd) = false := by simp [q0]
          clear q0
          go_wp2
          go_ret
          exact ⟨ret_bool HRf.out.symm, HBn.out _⟩
        case pos =>
          by_cases q1 : ag = bg
          case neg =>
            have HRf : Hid (r = false) := Lib.hid (by rw [HR.out]; simp [sameC, q1])
            have e0 : (ad != bd) = false := by simp [q0]
            have f0 : decide (ad = bd) = true := by simp [q0]
            have f0' : (ad == bd) = true := by simp [q0]
            have e1 : (ag != bg) = true := by simp [q1]
            have f1 : decide (ag = bg) = false := by simp [q1]
            have f1' : (ag == bg) = false := by simp [q1]
            clear q0 q1
            go_wp2
            go_ret
            exact ⟨ret_bool HRf.out.symm, HBn.out _⟩
          case pos =>
            by_cases q2 : ax = bx
            case neg =>
              have HRf : Hid (r = false) := Lib.hid (by rw [HR.out]; simp [sameC, q2])
              have e0 : (ad != bd) = false := by simp [q0]
              have f0 : decide (ad = bd) = true := by simp [q0]
              have f0' : (ad == bd) = true := by simp [q0]
              have e1 : (ag != bg) = false := by simp [q1]
              have f1 : decide (ag = bg) = true := by simp [q1]
              have f1' : (ag == bg) = true := by simp [q1]
              have e2 : (ax != bx) = true := by simp [q2]
              have f2 : decide (ax = bx) = false := by simp [q2]
              have f2' : (ax == bx) = false := by simp [q2]
              clear q0 q1 q2
              go_wp2
              go_ret
              exact ⟨ret_bool HRf.out.symm, HBn.out _⟩
            case pos =>
              by_cases q3 : ay = by'
              case neg =>
                have HRf : Hid (r = false) := Lib.hid (by rw [HR.out]; simp [sameC, q3])
                have e0 : (ad != bd) = false := by simp [q0]
                have f0 : decide (ad = bd) = true := by simp [q0]
                have f0' : (ad == bd) = true := by simp [q0]
                have e1 : (ag != bg) = false := by simp [q1]
                have f1 : decide (ag = bg) = true := by simp [q1]
                have f1' : (ag == bg) = true := by simp [q1]
                have e2 : (ax != bx) = false := by simp [q2]
                have f2 : decide (ax = bx) = true := by simp [q2]
                have f2' : (ax == bx) = true := by simp [q2]
                have e3 : (ay != by') = true := by simp [q3]
                have f3 : decide (ay = by') = false := by simp [q3]
                have f3' : (ay == by') = false := by simp [q3]
                clear q0 q1 q2 q3
                go_wp2
                go_ret
                exact ⟨ret_bool HRf.out.symm, HBn.out _⟩
              case pos =>
                have HS : Hid (sameC ⟨ad, ag, ax, ay, aA, an, ac⟩ ⟨bd, bg, bx, by', bA, bn, bcp⟩ = true) := Lib.hid (by simp [sameC, q0, q1, q2, q3])
                have e0 : (ad != bd) = false := by simp [q0]
                have f0 : decide (ad = bd) = true := by simp [q0]
                have f0' : (ad == bd) = true := by simp [q0]
                have e1 : (ag != bg) = false := by simp [q1]
                have f1 : decide (ag = bg) = true := by simp [q1]
                have f1' : (ag == bg) = true := by simp [q1]
                have e2 : (ax != bx) = false := by simp [q2]
                have f2 : decide (ax = bx) = true := by simp [q2]
                have f2' : (ax == bx) = true := by simp [q2]
                have e3 : (ay != by') = false := by simp [q3]
                have f3 : decide (ay = by') = true := by simp [q3]
                have f3' : (ay == by') = true := by simp [q3]
                clear q0 q1 q2 q3
                go_wp2
                go_roundw
                case rel => exact ⟨1, by omega, by go_num, HXn.out _, HBn.out _, Lib.hid (fun _ => HS.out), Lib.hid (fun h => absurd h (by omega))⟩
                case measure => simp [intOf] <;> omega
      · skip
        rw [show ((1 : Nat) : Int) = 1 from rfl]
        have m0 := (hB.cell (p := ⟨ba, oa + 10, none⟩) hbl).trans c0
        have m1 := (hB.cell (p := ⟨ba, oa + 11, none⟩) hbl).trans c1
        have m2 := (hB.cell (p := ⟨ba, oa + 12, none⟩) hbl).trans c2
        have m3 := (hB.cell (p := ⟨ba, oa + 13, none⟩) hbl).trans c3
        have m4 := (hB.cell (p := ⟨ba, oa + 14, none⟩) hbl).trans c4
        clear a0 a1 a2 a3 a4 b0 b1 b2 b3 b4 c0 c1 c2 c3 c4 hB
        by_cases q0 : ad = cd
        case neg =>
          have HRf : Hid (r = false) := Lib.hid (by rw [HR.out]; simp [sameC, q0])
          have e0 : (ad != cd) = true := by simp [q0]
          have f0 : decide (ad = cd) = false := by simp [q0]
          have f0' : (ad == cd) = false := by simp [q0]
          clear q0
          go_wp2
          go_ret
          exact ⟨ret_bool HRf.out.symm, HBn.out _⟩
        case pos =>
          by_cases q1 : ag = cg
          case neg =>
            have HRf : Hid (r = false) := Lib.hid (by rw [HR.out]; simp [sameC, q1])
            have e0 : (ad != cd) = false := by simp [q0]
            have f0 : decide (ad = cd) = true := by simp [q0]
            have f0' : (ad == cd) = true := by simp [q0]
            have e1 : (ag != cg) = true := by simp [q1]
            have f1 : decide (ag = cg) = false := by simp [q1]
            have f1' : (ag == cg) = false := by simp [q1]
            clear q0 q1
            go_wp2
            go_ret
            exact ⟨ret_bool HRf.out.symm, HBn.out _⟩
          case pos =>
            by_cases q2 : ax = cx
            case neg =>
              have HRf : Hid (r = false) := Lib.hid (by rw [HR.out]; simp [sameC, q2])
              have e0 : (ad != cd) = false := by simp [q0]
              have f0 : decide (ad = cd) = true := by simp [q0]
              have f0' : (ad == cd) = true := by simp [q0]
              have e1 : (ag != cg) = false := by simp [q1]
              have f1 : decide (ag = cg) = true := by simp [q1]
              have f1' : (ag == cg) = true := by simp [q1]
              have e2 : (ax != cx) = true := by simp [q2]
              have f2 : decide (ax = cx) = false := by simp [q2]
              have f2' : (ax == cx) = false := by simp [q2]
              clear q0 q1 q2
              go_wp2
              go_ret
              exact ⟨ret_bool HRf.out.symm, HBn.out _⟩
            case pos =>
              by_cases q3 : ay = cy
              case neg =>
                have HRf : Hid (r = false) := Lib.hid (by rw [HR.out]; simp [sameC, q3])
                have e0 : (ad != cd) = false := by simp [q0]
                have f0 : decide (ad = cd) = true := by simp [q0]
                have f0' : (ad == cd) = true := by simp [q0]
                have e1 : (ag != cg) = false := by simp [q1]
                have f1 : decide (ag = cg) = true := by simp [q1]
                have f1' : (ag == cg) = true := by simp [q1]
                have e2 : (ax != cx) = false := by simp [q2]
                have f2 : decide (ax = cx) = true := by simp [q2]
                have f2' : (ax == cx) = true := by simp [q2]
                have e3 : (ay != cy) = true := by simp [q3]
                have f3 : decide (ay = cy) = false := by simp [q3]
                have f3' : (ay == cy) = false := by simp [q3]
                clear q0 q1 q2 q3
                go_wp2
                go_ret
                exact ⟨ret_bool HRf.out.symm, HBn.out _⟩
              case pos =>
                have HS : Hid (sameC ⟨ad, ag, ax, ay, aA, an, ac⟩ ⟨cd, cg, cx, cy, cA, cn, ccp⟩ = true) := Lib.hid (by simp [sameC, q0, q1, q2, q3])
                have e0 : (ad != cd) = false := by simp [q0]
                have f0 : decide (ad = cd) = true := by simp [q0]
                have f0' : (ad == cd) = true := by simp [q0]
                have e1 : (ag != cg) = false := by simp [q1]
                have f1 : decide (ag = cg) = true := by simp [q1]
                have f1' : (ag == cg) = true := by simp [q1]
                have e2 : (ax != cx) = false := by simp [q2]
                have f2 : decide (ax = cx) = true := by simp [q2]
                have f2' : (ax == cx) = true := by simp [q2]
                have e3 : (ay != cy) = false := by simp [q3]
                have f3 : decide (ay = cy) = true := by simp [q3]
                have f3' : (ay == cy) = true := by simp [q3]
                clear q0 q1 q2 q3
                go_wp2
                go_roundw
                case rel => exact ⟨2, by omega, by go_num, HXn.out _, HBn.out _, Lib.hid (fun _ => HP1.out (by omega)), Lib.hid (fun h => HS.out)⟩
                case measure => simp [intOf] <;> omega
      · have HRf : Hid (r = true) := Lib.hid (by rw [HR.out, HP1.out (by omega), HP2.out (by omega)]; rfl)
        clear a0 a1 a2 a3 a4 b0 b1 b2 b3 b4 c0 c1 c2 c3 c4 hB
        go_wp2
        go_ret
        exact ⟨ret_bool HRf.out.symm, HBr.out⟩


set_option maxHeartbeats 16000000 in
theorem frame_any {AC : Option Addr} {cC : Nat} {cs : List Cp} {w : World} (x y ox oy tx ty lv bw bh pr st od ly : Int) (rct sop eph : Bool) (h : CompsAt w AC cs) (hc : cs.length ≤ cC ∧ cC ≤ maxLen) :
    Calls Try.prog 14 #[.agg #[.int .i64 x, .int .i64 y, .int .i64 ox, .int .i64 oy, .slice AC cs.length cC], .agg #[.int .i64 tx, .int .i64 ty, .int .i64 lv, .int .i64 bw, .int .i64 bh, .int .i64 pr, .int .i64 st, .int .i64 od, .int .i64 ly, .bool rct, .bool sop, .bool eph]] w fun e w' => e = .returned (.int .i64 (frameF x y ox oy cs tx ty lv bw bh pr st od ly rct)) ∧ Below w.heap.size w w' := by
  have hc2 := hc.2
  unfold maxLen at hc2
  have HI := Lib.hid h
  have HC := Lib.hid hc
  have hcl := hc.1
  obtain ⟨R, hR⟩ : ∃ R, frameF x y ox oy cs tx ty lv bw bh pr st od ly rct = R := ⟨_, rfl⟩
  rw [hR]
  unfold frameF at hR
  have HR := Lib.hid hR
  have CG := Lib.hid (fun u => grid_any x y ox oy AC cs.length cC u)
  clear h hc hR
  obtain ⟨g, hg⟩ : ∃ g, gridF x y ox oy = g := ⟨_, rfl⟩
  have hgz : g = 0 → (0 ≤ ox ∧ ox < x ∧ x ≤ 64) ∧ (0 ≤ oy ∧ oy < y ∧ y ≤ 64) := fun e => grid_zero (hg.trans e)
  have HZ := Lib.hid hgz
  rw [hg] at CG HR
  clear hg hgz
  go_enter Try.func14, Try.ntmps14
  go_wp2_with fail
  obtain ⟨X, hX⟩ : ∃ X, (w.alloc (Obj.cells #[.int .i64 x, .int .i64 y, .int .i64 ox, .int .i64 oy, .slice AC cs.length cC] 24)).alloc (Obj.cells #[.int .i64 tx, .int .i64 ty, .int .i64 lv, .int .i64 bw, .int .i64 bh, .int .i64 pr, .int .i64 st, .int .i64 od, .int .i64 ly, .bool rct, .bool sop, .bool eph] 26) = X := ⟨_, rfl⟩
  have hB : Below w.heap.size w X := by rw [← hX]; exact ((Below.refl _ w).alloc (Nat.le_refl _) _).alloc (by simp) _
  have hz : (w.alloc (Obj.cells #[.int .i64 x, .int .i64 y, .int .i64 ox, .int .i64 oy, .slice AC cs.length cC] 24)).heap.size = w.heap.size + 1 := by simp
  have b1' : X.heap[w.heap.size]? = some (.cells #[.int .i64 x, .int .i64 y, .int .i64 ox, .int .i64 oy, .slice AC cs.length cC] 24 (0, 0)) := by
    rw [← hX, Below.heap_alloc _ _ _ (by simp)]; exact World.alloc_heap_new w _
  have b2' : X.heap[w.heap.size + 1]? = some (.cells #[.int .i64 tx, .int .i64 ty, .int .i64 lv, .int .i64 bw, .int .i64 bh, .int .i64 pr, .int .i64 st, .int .i64 od, .int .i64 ly, .bool rct, .bool sop, .bool eph] 26 (0, 0)) := by
    rw [← hX, ← hz]; exact World.alloc_heap_new _ _
  have hzX : w.heap.size + 1 < X.heap.size := (Array.getElem?_eq_some_iff.1 b2').1
  rw [hX]
  refine (CG.out _).mono ?_
  rintro e w1 ⟨rfl, hb⟩
  have HX : Hid (w1.heap[w.heap.size]? = some (.cells #[.int .i64 x, .int .i64 y, .int .i64 ox, .int .i64 oy, .slice AC cs.length cC] 24 (0, 0)) ∧ w1.heap[w.heap.size + 1]? = some (.cells #[.int .i64 tx, .int .i64 ty, .int .i64 lv, .int .i64 bw, .int .i64 bh, .int .i64 pr, .int .i64 st, .int .i64 od, .int .i64 ly, .bool rct, .bool sop, .bool eph] 26 (0, 0))) := Lib.hid ⟨(hb.block _ (by omega)).trans b1', (hb.block _ hzX).trans b2'⟩
  have HB : Hid (Below w.heap.size w w1) := Lib.hid (hB.trans (hb.mono hB.size))
  clear hX hz b1' b2' hB hb hzX
  by_cases hg0 : g = 0
  case neg =>
    have e1 : (g != 0) = true := by simp [hg0]
    have HR2 : Hid (R = g) := Lib.hid (by rw [← HR.out, if_pos hg0])
    clear hg0
    go_wp2
    go_ret
    exact ⟨ret_i64 HR2.out.symm, HB.out⟩
  case pos =>
    subst hg0
    obtain ⟨hxb, hyb⟩ := HZ.out rfl
    have HR1 := Lib.hid HR.out
    clear HR
    obtain ⟨g0, g1, g2, g3, g4⟩ := img_cells HX.out.1
    obtain ⟨k0, k1, k2, k3, k4, k5, k6, k7, k8, k9, k10, k11⟩ := par_cells HX.out.2

    by_cases hn : cs.length < 1 ∨ 4 < cs.length
    · have HR2 : Hid (R = 4) := Lib.hid (by rw [← HR1.out]; simp only [ne_eq, not_true_eq_false, if_false]; rw [if_pos hn])
      rcases (by omega : cs.length < 1 ∨ (1 ≤ cs.length ∧ 4 < cs.length)) with h1 | ⟨h1, h2⟩
      · have e1 : decide ((cs.length : Int) < 1) = true := by simp; omega
        have e9 : (cs.length : Int) < 1 := by omega
        clear hn
        go_wp2
        go_ret
        exact ⟨ret_i64 HR2.out.symm, HB.out⟩
      · have e1 : decide ((cs.length : Int) < 1) = false := by simp; omega
        have e2 : decide ((4 : Int) < (cs.length : Int)) = true := by simp; omega
        have e9 : ¬ (cs.length : Int) < 1 := by omega
        have e8 : (4 : Int) < (cs.length : Int) := by omega
        clear hn
        go_wp2
        go_ret
        exact ⟨ret_i64 HR2.out.symm, HB.out⟩
    · have hn1 : 1 ≤ cs.length ∧ cs.length ≤ 4 := by omega
      have HR3 : Hid ((if cs.all compB = false then 1 else if tilesF x y ox oy tx ty ≠ 0 then tilesF x y ox oy tx ty else if codingF lv bw bh pr st od ly ≠ 0 then codingF lv bw bh pr st od ly else if rct = true ∧ alikeF cs = false then 3 else 0) = R) := Lib.hid (by rw [← HR1.out]; simp only [ne_eq, not_true_eq_false, if_false]; rw [if_neg hn])
      have e1 : decide ((cs.length : Int) < 1) = false := by simp; omega
      have e2 : decide ((4 : Int) < (cs.length : Int)) = false := by simp; omega
      have e9 : ¬ (cs.length : Int) < 1 := by omega
      have e8 : ¬ (4 : Int) < (cs.length : Int) := by omega
      clear hn HR1
      go_wp2_with fail
      clear g0 g1 g2 g3 g4 k0 k1 k2 k3 k4 k5 k6 k7 k8 k9 k10 k11 e1 e2 e9 e8
      go_loopw [28] (fun iv wr => ∃ i : Nat, i ≤ cs.length ∧ iv = .int .i64 (i : Int) ∧ Hid (wr.heap[w.heap.size]? = some (.cells #[.int .i64 x, .int .i64 y, .int .i64 ox, .int .i64 oy, .slice AC cs.length cC] 24 (0, 0)) ∧ wr.heap[w.heap.size + 1]? = some (.cells #[.int .i64 tx, .int .i64 ty, .int .i64 lv, .int .i64 bw, .int .i64 bh, .int .i64 pr, .int .i64 st, .int .i64 od, .int .i64 ly, .bool rct, .bool sop, .bool eph] 26 (0, 0))) ∧ Hid (Below w.heap.size w wr) ∧ Hid (∀ j c, j < i → cs[j]? = some c → compB c = true)) (fun iv _ => cs.length - (intOf iv).toNat)
      case atStart => exact ⟨0, by omega, rfl, HX, HB, Lib.hid (fun j c hj => absurd hj (by omega))⟩
      case round =>
        obtain ⟨i, hi, rfl, HXi, HBi, HA⟩ := hrel
        clear HX HB
        obtain ⟨g0, g1, g2, g3, g4⟩ := img_cells HXi.out.1
        obtain ⟨k0, k1, k2, k3, k4, k5, k6, k7, k8, k9, k10, k11⟩ := par_cells HXi.out.2

        have hszi : w.heap.size + 1 < wr.heap.size := (Array.getElem?_eq_some_iff.1 HXi.out.2).1
        by_cases ci : i < cs.length
        · obtain ⟨c, hcc⟩ : ∃ c, cs[i]? = some c := ⟨_, List.getElem?_eq_getElem ci⟩
          obtain ⟨b, o, rfl, hbl, c0, c1, c2, c3, c4⟩ := (HI.out.keep HBi.out) i c hcc
          have ci' : (i : Int) < (cs.length : Int) := by omega
          have HCC := Lib.hid hcc
          have C := Lib.hid (fun (n a b : Int) (u : World) => within_any n a b u)
          have HXn : Hid (∀ o2, (wr.alloc o2).heap[w.heap.size]? = some (.cells #[.int .i64 x, .int .i64 y, .int .i64 ox, .int .i64 oy, .slice (some ⟨b, o, none⟩) cs.length cC] 24 (0, 0)) ∧ (wr.alloc o2).heap[w.heap.size + 1]? = some (.cells #[.int .i64 tx, .int .i64 ty, .int .i64 lv, .int .i64 bw, .int .i64 bh, .int .i64 pr, .int .i64 st, .int .i64 od, .int .i64 ly, .bool rct, .bool sop, .bool eph] 26 (0, 0))) := Lib.hid (fun o' => ⟨(Below.heap_alloc wr _ _ (by omega)).trans HXi.out.1, (Below.heap_alloc wr _ _ hszi).trans HXi.out.2⟩)
          have HBn : Hid (∀ o, Below w.heap.size w (wr.alloc o)) := Lib.hid (fun o' => HBi.out.alloc HBi.out.size _)
          obtain ⟨cd, csg, cdx, cdy, cA, cn, ccp⟩ := c
          simp only at c0 c1 c2 c3 c4
          have hcomp : compB ⟨cd, csg, cdx, cdy, cA, cn, ccp⟩ = (inB cd 1 16 && inB cdx 1 4 && inB cdy 1 4) := rfl
          have HCP := Lib.hid hcomp
          clear hcc g0 g1 g2 g3 g4 k0 k1 k2 k3 k4 k5 k6 k7 k8 k9 k10 k11 hcomp
          have hbad : compB ⟨cd, csg, cdx, cdy, cA, cn, ccp⟩ = false → R = 1 := fun e => by
            rw [← HR3.out, if_pos]
            rw [List.all_eq_false]
            exact ⟨_, List.mem_of_getElem? HCC.out, by rw [e]; decide⟩
          have HBD := Lib.hid hbad
          clear hbad
          cases h1 : inB cd 1 16
          case false =>
            have HR4 := Lib.hid (HBD.out (by rw [HCP.out, h1]; rfl))
            have H1 := Lib.hid h1
            clear h1
            go_wp2_with fail
            refine (C.out _ _ _ _).mono ?_
            rintro e w' ⟨rfl, rfl⟩
            rw [H1.out]
            go_wp2
            go_ret
            exact ⟨ret_i64 HR4.out.symm, HBn.out _⟩
          case true =>
            have H1 := Lib.hid h1
            cases h2 : inB cdx 1 4
            case false =>
              have HR4 := Lib.hid (HBD.out (by rw [HCP.out, h1, h2]; rfl))
              have H2 := Lib.hid h2
              clear h1 h2
              go_wp2_with fail
              refine (C.out _ _ _ _).mono ?_
              rintro e w' ⟨rfl, rfl⟩
              rw [H1.out]
              go_wp2_with fail
              refine (C.out _ _ _ _).mono ?_
              rintro e w' ⟨rfl, rfl⟩
              rw [H2.out]
              go_wp2
              go_ret
              exact ⟨ret_i64 HR4.out.symm, HBn.out _⟩
            case true =>
              have H2 := Lib.hid h2
              cases h3 : inB cdy 1 4
              case false =>
                have HR4 := Lib.hid (HBD.out (by rw [HCP.out, h1, h2, h3]; rfl))
                have H3 := Lib.hid h3
                clear h1 h2 h3
                go_wp2_with fail
                refine (C.out _ _ _ _).mono ?_
                rintro e w' ⟨rfl, rfl⟩
                rw [H1.out]
                go_wp2_with fail
                refine (C.out _ _ _ _).mono ?_
                rintro e w' ⟨rfl, rfl⟩
                rw [H2.out]
                go_wp2_with fail
                refine (C.out _ _ _ _).mono ?_
                rintro e w' ⟨rfl, rfl⟩
                rw [H3.out]
                go_wp2
                go_ret
                exact ⟨ret_i64 HR4.out.symm, HBn.out _⟩
              case true =>
                have HOK : Hid (compB ⟨cd, csg, cdx, cdy, cA, cn, ccp⟩ = true) := Lib.hid (by rw [HCP.out, h1, h2, h3]; rfl)
                have H3 := Lib.hid h3
                clear h1 h2 h3
                go_wp2_with fail
                refine (C.out _ _ _ _).mono ?_
                rintro e w' ⟨rfl, rfl⟩
                rw [H1.out]
                go_wp2_with fail
                refine (C.out _ _ _ _).mono ?_
                rintro e w' ⟨rfl, rfl⟩
                rw [H2.out]
                go_wp2_with fail
                refine (C.out _ _ _ _).mono ?_
                rintro e w' ⟨rfl, rfl⟩
                rw [H3.out]
                go_wp2
                go_roundw
                case rel => exact ⟨i + 1, by omega, by go_num, Lib.hid (HXn.out _), Lib.hid (HBn.out _), Lib.hid (fun j c hj hjc => by
                  rcases Nat.lt_or_ge j i with hji | hji
                  · exact HA.out j c hji hjc
                  · have : j = i := by omega
                    subst this
                    rw [HCC.out] at hjc
                    cases hjc
                    exact HOK.out)⟩
                case measure => simp [intOf]; omega
        · obtain rfl : i = cs.length := by omega
          have hall : ¬ cs.all compB = false := by
            rw [List.all_eq_false]
            rintro ⟨c, hm, hcb⟩
            obtain ⟨j, hj⟩ := List.getElem?_of_mem hm
            exact hcb (HA.out j c (List.getElem?_eq_some_iff.1 hj).1 hj)
          have HR4 : Hid ((if tilesF x y ox oy tx ty ≠ 0 then tilesF x y ox oy tx ty else if codingF lv bw bh pr st od ly ≠ 0 then codingF lv bw bh pr st od ly else if rct = true ∧ alikeF cs = false then 3 else 0) = R) := Lib.hid (by rw [← HR3.out, if_neg hall])
          have CT := Lib.hid (fun u => tiles_any x y ox oy AC cs.length cC tx ty lv bw bh pr st od ly rct sop eph u hxb hyb)
          have CC := Lib.hid (fun (u : World) => coding_any tx ty lv bw bh pr st od ly rct sop eph u)
          obtain ⟨tf, htf⟩ : ∃ tf, tilesF x y ox oy tx ty = tf := ⟨_, rfl⟩
          obtain ⟨cf, hcf⟩ : ∃ cf, codingF lv bw bh pr st od ly = cf := ⟨_, rfl⟩
          rw [htf] at CT HR4
          rw [hcf] at CC HR4
          clear hall htf hcf HA
          go_wp2_with fail
          refine (CT.out _).mono ?_
          rintro e w2 ⟨rfl, hb⟩
          have HX2 : Hid (w2.heap[w.heap.size]? = some (.cells #[.int .i64 x, .int .i64 y, .int .i64 ox, .int .i64 oy, .slice AC cs.length cC] 24 (0, 0)) ∧ w2.heap[w.heap.size + 1]? = some (.cells #[.int .i64 tx, .int .i64 ty, .int .i64 lv, .int .i64 bw, .int .i64 bh, .int .i64 pr, .int .i64 st, .int .i64 od, .int .i64 ly, .bool rct, .bool sop, .bool eph] 26 (0, 0))) := Lib.hid ⟨(hb.block _ (by omega)).trans HXi.out.1, (hb.block _ hszi).trans HXi.out.2⟩
          have HB2 : Hid (Below w.heap.size w w2) := Lib.hid (HBi.out.trans (hb.mono HBi.out.size))
          have hsz2 : w.heap.size + 1 < w2.heap.size := by have := hb.size; omega
          clear g0 g1 g2 g3 g4 k0 k1 k2 k3 k4 k5 k6 k7 k8 k9 k10 k11 hb
          obtain ⟨g0, g1, g2, g3, g4⟩ := img_cells HX2.out.1
          obtain ⟨k0, k1, k2, k3, k4, k5, k6, k7, k8, k9, k10, k11⟩ := par_cells HX2.out.2

          by_cases ht0 : tf = 0
          case neg =>
            have e1 : (tf != 0) = true := by simp [ht0]
            have HR5 : Hid (R = tf) := Lib.hid (by rw [← HR4.out, if_pos ht0])
            clear ht0
            go_wp2
            go_ret
            exact ⟨ret_i64 HR5.out.symm, HB2.out⟩
          case pos =>
            subst ht0
            go_wp2_with fail
            refine (CC.out _).mono ?_
            rintro e w3 ⟨rfl, hb⟩
            have HX3 : Hid (w3.heap[w.heap.size]? = some (.cells #[.int .i64 x, .int .i64 y, .int .i64 ox, .int .i64 oy, .slice AC cs.length cC] 24 (0, 0)) ∧ w3.heap[w.heap.size + 1]? = some (.cells #[.int .i64 tx, .int .i64 ty, .int .i64 lv, .int .i64 bw, .int .i64 bh, .int .i64 pr, .int .i64 st, .int .i64 od, .int .i64 ly, .bool rct, .bool sop, .bool eph] 26 (0, 0))) := Lib.hid ⟨(hb.block _ (by omega)).trans HX2.out.1, (hb.block _ hsz2).trans HX2.out.2⟩
            have HB3 : Hid (Below w.heap.size w w3) := Lib.hid (HB2.out.trans (hb.mono HB2.out.size))
            clear g0 g1 g2 g3 g4 k0 k1 k2 k3 k4 k5 k6 k7 k8 k9 k10 k11 hb
            obtain ⟨g0, g1, g2, g3, g4⟩ := img_cells HX3.out.1
            obtain ⟨k0, k1, k2, k3, k4, k5, k6, k7, k8, k9, k10, k11⟩ := par_cells HX3.out.2

            by_cases hc0 : cf = 0
            case neg =>
              have e1 : (cf != 0) = true := by simp [hc0]
              have HR5 : Hid (R = cf) := Lib.hid (by rw [← HR4.out]; simp [hc0])
              clear hc0
              go_wp2
              go_ret
              exact ⟨ret_i64 HR5.out.symm, HB3.out⟩
            case pos =>
              subst hc0
              have CL := Lib.hid (alike_any (HI.out.keep HB3.out) HC.out)
              cases hrc : rct with
              | false =>
                subst hrc
                have HR5 : Hid (R = 0) := Lib.hid (by rw [← HR4.out]; simp)
                go_wp2
                go_ret
                exact ⟨ret_i64 HR5.out.symm, HB3.out⟩
              | true =>
                subst hrc
                cases ha : alikeF cs with
                | false =>
                  have HR5 : Hid (R = 3) := Lib.hid (by rw [← HR4.out]; simp [ha])
                  have CL2 := CL
                  rw [ha] at CL2
                  clear CL ha
                  go_wp2_with fail
                  refine CL2.out.mono ?_
                  rintro e w4 ⟨rfl, hb⟩
                  have HB4 : Hid (Below w.heap.size w w4) := Lib.hid (HB3.out.trans (hb.mono HB3.out.size))
                  clear hb g0 g1 g2 g3 g4 k0 k1 k2 k3 k4 k5 k6 k7 k8 k9 k10 k11
                  go_wp2
                  go_ret
                  exact ⟨ret_i64 HR5.out.symm, HB4.out⟩
                | true =>
                  have HR5 : Hid (R = 0) := Lib.hid (by rw [← HR4.out]; simp [ha])
                  have CL2 := CL
                  rw [ha] at CL2
                  clear CL ha
                  go_wp2_with fail
                  refine CL2.out.mono ?_
                  rintro e w4 ⟨rfl, hb⟩
                  have HB4 : Hid (Below w.heap.size w w4) := Lib.hid (HB3.out.trans (hb.mono HB3.out.size))
                  clear hb g0 g1 g2 g3 g4 k0 k1 k2 k3 k4 k5 k6 k7 k8 k9 k10 k11
                  go_wp2
                  go_ret
                  exact ⟨ret_i64 HR5.out.symm, HB4.out⟩
end Go.Proofs.Ythcpmonahmogaaa
