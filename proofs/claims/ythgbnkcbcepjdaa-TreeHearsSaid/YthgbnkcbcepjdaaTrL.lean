/- Trees: the least of four. -/
import Derived.Test.YthgbnkcbcepjdaaTrM
set_option linter.unusedVariables false
set_option linter.unusedSimpArgs false
namespace Go.Proofs.Ythgbnkcbcepjdaa
open Go.RowKit
set_option maxRecDepth 100000
def minI (a b : Int) : Int := if b < a then b else a
/-- The least of a row of so many nodes, and n. -/
def rowM (f : Nat → Int) (W x y : Nat) (n : Int) : Nat → Int
  | 0 => n
  | c + 1 => minI (rowM f W x y n c) (f (y * W + (x + c)))
def leastG (f : Nat → Int) (W x y rW : Nat) (n : Int) : Nat → Int
  | 0 => n
  | r + 1 => rowM f W x (y + r) (leastG f W x y rW n r) rW
theorem tat0 (W H n c x y m b : Nat) (w : World) (hW : W ≤ 64 ∧ H ≤ 64) (hx : x < W) (hy : y < H) (hn : W * H = n) (hm : y * W + x = m) :
    Calls Try.prog 32 #[.agg #[.int .i64 (W : Int), .int .i64 (H : Int), .slice (some ⟨b, 0, none⟩) n c], .int .i64 (x : Int), .int .i64 (y : Int)] w fun e w' => e = .returned (.pointer (some ⟨b, m * 3, none⟩)) ∧ Below w.heap.size w w' := by
  have h := tat_any W H n c x y m b 0 w hW hx hy hn hm
  rw [Nat.zero_add] at h
  exact h
theorem tat0c (W H n c x y m b : Nat) (xx yy : Int) (w : World) (hW : W ≤ 64 ∧ H ≤ 64) (hx : x < W) (hy : y < H) (hn : W * H = n) (hm : y * W + x = m) (ex : xx = (x : Int)) (ey : yy = (y : Int)) :
    Calls Try.prog 32 #[.agg #[.int .i64 (W : Int), .int .i64 (H : Int), .slice (some ⟨b, 0, none⟩) n c], .int .i64 xx, .int .i64 yy] w fun e w' => e = .returned (.pointer (some ⟨b, m * 3, none⟩)) ∧ Below w.heap.size w w' := by
  subst ex ey
  exact tat0 W H n c x y m b w hW hx hy hn hm
theorem idx_lt {W H n x y : Nat} (hn : W * H = n) (hx : x < W) (hy : y < H) : y * W + x < n := by
  rw [← hn]
  have : (y + 1) * W ≤ H * W := Nat.mul_le_mul_right W hy
  rw [Nat.mul_comm W H, Nat.succ_mul] at *
  omega
set_option maxHeartbeats 4000000 in
theorem least_any (f : Nat → Int) (W H n x y I rH rW : Nat) (w : World) (hW : W ≤ 64 ∧ H ≤ 64) (hx : x < W) (hy : y < H) (hn : W * H = n) (hI : I < w.heap.size)
    (hc : ∀ m, m < n → w.cell? ⟨I, m * 3, none⟩ = some (.int .i64 (f m))) (hrH : min 2 (H - y) = rH) (hrW : min 2 (W - x) = rW) :
    Calls Try.prog 37 #[.agg #[.int .i64 (W : Int), .int .i64 (H : Int), .slice (some ⟨I, 0, none⟩) n n], .int .i64 (x : Int), .int .i64 (y : Int)] w fun e w' => e = .returned (.int .i64 (leastG f W x y rW (f (y * W + x)) rH)) ∧ Below w.heap.size w w' := by
  have HC := Lib.hid hc
  have HA := Lib.hid (fun (dx dy : Nat) (W' : World) (h1 : x + dx < W) (h2 : y + dy < H) => tat0c W H n n (x + dx) (y + dy) _ I ((x : Int) + (dx : Int)) ((y : Int) + (dy : Int)) W' hW h1 h2 hn rfl (by omega) (by omega))
  have HA0 := Lib.hid (fun (W' : World) => tat0 W H n n x y _ I W' hW hx hy hn rfl)
  have eH : (if (H : Int) - (y : Int) < 2 then (H : Int) - (y : Int) else 2) = (rH : Int) := by split <;> omega
  have eW : (if (W : Int) - (x : Int) < 2 then (W : Int) - (x : Int) else 2) = (rW : Int) := by split <;> omega
  have HEH := Lib.hid eH
  have HEW := Lib.hid eW
  have hl : rH ≤ 2 ∧ rW ≤ 2 ∧ y + rH ≤ H ∧ x + rW ≤ W := by omega
  have HIX := Lib.hid (fun (x y : Nat) (h1 : x < W) (h2 : y < H) => idx_lt hn h1 h2)
  clear hc hrH hrW hn eH eW
  go_enter Try.func37, Try.ntmps37
  go_wp2_with fail
  refine (HA0.out _).mono ?_
  rintro e w2 ⟨rfl, hb⟩
  have hbx : w2.heap[w.heap.size]? = some (.cells #[.int .i64 (W : Int), .int .i64 (H : Int), .slice (some ⟨I, 0, none⟩) n n] 58 (0, 0)) := (hb.block _ (by simp)).trans (World.alloc_heap_new w _)
  have HB : Hid (Below w.heap.size w w2) := Lib.hid (((Below.refl _ w).alloc (Nat.le_refl _) _).trans (hb.mono (by simp)))
  have g0 : w2.cell? ⟨I, (y * W + x) * 3, none⟩ = some (.int .i64 (f (y * W + x))) := (HB.out.cell (p := ⟨I, (y * W + x) * 3, none⟩) hI).trans (HC.out _ (HIX.out _ _ hx hy))
  have k1 : w2.cell? ⟨w.heap.size, 1, none⟩ = some (.int .i64 (H : Int)) := by simp [World.cell?, hbx]
  have HBX := Lib.hid hbx
  clear hb hbx
  have eH := HEH.out
  go_wp2_with fail
  clear eH
  obtain ⟨n0, hn0⟩ : ∃ n0, f (y * W + x) = n0 := ⟨_, rfl⟩
  rw [hn0]
  have HN0 := Lib.hid hn0
  clear hn0 g0 k1
  go_loopw [7, 22] (fun nv it wr => ∃ r : Nat, r ≤ rH ∧ it = .int .i64 (r : Int) ∧ nv = .int .i64 (leastG f W x y rW n0 r) ∧ wr.heap[w.heap.size]? = some (.cells #[.int .i64 (W : Int), .int .i64 (H : Int), .slice (some ⟨I, 0, none⟩) n n] 58 (0, 0)) ∧ Hid (Below w.heap.size w wr)) (fun _ it _ => rH - (intOf it).toNat)
  case atStart => exact ⟨0, by omega, rfl, rfl, HBX.out, HB⟩
  case round =>
    obtain ⟨r, hr, rfl, rfl, hbx, HBr⟩ := hrel
    have k0 : wr.cell? ⟨w.heap.size, 0, none⟩ = some (.int .i64 (W : Int)) := by simp [World.cell?, hbx]
    have HBXr := Lib.hid hbx
    have hszr : w.heap.size < wr.heap.size := blk_lt hbx
    clear hbx
    by_cases hlt : r < rH
    · have eW := HEW.out
      obtain ⟨nr, hnr⟩ : ∃ nr, leastG f W x y rW n0 r = nr := ⟨_, rfl⟩
      rw [hnr]
      have HNR := Lib.hid hnr
      clear hnr
      go_wp2_with fail
      clear eW k0
      go_loopw [7, 30] (fun nv it wr => ∃ c : Nat, c ≤ rW ∧ it = .int .i64 (c : Int) ∧ nv = .int .i64 (rowM f W x (y + r) nr c) ∧ wr.heap[w.heap.size]? = some (.cells #[.int .i64 (W : Int), .int .i64 (H : Int), .slice (some ⟨I, 0, none⟩) n n] 58 (0, 0)) ∧ Hid (Below w.heap.size w wr)) (fun _ it _ => rW - (intOf it).toNat)
      case atStart => exact ⟨0, by omega, rfl, rfl, HBXr.out, HBr⟩
      case round =>
        obtain ⟨c, hcc, rfl, rfl, hbx, HBi⟩ := hrel
        by_cases hlc : c < rW
        · have k0 : wr.cell? ⟨w.heap.size, 0, none⟩ = some (.int .i64 (W : Int)) := by simp [World.cell?, hbx]
          have k1 : wr.cell? ⟨w.heap.size, 1, none⟩ = some (.int .i64 (H : Int)) := by simp [World.cell?, hbx]
          have k2 : wr.cell? ⟨w.heap.size, 2, none⟩ = some (.slice (some ⟨I, 0, none⟩) n n) := by simp [World.cell?, hbx]
          have HBXi := Lib.hid hbx
          clear hbx
          have hszi := HBi.out.size
          have hsz : w.heap.size < wr.heap.size := blk_lt HBXi.out
          go_wp2_with fail
          refine (HA.out c r _ (by omega) (by omega)).mono ?_
          rintro e w3 ⟨rfl, hb3⟩
          have HB3 : Hid (Below w.heap.size w w3) := Lib.hid (HBi.out.trans (hb3.mono HBi.out.size))
          have HBX3 := Lib.hid ((hb3.block _ hsz).trans HBXi.out)
          have g1 : w3.cell? ⟨I, ((y + r) * W + (x + c)) * 3, none⟩ = some (.int .i64 (f ((y + r) * W + (x + c)))) := (HB3.out.cell (p := ⟨I, ((y + r) * W + (x + c)) * 3, none⟩) hI).trans (HC.out _ (HIX.out _ _ (by omega) (by omega)))
          have hR : rowM f W x (y + r) nr (c + 1) = minI (rowM f W x (y + r) nr c) (f ((y + r) * W + (x + c))) := rfl
          unfold minI at hR
          have HR := Lib.hid hR
          clear hR hb3 k0 k1 k2
          generalize hV : rowM f W x (y + r) nr (c + 1) = nv' at *
          have HV := Lib.hid hV
          clear hV
          generalize rowM f W x (y + r) nr c = nv at *
          generalize f ((y + r) * W + (x + c)) = v at *
          have hR := HR.out.symm
          go_wp2
          clear hR
          go_roundw
          case rel => exact ⟨c + 1, by omega, by go_num, by rw [HV.out], HBX3.out, HB3⟩
          case measure => simp [intOf]; omega
        · obtain rfl : c = rW := by omega
          have HBXi := Lib.hid hbx
          clear hbx
          have hS : rowM f W x (y + r) nr c = leastG f W x y c n0 (r + 1) := by rw [← HNR.out]; rfl
          have HS := Lib.hid hS
          clear hS
          go_wp2
          go_roundw
          case rel => exact ⟨r + 1, by omega, by go_num, by rw [HS.out], HBXi.out, HBi⟩
          case measure => simp [intOf]; omega
    · obtain rfl : r = rH := by omega
      go_wp2
      go_ret
      exact ⟨ret_i64 (by rw [HN0.out]), HBr.out⟩
end Go.Proofs.Ythgbnkcbcepjdaa
