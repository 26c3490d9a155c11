/- Packets in order: what the laws' walks share. -/
import Derived.Test.YtejoedanhonpkaaOrK
import Derived.Test.YtejoedanhonpkaaCvMk
import Derived.Test.YtejoedanhonpkaaCvM5
import Derived.Test.YtejoedanhonpkaaCvK
import Derived.Laws.Rows
import Derived.Deep.CutRange
import Derived.Deep.CutBlock
import Derived.Deep.LoopGhost
set_option linter.unusedVariables false
set_option linter.unusedSimpArgs false
namespace Go.Proofs.Ytejoedanhonpkaa
open Go.RowKit
set_option maxRecDepth 100000
set_option maxHeartbeats 400000 in
theorem within16 (a n : Int) (w : World) (hn : 1 ≤ n) (hm : n ≤ 4611686018427387904) :
    Calls Try.prog 15 #[.int .i64 a, .int .i64 n] w fun e w' => e = .returned (.int .i64 (a % n)) ∧ w = w' := by
  have hb := within_bd a n hn
  have hk := within_key a n hn
  have HK := Lib.hid hk
  clear hk
  have h0 : ¬ n = 0 := by omega
  by_cases hc : a.tmod n < 0
  · go_enter Try.func15, Try.ntmps15
    go_wp2
    go_ret
    refine ⟨ret_i64 ?_, rfl⟩
    rw [← HK.out, if_pos (by omega)]
  · go_enter Try.func15, Try.ntmps15
    go_wp2
    go_ret
    refine ⟨ret_i64 ?_, rfl⟩
    rw [← HK.out, if_neg (by omega)]
theorem ceil_pos {a b : Int} (ha : 1 ≤ a) (hb : 1 ≤ b) : 1 ≤ ceilF a b := by
  unfold ceilF
  have e1 := Int.mul_ediv_add_emod a b
  have e2 := Int.emod_nonneg a (show b ≠ 0 by omega)
  have e3 : 0 ≤ a / b := Int.ediv_nonneg (by omega) (by omega)
  by_cases h : a / b = 0
  · rw [h, Int.mul_zero] at e1
    split <;> omega
  · split <;> omega
/-- The tiles of a made picture. -/
theorem tilesO (X Y OX OY TX TY : Int) (A2 : Option Addr) (N C2 : Nat) (h1 : 0 ≤ OX ∧ OX < X ∧ X ≤ 64) (h2 : 0 ≤ OY ∧ OY < Y ∧ Y ≤ 64) (hTX : OX < TX ∧ TX ≤ 832) (hTY : OY < TY ∧ TY ≤ 832) (hc : cntT X Y TX TY ≤ 6) :
    ∃ rs : List (Int × Int × Int × Int), (1 ≤ rs.length ∧ rs.length ≤ 6) ∧ (∀ (i : Nat) (r : Int × Int × Int × Int), rs[i]? = some r → inN r 255 ∧ Ord4 r) ∧
      ∀ (lv bw bh pr st od ly : Int) (rct sop eph : Bool) u, Calls Try.prog 12 #[.agg #[.int .i64 X, .int .i64 Y, .int .i64 OX, .int .i64 OY, .slice A2 N C2], .agg #[.int .i64 TX, .int .i64 TY, .int .i64 lv, .int .i64 bw, .int .i64 bh, .int .i64 pr, .int .i64 st, .int .i64 od, .int .i64 ly, .bool rct, .bool sop, .bool eph]] u fun e w' => ∃ A c, e = .returned (.slice A rs.length c) ∧ RcL w' w'.heap.size (.slice A rs.length c) rs ∧ Below u.heap.size u w' := by
  have bw1 := ceil_bd X TX (by omega) (by omega)
  have bw2 := ceil_bd Y TY (by omega) (by omega)
  obtain ⟨wd, hwd⟩ : ∃ wd : Nat, ceilF X TX = (wd : Int) := ⟨(ceilF X TX).toNat, by omega⟩
  obtain ⟨ht, hht⟩ : ∃ ht : Nat, ceilF Y TY = (ht : Int) := ⟨(ceilF Y TY).toNat, by omega⟩
  have hl : (rtls X Y OX OY TX TY wd ht).length = ht * wd := by
    generalize ht = m
    induction m with
    | zero => simp [rtls]
    | succ m ih => rw [rtls_succ, List.length_append, ih, Nat.succ_mul]; simp [rrow]
  have hp : 1 ≤ wd ∧ 1 ≤ ht := by
    have q1 := ceil_pos (a := X) (b := TX) (by omega) (by omega)
    have q2 := ceil_pos (a := Y) (b := TY) (by omega) (by omega)
    omega
  unfold cntT at hc
  rw [hwd, hht, Int.toNat_natCast, Int.toNat_natCast] at hc
  refine ⟨rtls X Y OX OY TX TY wd ht, by rw [hl]; exact ⟨Nat.mul_pos hp.2 hp.1, hc⟩, fun i r hr => tile_in h1 h2 hTX.1 hTY.1 hwd hht r (List.mem_of_getElem? hr), fun lv bw bh pr st od ly rct sop eph u => ?_⟩
  refine (rtiles_any X Y OX OY A2 N C2 TX TY lv bw bh pr st od ly rct sop eph wd ht u (by omega) (by omega) (by omega) (by omega) hwd hht).mono ?_
  rintro e w' ⟨A, c, he, ho, hb⟩
  rw [hl]
  exact ⟨A, c, he, RcL.own ho hl, hb⟩
end Go.Proofs.Ytejoedanhonpkaa
