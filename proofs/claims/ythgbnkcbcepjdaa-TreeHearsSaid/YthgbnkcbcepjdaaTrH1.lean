/- The reference's tree: New. -/
import Derived.Test.YthgbnkcbcepjdaaTrH0
import Derived.Test.YthgbnkcbcepjdaaApps
import Derived.Deep.LoopGhost
set_option linter.unusedVariables false
set_option linter.unusedSimpArgs false
namespace Go.Proofs.Ythgbnkcbcepjdaa
open Go.RowKit
attribute [local go_sem ↓] appSem_eq
set_option maxRecDepth 100000
theorem app_node {w : World} {base m z : Nat} {v : Value} {xs : List Value} {u : Int} (hown : w.ownsRow base 66 4 v m xs) (hz : w.heap[z]? = some (.cells #[.int .i64 0, .int .i64 0, .bool false, .int .i64 u] 66 (0, 0))) (hb : base ≤ w.heap.size) (hm : m ≤ 100000) :
    ∃ v' w', (appSem #[62, 62] 62 #[v, .slice (some ⟨z, 0, none⟩) 1 1]).run Try.prog w = .ok v' w' ∧ w'.ownsRow base 66 4 v' (m + 1) (xs ++ node1 u) ∧ w.grownBy w' v.ownBlock ∧ (v'.ownBlock = v.ownBlock ∨ v'.ownBlock = some w.heap.size) := by
  have hinfo : (Try.prog.info? 66).map (fun i => (i.zero, i.size, i.bytes)) = some (some (.agg #[.int .i64 0, .int .i64 0, .bool false, .int .i64 0]), 4, 32) := by kernel_rfl
  obtain ⟨i0, hi, hzz⟩ := Option.map_eq_some_iff.1 hinfo
  simp only [Prod.mk.injEq] at hzz
  obtain ⟨hz0, hz1, hz2⟩ := hzz
  obtain ⟨v', w', hr, hown', hg, _, hat⟩ := run_append_own_at (P := Try.prog) w base 62 62 66 i0 _ 4 32 (by kernel_rfl) hi hz0 hz1 hz2 rfl (by decide) v m xs hown ⟨z, 0, none⟩ 1 1 (node1 u) rfl (fun j u hu => by
    rcases j with _ | _ | _ | _ | j
    · simp [node1] at hu; subst hu; simp [World.cell?, Addr.add, hz]
    · simp [node1] at hu; subst hu; simp [World.cell?, Addr.add, hz]
    · simp [node1] at hu; subst hu; simp [World.cell?, Addr.add, hz]
    · simp [node1] at hu; subst hu; simp [World.cell?, Addr.add, hz]
    · simp [node1] at hu) (fun u hu => by
    simp [node1] at hu
    rcases hu with rfl | rfl | rfl | rfl <;> rfl) (by unfold maxLen; omega) (by omega) hb
  exact ⟨v', w', hr, hown', hg, hat⟩
theorem dimF_64 (W i : Nat) (hW : W ≤ 64) : dimF W i ≤ 64 := by
  induction i with
  | zero => exact hW
  | succ i ih => show (dimF W i + 1) / 2 ≤ 64; omega
theorem off_le (W H i : Nat) (hW : W ≤ 64) (hH : H ≤ 64) : offF W H i ≤ i * 4096 := by
  induction i with
  | zero => exact Nat.le_refl _
  | succ i ih =>
    have h1 : cntF W H i ≤ 64 * 64 := by
      have a : dimF W i ≤ 64 := dimF_64 W i hW
      have b : dimF H i ≤ 64 := dimF_64 H i hH
      exact Nat.mul_le_mul a b
    show offF W H i + cntF W H i ≤ (i + 1) * 4096
    omega
/-- The tree while it grows: n nodes so far. -/
structure RG (w0 w : World) (q : Nat) (lv : Int) (g : Nat → Int) (V U : Value) (n k : Nat) : Prop where
  tp : w.heap[q]? = some (.cells #[V, .int .i64 lv, .bool false] 64 (0, 0))
  ow : w.ownsRow (w0.heap.size) 66 4 U k (nodeL g k)
  bel : Below w0.heap.size w0 w
  hq : w0.heap.size ≤ q
section
variable {w0 w w' : World} {q n k : Nat} {lv : Int} {g : Nat → Int} {V U : Value}
theorem RG.ne (h : RG w0 w q lv g V U n k) : U.ownBlock ≠ some q := by
  rcases h.ow.2 with ⟨rfl, _⟩ | ⟨b, cap, cur, rfl, _, hgb, _⟩
  · simp [Value.ownBlock]
  · intro e'
    obtain rfl : b = q := by simpa [Value.ownBlock] using e'
    rw [h.tp] at hgb
    simp at hgb
theorem RG.alloc (h : RG w0 w q lv g V U n k) (o : Obj) : RG w0 (w.alloc o) q lv g V U n k :=
  ⟨(Below.heap_alloc _ _ _ (blk_lt h.tp)).trans h.tp, h.ow.alloc o, h.bel.alloc h.bel.size o, h.hq⟩
theorem RG.drewN (h : RG w0 w q lv g V U n k) (m : Nat) : RG w0 (w.drewN m) q lv g V U n k := ⟨h.tp, h.ow, below_drewN h.bel m, h.hq⟩
theorem RG.grown (h : RG w0 w q lv g V U n k) {U2 : Value} (hg : w.grownBy w' U.ownBlock) (ho : w'.ownsRow w0.heap.size 66 4 U2 (k + 1) (nodeL g k ++ node1 (g k))) : RG w0 w' q lv g V U2 n (k + 1) :=
  ⟨(hg.block _ (blk_lt h.tp) (fun e => h.ne e.symm)).trans h.tp, ho, h.bel.grown hg h.bel.size (fun j e => (own_lt h.ow e).1), h.hq⟩
theorem RG.setm (h : RG w0 w q lv g V U n k) : RG w0 (w.setCell ⟨q, 0, none⟩ U) q lv g U U n k := by
  refine ⟨?_, ownsRow_keep h.ow (by simp [World.setCell]) (fun j e => Below.heap_setCell _ _ _ _ (by intro e'; exact h.ne (by rw [e, show j = q from e']))), h.bel.setCell (p := ⟨q, 0, none⟩) h.hq _, h.hq⟩
  simp [World.setCell, Array.getElem?_modify, h.tp]
theorem RG.cells (h : RG w0 w q lv g V U n k) : w.cell? ⟨q, 0, none⟩ = some V ∧ w.cell? ⟨q, 1, none⟩ = some (.int .i64 lv) ∧ ∀ o, w.frozen? ⟨q, o, none⟩ = false := by
  have := h.tp
  exact ⟨by simp [World.cell?, this], by simp [World.cell?, this], fun o => by simp [World.frozen?, this]⟩
theorem RG.rtr {W H d L cap m : Nat} (h : RG w0 w q (m : Int) (upN W H d) (.slice (some ⟨L, 0, none⟩) k cap) (.slice (some ⟨L, 0, none⟩) k cap) n k) (hm : W * H = m) (hk : offF W H d = k) : RTr w q L k cap W H d false T0 := by
  have hne := h.ne
  have hql : q ≠ L := fun e => hne (by rw [e]; rfl)
  refine ⟨by rw [hm]; exact h.tp, ?_, hk.symm, hql⟩
  rcases h.ow.2 with ⟨h0, _⟩ | ⟨b, c, cur, hv, _, hgb, _, _, _, htake⟩
  · cases h0
  · injection hv with hv1 _ _
    injection hv1 with hv1
    injection hv1 with hv1 _ _
    subst hv1
    refine ⟨cur, hgb, fun i j hi hj => ?_⟩
    have hlt := off_lt hi hj
    rw [hk] at hlt
    have hget : ∀ o, o < k * 4 → cur[o]? = (nodeL (upN W H d) k)[o]? := fun o ho => by
      rw [← htake, List.getElem?_take, if_pos ho, Array.getElem?_toList]
    obtain ⟨g0, g1, g2, g3⟩ := nodeL_get (upN W H d) k (offF W H i + j) hlt
    rw [upN_at W H d i j hi hj] at g3
    refine ⟨(hget _ (by omega)).trans g0, (hget _ (by omega)).trans g1, (hget _ (by omega)).trans g2, (hget _ (by omega)).trans g3⟩
end
set_option maxHeartbeats 4000000 in
set_option pp.deepTerms true in
set_option pp.maxSteps 10000000 in
theorem rtnew_any (W H d : Nat) (w : World) (hW : 1 ≤ W ∧ W ≤ 64) (hH : 1 ≤ H ∧ H ≤ 64) (hd : 1 ≤ d ∧ d ≤ 8) (htop : dimF W (d - 1) = 1 ∧ dimF H (d - 1) = 1) (hmid : ∀ i, i + 1 < d → 1 < dimF W i ∨ 1 < dimF H i) :
    Calls Try.prog 11 #[.int .i64 (W : Int), .int .i64 (H : Int)] w fun e w' => ∃ q L tot cap, e = .returned (.pointer (some ⟨q, 0, none⟩)) ∧ RTr w' q L tot cap W H d false T0 ∧ w.heap.size ≤ q ∧ w.heap.size ≤ L ∧ Below w.heap.size w w' := by
  have hm0 : ¬ (W : Int) < 0 ∧ ¬ (H : Int) < 0 := by omega
  have hm1 : (0 : Int) < W ∧ (0 : Int) < H := by omega
  have hWH : 1 ≤ W * H ∧ W * H ≤ 4096 := ⟨Nat.mul_pos hW.1 hH.1, Nat.mul_le_mul hW.2 hH.2⟩
  obtain ⟨N, hN⟩ : ∃ N : Nat, W * H = N := ⟨_, rfl⟩
  have hwm : wrap64 ((W : Int) * (H : Int)) = (N : Int) := by rw [wr_mul W H (by omega) (by omega), hN]
  rw [hN] at hWH
  have hne : ¬ (N : Int) = 0 := by omega
  have hNI : (W : Int) * (H : Int) = (N : Int) := by rw [← hN]; simp
  go_enter Try.func11, Try.ntmps11
  go_wp2_with fail
  obtain ⟨q, hq⟩ : ∃ q, w.heap.size = q := ⟨_, rfl⟩
  obtain ⟨W0, hW0⟩ : ∃ W0, w.alloc (Obj.cells #[.slice none 0 0, .int .i64 (N : Int), .bool false] 64) = W0 := ⟨_, rfl⟩
  have G0 : Hid (RG w W0 q N (upN W H d) (.slice none 0 0) (.slice none 0 0) 0 0) := Lib.hid (by
    rw [← hW0, ← hq]
    exact ⟨World.alloc_heap_new w _, World.ownsRow_nil _ _ _ _, (Below.refl _ w).alloc (Nat.le_refl _) _, Nat.le_refl _⟩)
  rw [hW0, hq]
  have HNW := Lib.hid hN
  clear hW0 hwm hm0 hm1 hN hNI
  go_loopg [6, 7, 8] d (fun g v6 v7 v8 wr => ∃ (i : Nat) (V : Value), i + g = d ∧ i < d ∧ v6 = .int .i64 (dimF W i : Int) ∧ v7 = .int .i64 (dimF H i : Int) ∧ v8 = .int .i64 (offF W H i : Int) ∧ RG w wr q N (upN W H d) V V 0 (offF W H i))
  case atStart => exact ⟨0, _, by omega, by omega, rfl, rfl, rfl, G0.out⟩
  case round =>
    obtain ⟨i, V, hig, hid, rfl, rfl, rfl, hG⟩ := hrel
    have HG := Lib.hid hG
    obtain ⟨g0, rfl⟩ : ∃ g0, gk = g0 + 1 := ⟨gk - 1, by omega⟩
    clear hG G0
    have hwi := dimF_le W i hW.1
    have hhi := dimF_le H i hH.1
    obtain ⟨a, ha⟩ : ∃ a, dimF W i = a := ⟨_, rfl⟩
    obtain ⟨b, hb⟩ : ∃ b, dimF H i = b := ⟨_, rfl⟩
    obtain ⟨z, hz⟩ : ∃ z, offF W H i = z := ⟨_, rfl⟩
    have hcnt : cntF W H i = a * b := by unfold cntF; rw [ha, hb]
    have hzs : offF W H (i + 1) = z + a * b := by rw [← hz, ← hcnt]; rfl
    have hz2 : z ≤ i * 4096 := by rw [← hz]; exact off_le W H i hW.2 hH.2
    have hda : dimF W (i + 1) = (a + 1) / 2 := by rw [← ha]; rfl
    have hdb : dimF H (i + 1) = (b + 1) / 2 := by rw [← hb]; rfl
    rw [ha] at hwi
    rw [hb] at hhi
    rw [ha, hb, hz]
    rw [hz] at HG
    obtain ⟨n, hn⟩ : ∃ n, a * b = n := ⟨_, rfl⟩
    have hnI : (a : Int) * (b : Int) = (n : Int) := by rw [← hn]; simp
    have hnb : 1 ≤ n ∧ n ≤ 4096 := by rw [← hn]; exact ⟨Nat.mul_pos hwi.1 hhi.1, Nat.le_trans (Nat.mul_le_mul (by omega : a ≤ 64) (by omega : b ≤ 64)) (by decide)⟩
    have hone : n = 1 ↔ i + 1 = d := by
      constructor
      · intro h1
        rcases Nat.lt_or_ge (i + 1) d with h2 | h2
        · have h3 := hmid i h2
          rw [ha, hb] at h3
          rw [h1] at hn
          have h4 : a = 1 := Nat.eq_one_of_mul_eq_one_right hn
          have h5 : b = 1 := Nat.eq_one_of_mul_eq_one_left hn
          omega
        · omega
      · intro h1
        rw [show d - 1 = i by omega, ha, hb] at htop
        rw [← hn, htop.1, htop.2]
    have HO := Lib.hid hone
    obtain ⟨nx, hnx⟩ : ∃ nx : Nat, (z : Int) + (n : Int) = (nx : Int) := ⟨z + n, by simp⟩
    clear hone
    have HA := Lib.hid (And.intro ha (And.intro hb (And.intro hz (And.intro hcnt (And.intro hzs (And.intro hda (And.intro hdb hn)))))))
    clear ha hb hz hcnt hzs hda hdb hn
    go_wp2_with fail
    go_loopg [10] n (fun g v wr => ∃ (k : Nat) (V : Value), k + g = n ∧ v = .int .i64 (k : Int) ∧ RG w wr q N (upN W H d) V V 0 (z + k))
    case atStart => exact ⟨0, V, by omega, rfl, HG.out⟩
    case round =>
      obtain ⟨k, V, hkg, rfl, hG⟩ := hrel
      have HG := Lib.hid hG
      clear hG
      by_cases hlt : k < n
      · have hlt' : (k : Int) < (n : Int) := by omega
        have hzk : z + k ≤ 100000 := by omega
        obtain ⟨g1, rfl⟩ : ∃ g1, gk = g1 + 1 := ⟨gk - 1, by omega⟩
        by_cases h1 : n = 1
        · have hid1 := HO.out.1 h1
          have hn1 : ¬ (1 : Int) < (n : Int) := by omega
          have hup : (-1 : Int) = upN W H d (z + k) := by
            have := upN_at W H d i k hid (by rw [HA.out.2.2.2.1, HA.out.2.2.2.2.2.2.2]; exact hlt)
            rw [HA.out.2.2.1] at this
            rw [this]
            unfold upI
            rw [if_pos hid1]
          have hA1 := app_node (w := wr.alloc (Obj.cells #[.int .i64 0, .int .i64 0, .bool false, .int .i64 (-1)] 66)) (z := wr.heap.size) (u := (-1)) (HG.out.alloc _).ow (World.alloc_heap_new wr _) (by have := HG.out.bel.size; simp; omega) (by omega)
          obtain ⟨U2, w2, hr, ho, hg, _⟩ := hA1
          obtain ⟨gb, cc, rfl, _, _, _, _⟩ := own_form ho (by omega)
          rw [hup] at ho
          have HG2 := Lib.hid (((HG.out.alloc (Obj.cells #[.int .i64 0, .int .i64 0, .bool false, .int .i64 (-1)] 66)).grown hg ho).setm)
          obtain ⟨c0, c1, cf⟩ := (HG.out.alloc (Obj.cells #[.int .i64 0, .int .i64 0, .bool false, .int .i64 (-1)] 66)).cells
          obtain ⟨d0, d1, df⟩ := ((HG.out.alloc (Obj.cells #[.int .i64 0, .int .i64 0, .bool false, .int .i64 (-1)] 66)).grown hg ho).cells
          obtain ⟨b0, b1, bf⟩ := HG.out.cells
          clear hg ho hup
          clear h1
          go_wp2_with fail
          go_roundg g1
          case rel => exact ⟨k + 1, _, by omega, by go_num, by rw [← Nat.add_assoc]; exact HG2.out⟩
          case measure => omega
        · have hid1 : ¬ i + 1 = d := fun e => h1 (HO.out.2 e)
          have hn1 : (1 : Int) < (n : Int) := by omega
          obtain ⟨p, hp⟩ : ∃ p, k / a = p := ⟨_, rfl⟩
          obtain ⟨p2, hp2⟩ : ∃ p2, p / 2 = p2 := ⟨_, rfl⟩
          obtain ⟨m, hm⟩ : ∃ m, k % a = m := ⟨_, rfl⟩
          obtain ⟨m2, hm2⟩ : ∃ m2, m / 2 = m2 := ⟨_, rfl⟩
          obtain ⟨c, hc⟩ : ∃ c, (a + 1) / 2 = c := ⟨_, rfl⟩
          obtain ⟨pc, hpc⟩ : ∃ pc, p2 * c = pc := ⟨_, rfl⟩
          have hpk : p ≤ k := by rw [← hp]; exact Nat.div_le_self _ _
          have hmk : m ≤ k := by rw [← hm]; exact Nat.mod_le _ _
          have hpcb : pc ≤ 4096 * 64 := by rw [← hpc]; exact Nat.mul_le_mul (by omega) (by omega)
          have hup : ((nx : Int) + (pc : Int) + (m2 : Int)) = upN W H d (z + k) := by
            have := upN_at W H d i k hid (by rw [HA.out.2.2.2.1, HA.out.2.2.2.2.2.2.2]; exact hlt)
            rw [HA.out.2.2.1] at this
            rw [this]
            unfold upI
            rw [if_neg hid1, HA.out.2.2.2.2.1, HA.out.1, HA.out.2.2.2.2.2.1, hp, hp2, hm, hm2, hc, hpc, HA.out.2.2.2.2.2.2.2]
            omega
          have hane : ¬ (a : Int) = 0 := by omega
          have s1 : IntKind.i64.wrap ((k : Int).tdiv (a : Int)) = (p : Int) := by rw [IntWalk.i64_quo _ _ (by omega), ← hp]; simp
          have s2 : IntKind.i64.wrap ((p : Int).tdiv 2) = (p2 : Int) := by rw [IntWalk.i64_quo _ _ (by omega)]; omega
          have s3 : IntKind.i64.wrap ((a : Int) + 1) = (a : Int) + 1 := IntWalk.i64_in _ (by omega)
          have s4 : IntKind.i64.wrap (((a : Int) + 1).tdiv 2) = (c : Int) := by rw [IntWalk.i64_quo _ _ (by omega)]; omega
          have s5 : IntKind.i64.wrap ((p2 : Int) * (c : Int)) = (pc : Int) := by rw [show (p2 : Int) * (c : Int) = (pc : Int) by rw [← hpc]; simp]; exact IntWalk.i64_in _ (by omega)
          have s6 : IntKind.i64.wrap ((nx : Int) + (pc : Int)) = (nx : Int) + (pc : Int) := IntWalk.i64_in _ (by omega)
          have s7 : (k : Int).tmod (a : Int) = (m : Int) := by rw [IntWalk.rem_in _ _ (by omega), ← hm]; simp
          have s8 : IntKind.i64.wrap ((m : Int).tdiv 2) = (m2 : Int) := by rw [IntWalk.i64_quo _ _ (by omega)]; omega
          have s9 : IntKind.i64.wrap ((nx : Int) + (pc : Int) + (m2 : Int)) = (nx : Int) + (pc : Int) + (m2 : Int) := IntWalk.i64_in _ (by omega)
          obtain ⟨uv, huv⟩ : ∃ uv : Int, (nx : Int) + (pc : Int) + (m2 : Int) = uv := ⟨_, rfl⟩
          rw [huv] at hup
          have HUV := Lib.hid huv
          have r1 : (k : Int) / (a : Int) = (p : Int) := by rw [← hp]; simp
          have r2 : (p : Int) / 2 = (p2 : Int) := by omega
          have r3 : (m : Int) / 2 = (m2 : Int) := by omega
          have r4 : (p2 : Int) * (c : Int) = (pc : Int) := by rw [← hpc]; simp
          have HUP := Lib.hid hup
          clear hp hp2 hm hm2 hc hpc h1 hup huv
          go_wp2_with fail
          go_quiet (fail)
          rw [HUV.out]
          have hup := HUP.out
          clear s1 s2 s3 s4 s5 s6 s7 s8 s9 r1 r2 r3 r4
          obtain ⟨wq, hwq⟩ : ∃ wq, wr.drewN nq = wq := ⟨_, rfl⟩
          have HG : Hid (RG w wq q N (upN W H d) V V 0 (z + k)) := Lib.hid (by rw [← hwq]; exact HG.out.drewN nq)
          rw [hwq]
          clear hwq
          have hA1 := app_node (w := wq.alloc (Obj.cells #[.int .i64 0, .int .i64 0, .bool false, .int .i64 uv] 66)) (z := wq.heap.size) (u := uv) (HG.out.alloc _).ow (World.alloc_heap_new wq _) (by have := HG.out.bel.size; simp; omega) (by omega)
          obtain ⟨U2, w2, hr, ho, hg, _⟩ := hA1
          obtain ⟨gb, cc, rfl, _, _, _, _⟩ := own_form ho (by omega)
          rw [hup] at ho
          have HG2 := Lib.hid (((HG.out.alloc (Obj.cells #[.int .i64 0, .int .i64 0, .bool false, .int .i64 uv] 66)).grown hg ho).setm)
          obtain ⟨c0, c1, cf⟩ := (HG.out.alloc (Obj.cells #[.int .i64 0, .int .i64 0, .bool false, .int .i64 uv] 66)).cells
          obtain ⟨d0, d1, df⟩ := ((HG.out.alloc (Obj.cells #[.int .i64 0, .int .i64 0, .bool false, .int .i64 uv] 66)).grown hg ho).cells
          obtain ⟨b0, b1, bf⟩ := HG.out.cells
          clear hg ho hup
          go_wp2_with fail
          go_roundg g1
          case rel => exact ⟨k + 1, _, by omega, by go_num, by rw [← Nat.add_assoc]; exact HG2.out⟩
          case measure => omega
      · obtain rfl : k = n := by omega
        have hnlt : ¬ (k : Int) < (k : Int) := by omega
        obtain ⟨L, cap, rfl, hL1, hL2, _, _⟩ := own_form HG.out.ow (by omega)
        have hoff : offF W H (i + 1) = z + k := by rw [HA.out.2.2.2.2.1, HA.out.2.2.2.2.2.2.2]
        have hkI : (k : Int) = (k : Int) := rfl
        by_cases h1 : k = 1
        · have hid1 := HO.out.1 h1
          have hk1 : (k : Int) = 1 := by omega
          have HR := Lib.hid (HG.out.rtr (W := W) (H := H) (d := d) HNW.out (by rw [← hid1, hoff]))
          have HB := Lib.hid HG.out.bel
          have hqq := HG.out.hq
          subst h1
          go_wp2_with fail
          exact bodyPost_ret (v := .pointer (some ⟨q, 0, none⟩)) (by simp [results, Try.results11, go_sem]) rfl ⟨q, rfl, L, ⟨_, cap, HR.out⟩, by omega, by omega, by have := HB.out; simpa [hq] using this⟩
        · have hid1 : ¬ i + 1 = d := fun e => h1 (HO.out.2 e)
          have hk1 : ((k : Int) == 1) = false := by simp; omega
          have hk2 : ¬ (k : Int) = 1 := by omega
          have r1 : ((a : Int) + 1) / 2 = ((dimF W (i + 1) : Nat) : Int) := by rw [HA.out.2.2.2.2.2.1]; omega
          have r2 : ((b : Int) + 1) / 2 = ((dimF H (i + 1) : Nat) : Int) := by rw [HA.out.2.2.2.2.2.2.1]; omega
          have hda := dimF_64 W (i + 1) hW.2
          have hdb := dimF_64 H (i + 1) hH.2
          clear h1
          go_wp2_with fail
          go_roundg g0
          case rel => exact ⟨i + 1, _, by omega, by omega, rfl, rfl, by rw [hoff]; go_num, by rw [hoff]; exact HG.out⟩
          case measure => omega
end Go.Proofs.Ythgbnkcbcepjdaa
