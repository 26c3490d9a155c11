/- Trees: what was encoded is decoded (TreeBack). -/
import Derived.Test.YthgbnkcbcepjdaaTrBk0
set_option linter.unusedVariables false
set_option linter.unusedSimpArgs false
namespace Go.Proofs.Ythgbnkcbcepjdaa
open Go.RowKit
set_option maxRecDepth 100000
theorem hmkI (u : World) (q : Nat) (hq : q ≤ 5000) : (Instr.makeSlice 23 (.int .i64 (q : Int)) (.int .i64 (q : Int))).run Try.prog u = .ok (.slice (some ⟨u.heap.size, 0, none⟩) q q) (u.alloc (.cells (madeCells #[.int .i64 0] q) 3)) := by
  have Try.info9 : (Try.prog.info? 3).map (fun i => (i.zero, i.size, i.bytes)) = some (some (.int .i64 0), 1, 8) := by kernel_rfl
  obtain ⟨i, hi, hzz⟩ := Option.map_eq_some_iff.1 Try.info9
  simp only [Prod.mk.injEq] at hzz
  obtain ⟨hz, hs, hb⟩ := hzz
  have hr := run_make (P := Try.prog) u 23 3 i (.int .i64 0) (by kernel_rfl) hi hz .i64 .i64 q q (by omega) (Int.le_refl _) (by rw [hb]; omega) (by omega)
  simp only [Int.toNat_natCast, hs, Nat.mul_one] at hr
  exact hr
theorem made_get (n m : Nat) (hm : m < n) : (madeCells #[.int .i64 0] n)[m]? = some (.int .i64 ((0 : Nat) : Int)) := by
  simp only [madeCells, Array.getElem?_map]
  rw [show (Array.range n)[m]? = some m by rw [Array.getElem?_range]; simp; omega]
  simp only [Option.map_some]
  rw [show m % (#[Value.int .i64 0] : Array Value).size = 0 by show m % 1 = 0; omega]; rfl
def mn3 (a b : Nat) : Nat := if 60 < (if b < a then b else a) then 60 else (if b < a then b else a)
theorem mn3_eq (ats : Array TypeId) (ty : TypeId) (a b : Nat) : Builtin.min_ ats ty #[.int .i64 (a : Int), .int .i64 (b : Int), .int .i64 60] = pure (.int .i64 (mn3 a b : Int)) := by
  have h1 : Builtin.min2 (.int .i64 (a : Int)) (.int .i64 (b : Int)) = pure (.int .i64 ((if b < a then b else a : Nat) : Int)) := by
    show (pure (Value.int IntKind.i64 (if (b : Int) < (a : Int) then (b : Int) else (a : Int))) : Sem Value) = _
    have e : (if (b : Int) < (a : Int) then (b : Int) else (a : Int)) = ((if b < a then b else a : Nat) : Int) := by split <;> split <;> omega
    rw [e]
  have h2 : ∀ c : Nat, Builtin.min2 (.int .i64 (c : Int)) (.int .i64 60) = pure (.int .i64 ((if 60 < c then 60 else c : Nat) : Int)) := by
    intro c
    show (pure (Value.int IntKind.i64 (if (60 : Int) < (c : Int) then (60 : Int) else (c : Int))) : Sem Value) = _
    have e : (if (60 : Int) < (c : Int) then (60 : Int) else (c : Int)) = ((if 60 < c then 60 else c : Nat) : Int) := by split <;> split <;> omega
    rw [e]
  unfold Builtin.min_
  show (Builtin.min2 _ _ >>= fun x => Builtin.min2 x _ >>= fun y => pure y) = _
  rw [h1, pure_bind, h2]
  rfl
theorem some13v (a : Int) (n v : Nat) (w : World) (hn : 1 ≤ n) (hm : n ≤ 100000) (hv : modN a n = v) :
    Calls Try.prog 9 #[.int .i64 a, .int .i64 (n : Int)] w fun e w' => e = .returned (.int .i64 (v : Int)) ∧ w = w' := by
  rw [← hv]
  exact some13 a n w hn hm
attribute [local go_sem ↓ high] mn3_eq
theorem TrO.pos {o : Nat → Nat} {j : Nat} {w : World} {p W H d : Nat} {T : TT} (h : TrO o j w p W H d T) : 1 ≤ d := by
  obtain ⟨L, cl, sh, _, h2, rfl, _⟩ := h
  exact h2.len.1
theorem row_cell {w w' : World} {b f len cap k : Nat} {zs : List Int} (h : IsRow .i64 w (some ⟨b, f, none⟩) len cap zs) (hk : k < len) (hb : Below w.heap.size w w') : w'.cell? ⟨b, f + k, none⟩ = some (.int .i64 (zs.getD k 0)) := by
  obtain ⟨b', f', e, hc⟩ := row_at h hk hb
  cases e
  exact hc
theorem row_some {w : World} {a : Option Addr} {len cap : Nat} {zs : List Int} (h : IsRow .i64 w a len cap zs) (hl : 0 < len) : ∃ b f, a = some ⟨b, f, none⟩ := by
  obtain ⟨b', f', e, hc⟩ := row_at h hl (Below.refl _ w)
  exact ⟨b', f', e⟩

set_option maxHeartbeats 16000000 in
set_option pp.deepTerms true in
set_option pp.maxSteps 10000000 in
theorem walk_treeBack (a0 : Int) (a1 : Int) (a2 : Option Addr) (len2 cap2 : Nat) (z2 : List Int) (a3 : Option Addr) (len3 cap3 : Nat) (z3 : List Int) (a4 : Option Addr) (len4 cap4 : Nat) (z4 : List Int) (w : World) (w0 : (Lit.int .i64 a0).wf = true) (w1 : (Lit.int .i64 a1).wf = true) (w2 : IsRow .i64 w a2 len2 cap2 z2) (w3 : IsRow .i64 w a3 len3 cap3 z3) (w4 : IsRow .i64 w a4 len4 cap4 z4) :
    Calls Try.prog 4 #[.int .i64 a0, .int .i64 a1, .slice a2 len2 cap2, .slice a3 len3 cap3, .slice a4 len4 cap4] w fun e w' => e = .returned (.bool true) ∧ Below w.heap.size w w' := by
  have hb2 := row_len w2
  have hb3 := row_len w3
  have hb4 := row_len w4
  have hm2 : len2 ≤ 9223372036854775807 := by have := hb2.2.2.1; unfold maxLen at this; omega
  have hm3 : len3 ≤ 9223372036854775807 := by have := hb3.2.2.1; unfold maxLen at this; omega
  have hm4 : len4 ≤ 9223372036854775807 := by have := hb4.2.2.1; unfold maxLen at this; omega
  have hc2 := hb2.2.1
  have hc3 := hb3.2.1
  have hc4 := hb4.2.1
  have R2 := Lib.hid w2
  have R3 := Lib.hid w3
  have R4 := Lib.hid w4
  have hbd0 := bd_i64 w0
  have hbd1 := bd_i64 w1
  clear w0 w1 w2 w3 w4 hb2 hb3 hb4
  have K := Lib.hid (fun u => known13 u)
  go_enter Try.func4, Try.ntmps4
  go_wp2_with fail
  refine (K.out _).mono ?_
  rintro e u0 ⟨rfl, hb⟩
  have HB := Lib.hid hb
  clear hb K
  go_wp2_with fail
  refine (some13 _ 8 _ (by omega) (by omega)).mono ?_
  rintro e w' ⟨rfl, rfl⟩
  obtain ⟨m0, hm0⟩ : ∃ m0 : Nat, modN a0 8 = m0 := ⟨_, rfl⟩
  have hm08 : m0 < 8 := by rw [← hm0]; exact (modN_lt a0 8 (by omega)).1
  rw [hm0]
  clear hm0
  obtain ⟨W, hW⟩ : ∃ W : Nat, (1 : Int) + (m0 : Int) = (W : Int) := ⟨1 + m0, by omega⟩
  have hW8 : 1 ≤ W ∧ W ≤ 8 := by omega
  go_wp2_with fail
  clear hm08
  refine (some13 _ 8 _ (by omega) (by omega)).mono ?_
  rintro e w' ⟨rfl, rfl⟩
  obtain ⟨m1, hm1⟩ : ∃ m1 : Nat, modN a1 8 = m1 := ⟨_, rfl⟩
  have hm18 : m1 < 8 := by rw [← hm1]; exact (modN_lt a1 8 (by omega)).1
  rw [hm1]
  clear hm1
  obtain ⟨H, hH⟩ : ∃ H : Nat, (1 : Int) + (m1 : Int) = (H : Int) := ⟨1 + m1, by omega⟩
  have hH8 : 1 ≤ H ∧ H ≤ 8 := by omega
  go_wp2_with fail
  clear hW hH hm18
  refine (new_o (fun _ => 0) 1 W H u0 (by omega) (by omega)).mono ?_
  rintro e u1 ⟨pt, d, rfl, hT1, hb1, hd8⟩
  have HT1 := Lib.hid hT1
  have HB1 := Lib.hid (HB.out.trans (hb1.mono HB.out.size))
  have HO1 := Lib.hid ((Bs.zero w.heap.size).new HB.out.size 1)
  clear hT1 hb1 HB
  obtain ⟨o1, ho1⟩ : ∃ o1, onew (fun _ => 0) u0 1 = o1 := ⟨_, rfl⟩
  rw [ho1] at HT1 HO1
  clear ho1
  go_wp2_with fail
  refine (new_o o1 2 W H u1 (by omega) (by omega)).mono ?_
  rintro e u2 ⟨pu, d2, rfl, hT2, hb2, hd82⟩
  have HU2 := Lib.hid hT2
  have HT2 := Lib.hid (HT1.out.below hb2 (onew_old o1 u1 2))
  have HB2 := Lib.hid (HB1.out.trans (hb2.mono HB1.out.size))
  have HO2 := Lib.hid (HO1.out.new HB1.out.size 2)
  clear hT2 hb2 HB1 HO1 HT1 hd82
  obtain ⟨o2, ho2⟩ : ∃ o2, onew o1 u1 2 = o2 := ⟨_, rfl⟩
  rw [ho2] at HT2 HO2 HU2
  clear ho2
  obtain rfl := HT2.out.same_d HU2.out
  obtain ⟨N, hN⟩ : ∃ N, W * H = N := ⟨_, rfl⟩
  have hN64 : 1 ≤ N ∧ N ≤ 64 := by
    have h1 : W * H ≤ 8 * 8 := Nat.mul_le_mul hW8.2 hH8.2
    have h2 : 1 * 1 ≤ W * H := Nat.mul_le_mul hW8.1 hH8.1
    omega
  have hNi : (W : Int) * (H : Int) = (N : Int) := by rw [← hN]; simp
  have HN := Lib.hid hN
  clear hN
  have mk := fun u => hmkI u N (by omega)
  have hd1 := HT2.out.pos
  go_wp2_with fail
  clear mk hNi
  have hsz2 : HB2.out.size = HB2.out.size := rfl
  clear hsz2
  obtain ⟨sb, hsb⟩ : ∃ sb, u2.heap.size = sb := ⟨_, rfl⟩
  have hal : Below u2.heap.size u2 (u2.alloc (Obj.cells (madeCells #[.int .i64 0] N) 3)) := (Below.refl _ u2).alloc (Nat.le_refl _) _
  have hnw := World.alloc_heap_new u2 (Obj.cells (madeCells #[.int .i64 0] N) 3)
  have hA3 : BkA (onew o2 u2 3) w (u2.alloc (Obj.cells (madeCells #[.int .i64 0] N) 3)) pt pu W H d sb T0 T0 (fun _ => 0) :=
    ⟨HT2.out.below hal (onew_old o2 u2 3), HU2.out.below hal (onew_old o2 u2 3), ⟨_, by rw [← hsb]; exact hnw, by simp [madeCells, HN.out], fun k hk => made_get N k (by rw [← HN.out]; exact hk), by rw [← hsb]; exact onew_new o2 u2 3 (Nat.le_refl _)⟩, HO2.out.new HB2.out.size 3, HB2.out.trans (hal.mono HB2.out.size)⟩
  have HA3 := Lib.hid hA3
  clear hA3 hnw hal
  obtain ⟨u3, hu3⟩ : ∃ u3, u2.alloc (Obj.cells (madeCells #[.int .i64 0] N) 3) = u3 := ⟨_, rfl⟩
  rw [hu3] at HA3 ⊢
  rw [hsb]
  clear hu3 hsb HT2 HU2 HB2 HO2
  go_loopw [14] (fun iv wr => ∃ (k : Nat) (o : Nat → Nat) (T : TT) (g : Nat → Nat), k ≤ N ∧ iv = .int .i64 (k : Int) ∧ Hid (BkA o w wr pt pu W H d sb T T0 g) ∧ Hid (SetOk W H d T ∧ (∀ m, (T 0 m).num = (g m : Int)) ∧ ∀ m, g m ≤ 8)) (fun iv _ => N - (intOf iv).toNat)
  case atStart => exact ⟨0, _, T0, _, by omega, rfl, HA3, Lib.hid ⟨SetOk.zero W H d, fun _ => rfl, fun _ => by omega⟩⟩
  case round =>
    obtain ⟨k, o, T, g, hk, rfl, HA, HS⟩ := hrel
    clear HA3
    by_cases hlt : k < N
    · have hkN : (k : Int) < (N : Int) := by omega
      have hkWH : k < W * H := by rw [HN.out]; exact hlt
      by_cases h0 : 0 < len2
      · obtain ⟨b2, f2, rfl⟩ := row_some R2.out h0
        obtain ⟨r2, hr2⟩ : ∃ r2, k % len2 = r2 := ⟨_, rfl⟩
        have hrl : r2 < len2 := by rw [← hr2]; exact Nat.mod_lt _ h0
        obtain ⟨q2, hq2⟩ : ∃ q2, k / len2 = q2 := ⟨_, rfl⟩
        have hrI : (k : Int).tmod (len2 : Int) = (r2 : Int) := by rw [← hr2]; rfl
        have hqI : (k : Int).tdiv (len2 : Int) = (q2 : Int) := by rw [← hq2]; rfl
        obtain ⟨zz, hzz⟩ : ∃ zz, z2.getD r2 0 = zz := ⟨_, rfl⟩
        obtain ⟨sm, hsm⟩ : ∃ sm, IntKind.i64.wrap (zz + (q2 : Int)) = sm := ⟨_, rfl⟩
        have hql : q2 ≤ 64 := by rw [← hq2]; exact Nat.le_trans (Nat.div_le_self _ _) (by omega)
        have hqw : IntKind.i64.wrap (q2 : Int) = (q2 : Int) := IntWalk.i64_in _ (by omega)
        have hln : ¬ len2 = 0 := by omega
        have HZ := Lib.hid hzz
        have hi2 : (0 : Int) < (len2 : Int) := by omega
        have hle : ¬ (len2 : Int) = 0 := by omega
        have hri : (r2 : Int) < (len2 : Int) := by omega
        clear hr2 hq2 hzz
        go_wp2_with fail
        refine (wpIn_wide (n := 9)).1 (regionIn_inv (w := wr) (Inv := fun L a' w' => a' = { tmps := #[.int .i64 (W : Int), .int .i64 (H : Int), .slice (some ⟨b2, f2, none⟩) len2 cap2, .slice a3 len3 cap3, .slice a4 len4 cap4, undef, undef, undef, undef, undef, .bool false, .pointer (some ⟨pt, 0, none⟩), .pointer (some ⟨pu, 0, none⟩), .slice (some ⟨sb, 0, none⟩) N N, .int .i64 (k : Int), undef, undef, undef, undef, undef, undef, undef, undef, undef, .bool true, .bool false, .int .i64 a0, .int .i64 (m0 : Int), .int .i64 (W : Int), .int .i64 a1, .int .i64 (m1 : Int), .int .i64 (H : Int), .int .i64 (W : Int), .int .i64 (H : Int), .pointer (some ⟨pt, 0, none⟩), .int .i64 (W : Int), .int .i64 (H : Int), .pointer (some ⟨pu, 0, none⟩), .int .i64 (W : Int), .int .i64 (H : Int), .int .i64 (N : Int), .slice (some ⟨sb, 0, none⟩) N N, .int .i64 (k : Int), .slice (some ⟨sb, 0, none⟩) N N, .int .i64 (N : Int), .bool true, u46, u47, .slice (some ⟨b2, f2, none⟩) len2 cap2, .int .i64 (len2 : Int), .bool true, bif L 0 then .slice (some ⟨sb, 0, none⟩) N N else u51, bif L 1 then .int .i64 (k : Int) else u52, bif L 2 then .slice (some ⟨b2, f2, none⟩) len2 cap2 else u53, bif L 3 then .int .i64 (k : Int) else u54, bif L 4 then .slice (some ⟨b2, f2, none⟩) len2 cap2 else u55, bif L 5 then .int .i64 (len2 : Int) else u56, bif L 6 then .int .i64 (r2 : Int) else u57, bif L 7 then .pointer (some ⟨b2, f2 + r2, none⟩) else u58, bif L 8 then .int .i64 zz else u59, bif L 9 then .int .i64 (k : Int) else u60, bif L 10 then .slice (some ⟨b2, f2, none⟩) len2 cap2 else u61, bif L 11 then .int .i64 (len2 : Int) else u62, bif L 12 then .int .i64 (q2 : Int) else u63, bif L 13 then .int .i64 sm else u64, bif L 14 then .int .i64 ((modN sm 9 : Nat) : Int) else u65, bif L 15 then .pointer (some ⟨sb, k, none⟩) else u66, u67, u68, u69, u70, u71, u72, u73, undef, undef, undef, undef, undef, undef, undef, undef, undef, undef, undef, undef, undef, undef, undef, undef, undef, undef, undef, undef, undef, undef, undef, undef, undef, undef, undef, undef, undef, undef, undef, undef, undef, undef, undef, undef, undef, undef, undef, undef, undef, undef, undef, undef, undef, undef, undef, undef, undef, undef, undef, undef, undef, undef, undef, undef, undef, undef, undef, undef, undef, undef, undef, undef, undef, undef, undef, undef, undef, undef, undef, undef, undef, undef, undef, undef, undef, undef, undef, undef, undef, undef, undef, undef, undef, undef, undef, undef, undef, undef, undef, undef, undef, undef, undef, undef, undef, undef, undef, undef, undef, undef, undef, undef, undef, undef], defers := [] } ∧ (bif L 16 then (BkA o w w' pt pu W H d sb T T0 (fun m => if m = k then modN sm 9 else g m)) else BkA o w w' pt pu W H d sb T T0 g)) (by kernel_rfl) (by kernel_rfl) ?startq ?stepq ?finq)
        case startq => exact ⟨rfl, HA.out.below (below_drewN (Below.refl _ _) 1)⟩
        case stepq =>
          intro i hi L a' w' hI hs hu
          obtain ⟨rfl, hph⟩ := hI
          have hL := hu.1
          have hi : i < 17 := hi
          obtain rfl | rfl | rfl | rfl | rfl | rfl | rfl | rfl | rfl | rfl | rfl | rfl | rfl | rfl | rfl | rfl | rfl := (by omega : i = 0 ∨ i = 1 ∨ i = 2 ∨ i = 3 ∨ i = 4 ∨ i = 5 ∨ i = 6 ∨ i = 7 ∨ i = 8 ∨ i = 9 ∨ i = 10 ∨ i = 11 ∨ i = 12 ∨ i = 13 ∨ i = 14 ∨ i = 15 ∨ i = 16)
          · skip
            have n16 : L 16 = false := not_yet hL fun h => shut_at hs 16 0 (by kernel_rfl) (h)
            refine opIn_run (v := .slice (some ⟨sb, 0, none⟩) N N) (w' := w') rfl rfl (fun c h => by cases h) (fun _ => trivial) ?_ ⟨by simp [Act.put, upd, n16, hL], by simpa [upd] using hph⟩
            simp only [n16, hL, cond_true, cond_false]
            go_simp
          · skip
            have n16 : L 16 = false := not_yet hL fun h => shut_at hs 16 1 (by kernel_rfl) (h)
            refine opIn_run (v := .int .i64 (k : Int)) (w' := w') rfl rfl (fun c h => by cases h) (fun _ => trivial) ?_ ⟨by simp [Act.put, upd, n16, hL], by simpa [upd] using hph⟩
            simp only [n16, hL, cond_true, cond_false]
            go_simp
          · skip
            have n16 : L 16 = false := not_yet hL fun h => shut_at hs 16 2 (by kernel_rfl) (h)
            refine opIn_run (v := .slice (some ⟨b2, f2, none⟩) len2 cap2) (w' := w') rfl rfl (fun c h => by cases h) (fun _ => trivial) ?_ ⟨by simp [Act.put, upd, n16, hL], by simpa [upd] using hph⟩
            simp only [n16, hL, cond_true, cond_false]
            go_simp
          · skip
            have n16 : L 16 = false := not_yet hL fun h => shut_at hs 16 3 (by kernel_rfl) (h)
            refine opIn_run (v := .int .i64 (k : Int)) (w' := w') rfl rfl (fun c h => by cases h) (fun _ => trivial) ?_ ⟨by simp [Act.put, upd, n16, hL], by simpa [upd] using hph⟩
            simp only [n16, hL, cond_true, cond_false]
            go_simp
          · skip
            have n16 : L 16 = false := not_yet hL fun h => shut_at hs 16 4 (by kernel_rfl) (h)
            refine opIn_run (v := .slice (some ⟨b2, f2, none⟩) len2 cap2) (w' := w') rfl rfl (fun c h => by cases h) (fun _ => trivial) ?_ ⟨by simp [Act.put, upd, n16, hL], by simpa [upd] using hph⟩
            simp only [n16, hL, cond_true, cond_false]
            go_simp
          · skip
            have y4 : L 4 = true := up_at hu 4 (by kernel_rfl)
            have n16 : L 16 = false := not_yet hL fun h => shut_at hs 16 5 (by kernel_rfl) (h)
            refine opIn_run (v := .int .i64 (len2 : Int)) (w' := w') rfl rfl (fun c h => by cases h) (fun _ => trivial) ?_ ⟨by simp [Act.put, upd, y4, n16, hL], by simpa [upd] using hph⟩
            simp only [y4, n16, hL, cond_true, cond_false]
            go_simp
          · skip
            have y3 : L 3 = true := up_at hu 3 (by kernel_rfl)
            have y5 : L 5 = true := up_at hu 5 (by kernel_rfl)
            have n16 : L 16 = false := not_yet hL fun h => shut_at hs 16 6 (by kernel_rfl) (h)
            refine opIn_run (v := .int .i64 (r2 : Int)) (w' := w') rfl rfl (fun c h => by cases h) (fun _ => trivial) ?_ ⟨by simp [Act.put, upd, y3, y5, n16, hL], by simpa [upd] using hph⟩
            simp only [y3, y5, n16, hL, cond_true, cond_false]
            go_simp
          · skip
            have y2 : L 2 = true := up_at hu 2 (by kernel_rfl)
            have y6 : L 6 = true := up_at hu 6 (by kernel_rfl)
            have n16 : L 16 = false := not_yet hL fun h => shut_at hs 16 7 (by kernel_rfl) (h)
            refine opIn_run (v := .pointer (some ⟨b2, f2 + r2, none⟩)) (w' := w') rfl rfl (fun c h => by cases h) (fun _ => trivial) ?_ ⟨by simp [Act.put, upd, y2, y6, n16, hL], by simpa [upd] using hph⟩
            simp only [y2, y6, n16, hL, cond_true, cond_false]
            go_simp
          · skip
            have y7 : L 7 = true := up_at hu 7 (by kernel_rfl)
            have n16 : L 16 = false := not_yet hL fun h => shut_at hs 16 8 (by kernel_rfl) (h)
            simp only [y7, n16, hL, cond_true, cond_false] at hph
            have hcell := row_cell R2.out (k := r2) hrl hph.bel
            rw [HZ.out] at hcell
            refine opIn_run (v := .int .i64 zz) (w' := w') rfl rfl (fun c h => by cases h) (fun _ => trivial) ?_ ⟨by simp [Act.put, upd, y7, n16, hL], by simp only [upd, y7, n16, hL]; exact hph⟩
            simp only [y7, n16, hL, cond_true, cond_false]
            go_simp
          · skip
            have n16 : L 16 = false := not_yet hL fun h => shut_at hs 16 9 (by kernel_rfl) (h)
            refine opIn_run (v := .int .i64 (k : Int)) (w' := w') rfl rfl (fun c h => by cases h) (fun _ => trivial) ?_ ⟨by simp [Act.put, upd, n16, hL], by simpa [upd] using hph⟩
            simp only [n16, hL, cond_true, cond_false]
            go_simp
          · skip
            have n16 : L 16 = false := not_yet hL fun h => shut_at hs 16 10 (by kernel_rfl) (h)
            refine opIn_run (v := .slice (some ⟨b2, f2, none⟩) len2 cap2) (w' := w') rfl rfl (fun c h => by cases h) (fun _ => trivial) ?_ ⟨by simp [Act.put, upd, n16, hL], by simpa [upd] using hph⟩
            simp only [n16, hL, cond_true, cond_false]
            go_simp
          · skip
            have y10 : L 10 = true := up_at hu 10 (by kernel_rfl)
            have n16 : L 16 = false := not_yet hL fun h => shut_at hs 16 11 (by kernel_rfl) (h)
            refine opIn_run (v := .int .i64 (len2 : Int)) (w' := w') rfl rfl (fun c h => by cases h) (fun _ => trivial) ?_ ⟨by simp [Act.put, upd, y10, n16, hL], by simpa [upd] using hph⟩
            simp only [y10, n16, hL, cond_true, cond_false]
            go_simp
          · skip
            have y9 : L 9 = true := up_at hu 9 (by kernel_rfl)
            have y11 : L 11 = true := up_at hu 11 (by kernel_rfl)
            have n16 : L 16 = false := not_yet hL fun h => shut_at hs 16 12 (by kernel_rfl) (h)
            refine opIn_run (v := .int .i64 (q2 : Int)) (w' := w') rfl rfl (fun c h => by cases h) (fun _ => trivial) ?_ ⟨by simp [Act.put, upd, y9, y11, n16, hL], by simpa [upd] using hph⟩
            simp only [y9, y11, n16, hL, cond_true, cond_false]
            go_simp
          · skip
            have y8 : L 8 = true := up_at hu 8 (by kernel_rfl)
            have y12 : L 12 = true := up_at hu 12 (by kernel_rfl)
            have n16 : L 16 = false := not_yet hL fun h => shut_at hs 16 13 (by kernel_rfl) (h)
            refine opIn_run (v := .int .i64 sm) (w' := w') rfl rfl (fun c h => by cases h) (fun _ => trivial) ?_ ⟨by simp [Act.put, upd, y8, y12, n16, hL], by simpa [upd] using hph⟩
            simp only [y8, y12, n16, hL, cond_true, cond_false]
            go_simp
          · skip
            have y13 : L 13 = true := up_at hu 13 (by kernel_rfl)
            have n16 : L 16 = false := not_yet hL fun h => shut_at hs 16 14 (by kernel_rfl) (h)
            simp only [y13, n16, hL, cond_true, cond_false] at hph
            refine opIn_call (f := 9) (args := #[.int .i64 sm, .int .i64 9]) (w' := w') rfl rfl (fun c h => by cases h) (fun _ => trivial) rfl ?_ ((callsIn_wide.2 (some13 sm 9 w' (by omega) (by omega))).mono ?_)
            · simp only [y13, n16, hL, cond_true, cond_false]
              go_simp
            · rintro e w2 ⟨rfl, rfl⟩
              exact ⟨_, rfl, by simp [Act.put, upd, y13, n16, hL], by simp only [upd, y13, n16, hL]; exact hph⟩
          · skip
            have y0 : L 0 = true := up_at hu 0 (by kernel_rfl)
            have y1 : L 1 = true := up_at hu 1 (by kernel_rfl)
            have y2 : L 2 = true := up_at hu 2 (by kernel_rfl)
            have y3 : L 3 = true := up_at hu 3 (by kernel_rfl)
            have y4 : L 4 = true := up_at hu 4 (by kernel_rfl)
            have y5 : L 5 = true := up_at hu 5 (by kernel_rfl)
            have y6 : L 6 = true := up_at hu 6 (by kernel_rfl)
            have y7 : L 7 = true := up_at hu 7 (by kernel_rfl)
            have y8 : L 8 = true := up_at hu 8 (by kernel_rfl)
            have y9 : L 9 = true := up_at hu 9 (by kernel_rfl)
            have y10 : L 10 = true := up_at hu 10 (by kernel_rfl)
            have y11 : L 11 = true := up_at hu 11 (by kernel_rfl)
            have y12 : L 12 = true := up_at hu 12 (by kernel_rfl)
            have y13 : L 13 = true := up_at hu 13 (by kernel_rfl)
            have y14 : L 14 = true := up_at hu 14 (by kernel_rfl)
            have n16 : L 16 = false := not_yet hL fun h => shut_at hs 16 15 (by kernel_rfl) (h)
            refine opIn_run (v := .pointer (some ⟨sb, k, none⟩)) (w' := w') rfl rfl (fun c h => by cases h) (fun _ => trivial) ?_ ⟨by simp [Act.put, upd, y0, y1, y2, y3, y4, y5, y6, y7, y8, y9, y10, y11, y12, y13, y14, n16, hL], by simpa [upd] using hph⟩
            simp only [y0, y1, y2, y3, y4, y5, y6, y7, y8, y9, y10, y11, y12, y13, y14, n16, hL, cond_true, cond_false]
            go_simp
          · skip
            have y0 : L 0 = true := up_at hu 0 (by kernel_rfl)
            have y1 : L 1 = true := up_at hu 1 (by kernel_rfl)
            have y2 : L 2 = true := up_at hu 2 (by kernel_rfl)
            have y3 : L 3 = true := up_at hu 3 (by kernel_rfl)
            have y4 : L 4 = true := up_at hu 4 (by kernel_rfl)
            have y5 : L 5 = true := up_at hu 5 (by kernel_rfl)
            have y6 : L 6 = true := up_at hu 6 (by kernel_rfl)
            have y7 : L 7 = true := up_at hu 7 (by kernel_rfl)
            have y8 : L 8 = true := up_at hu 8 (by kernel_rfl)
            have y9 : L 9 = true := up_at hu 9 (by kernel_rfl)
            have y10 : L 10 = true := up_at hu 10 (by kernel_rfl)
            have y11 : L 11 = true := up_at hu 11 (by kernel_rfl)
            have y12 : L 12 = true := up_at hu 12 (by kernel_rfl)
            have y13 : L 13 = true := up_at hu 13 (by kernel_rfl)
            have y14 : L 14 = true := up_at hu 14 (by kernel_rfl)
            have y15 : L 15 = true := up_at hu 15 (by kernel_rfl)
            simp only [y0, y1, y2, y3, y4, y5, y6, y7, y8, y9, y10, y11, y12, y13, y14, y15, hL, cond_true, cond_false] at hph
            have hcl := hph.s.cell hkWH
            have hfz := hph.s.frozen (k := k)
            refine opIn_skip (w' := w'.setCell ⟨sb, k, none⟩ (.int .i64 ((modN sm 9 : Nat) : Int))) rfl rfl (fun c h => by cases h) (fun _ => trivial) ?_ ⟨by simp [Act.put, upd, y0, y1, y2, y3, y4, y5, y6, y7, y8, y9, y10, y11, y12, y13, y14, y15, hL], by simp only [upd, y0, y1, y2, y3, y4, y5, y6, y7, y8, y9, y10, y11, y12, y13, y14, y15, hL]; exact hph.store hkWH (modN sm 9)⟩
            simp only [y0, y1, y2, y3, y4, y5, y6, y7, y8, y9, y10, y11, y12, y13, y14, y15, hL, cond_true, cond_false]
            go_simp
        case finq =>
          intro L a' w' hall hI
          obtain ⟨rfl, hph⟩ := hI
          have l0 := hall 0 (by decide)
          have l1 := hall 1 (by decide)
          have l2 := hall 2 (by decide)
          have l3 := hall 3 (by decide)
          have l4 := hall 4 (by decide)
          have l5 := hall 5 (by decide)
          have l6 := hall 6 (by decide)
          have l7 := hall 7 (by decide)
          have l8 := hall 8 (by decide)
          have l9 := hall 9 (by decide)
          have l10 := hall 10 (by decide)
          have l11 := hall 11 (by decide)
          have l12 := hall 12 (by decide)
          have l13 := hall 13 (by decide)
          have l14 := hall 14 (by decide)
          have l15 := hall 15 (by decide)
          have l16 := hall 16 (by decide)
          simp only [l0, l1, l2, l3, l4, l5, l6, l7, l8, l9, l10, l11, l12, l13, l14, l15, l16, cond_true] at hph ⊢
          clear l0 l1 l2 l3 l4 l5 l6 l7 l8 l9 l10 l11 l12 l13 l14 l15 l16 hall
          have HA9 := Lib.hid hph
          clear hph
          obtain ⟨wf, hwf⟩ : ∃ wf : World, wf = w' := ⟨_, rfl⟩
          rw [← hwf] at HA9 ⊢
          clear hwf hrI hqI hsm hqw
          have hv9 : modN sm 9 ≤ 8 := by have := (modN_lt sm 9 (by omega)).1; omega
          obtain ⟨g9, hg9⟩ : ∃ g9 : Nat → Nat, (fun m => if m = k then modN sm 9 else g m) = g9 := ⟨_, rfl⟩
          have hgk : g9 k = modN sm 9 := by rw [← hg9]; simp
          have hgo : ∀ m, m ≠ k → g9 m = g m := by intro m hm; rw [← hg9]; simp [hm]
          rw [hg9] at HA9
          clear hg9
          have HS9 : Hid (SetOk W H d (setM T W H d k (g9 k : Int)) ∧ (∀ m, ((setM T W H d k (g9 k : Int)) 0 m).num = (g9 m : Int)) ∧ ∀ m, g9 m ≤ 8) := Lib.hid (by
            have h := set_ok HS.out.1 hd1 hW8.1 hkWH (g9 k : Int) (by omega)
            refine ⟨h.1, fun m => ?_, fun m => ?_⟩
            · rw [h.2 m, HS.out.2.1 m]
              split
              · rename_i e; rw [e]
              · rename_i e; rw [hgo m e]
            · by_cases e : m = k
              · rw [e, hgk]; exact hv9
              · rw [hgo m e]; exact HS.out.2.2 m)
          have hg8 : g9 k ≤ 8 := by rw [hgk]; exact hv9
          have hcl : wf.cell? ⟨sb, k, none⟩ = some (.int .i64 (g9 k : Int)) := HA9.out.s.cell hkWH
          clear hgo hgk hv9 HA HS
          go_wp2_with fail
          clear hcl
          refine (HA9.out.set hkWH (g9 k) (by omega)).mono ?_
          rintro e u5 ⟨rfl, hA⟩
          have HA5 := Lib.hid hA
          clear hA HA9
          go_wp2
          go_roundw
          case rel => exact ⟨k + 1, _, _, g9, by omega, by go_num, HA5, HS9⟩
          case measure => simp [intOf]; omega

      · obtain rfl : len2 = 0 := by omega
        have hcl : wr.cell? ⟨sb, k, none⟩ = some (.int .i64 (g k : Int)) := HA.out.s.cell hkWH
        go_wp2_with fail
        clear hcl
        refine (HA.out.set hkWH (g k) (by have := HS.out.2.2 k; omega)).mono ?_
        rintro e u5 ⟨rfl, hA⟩
        have HA5 := Lib.hid hA
        have HS5 : Hid (SetOk W H d (setM T W H d k (g k : Int)) ∧ (∀ m, ((setM T W H d k (g k : Int)) 0 m).num = (g m : Int)) ∧ ∀ m, g m ≤ 8) := Lib.hid (by
          have h := set_ok HS.out.1 hd1 hW8.1 hkWH (g k : Int) (by omega)
          refine ⟨h.1, fun m => ?_, HS.out.2.2⟩
          rw [h.2 m, HS.out.2.1 m]
          split
          · rename_i e; rw [e]
          · rfl)
        clear hA HA HS
        go_wp2
        go_roundw
        case rel => exact ⟨k + 1, _, _, g, by omega, by go_num, HA5, HS5⟩
        case measure => simp [intOf]; omega
    · obtain rfl : k = N := by omega
      have hnlt : ¬ (k : Int) < (k : Int) := by omega
      clear hlt
      go_wp2_with fail
      refine (wnew_o o 4 wr).mono ?_
      rintro e u6 ⟨wp, rfl, hw6, hb6⟩
      have HB6 : Hid (BkB (onew o wr 4) w u6 pt pu W H d sb T T0 g wp []) := Lib.hid ⟨HA.out.new hb6 4, hw6⟩
      clear hw6 hb6 HA hnlt
      obtain ⟨o6, ho6⟩ : ∃ o6, onew o wr 4 = o6 := ⟨_, rfl⟩
      rw [ho6] at HB6
      clear ho6
      go_wp2_with fail
      go_wp2_with fail
      obtain ⟨n, hn0⟩ : ∃ n : Nat, mn3 len3 len4 = n := ⟨_, rfl⟩
      have hn34 : n ≤ len3 ∧ n ≤ len4 ∧ n ≤ 60 := by rw [← hn0]; unfold mn3; split <;> split <;> omega
      rw [hn0]
      clear hn0
      obtain ⟨kk, hkk⟩ : ∃ kk : Nat → Nat, kk = fun i => modN (z3.getD i 0) k := ⟨_, rfl⟩
      obtain ⟨bb, hbb⟩ : ∃ bb : Nat → Nat, bb = fun i => modN (z4.getD i 0) 12 := ⟨_, rfl⟩
      have hkl : ∀ i, kk i < k := by intro i; rw [hkk]; exact (modN_lt _ _ hN64.1).1
      have hbl : ∀ i, bb i ≤ 11 := by intro i; rw [hbb]; have := (modN_lt (z4.getD i 0) 12 (by omega)).1; simp only; omega
      have hke : ∀ i, modN (z3.getD i 0) k = kk i := by intro i; rw [hkk]
      have hbe : ∀ i, modN (z4.getD i 0) 12 = bb i := by intro i; rw [hbb]
      clear hkk hbb
      have HKL := Lib.hid hkl
      have HBL := Lib.hid hbl
      have HKE := Lib.hid hke
      have HBE := Lib.hid hbe
      clear hkl hbl hke hbe
      go_loopw [17] (fun iv wr => ∃ (i : Nat) (o : Nat → Nat), i ≤ n ∧ iv = .int .i64 (i : Int) ∧ Hid (BkB o w wr pt pu W H d sb (bitsB W d kk bb T i).2 T0 g wp (bitsB W d kk bb T i).1) ∧ (wrun (bitsB W d kk bb T i).1).1.length ≤ i * 104) (fun iv _ => n - (intOf iv).toNat)
      case atStart => exact ⟨0, _, by omega, rfl, HB6, by simp [bitsB, wrun]⟩
      case round =>
        obtain ⟨i, o, hi, rfl, HBi, hlen⟩ := hrel
        clear HB6
        by_cases hlt : i < n
        · have hin : (i : Int) < (n : Int) := by omega
          have hi3 : i < len3 := by omega
          have hi4 : i < len4 := by omega
          have hi3I : (i : Int) < (len3 : Int) := by omega
          have hi4I : (i : Int) < (len4 : Int) := by omega
          obtain ⟨b3, f3, rfl⟩ := row_some R3.out (by omega)
          obtain ⟨b4, f4, rfl⟩ := row_some R4.out (by omega)
          obtain ⟨kz, hkz⟩ : ∃ kz, z3.getD i 0 = kz := ⟨_, rfl⟩
          obtain ⟨bz, hbz⟩ : ∃ bz, z4.getD i 0 = bz := ⟨_, rfl⟩
          obtain ⟨ki, hki⟩ : ∃ ki, kk i = ki := ⟨_, rfl⟩
          obtain ⟨bi, hbi⟩ : ∃ bi, bb i = bi := ⟨_, rfl⟩
          have HKZ := Lib.hid hkz
          have HBZ := Lib.hid hbz
          have hmk : modN kz k = ki := by rw [← hkz, HKE.out, hki]
          have hmb : modN bz 12 = bi := by rw [← hbz, HBE.out, hbi]
          have hkiN : ki < W * H := by rw [HN.out, ← hki]; exact HKL.out i
          have hbi11 : bi ≤ 11 := by rw [← hbi]; exact HBL.out i
          have HKI := Lib.hid hki
          have HBI := Lib.hid hbi
          have HMK := Lib.hid hmk
          have HMB := Lib.hid hmb
          obtain ⟨P, hP⟩ : ∃ P, bitsB W d kk bb T i = P := ⟨_, rfl⟩
          have HST : Hid (bitsB W d kk bb T (i + 1) = ((encB (bi : Int) W d ki P.1 P.2).1, (encB (bi : Int) W d ki P.1 P.2).2.1)) := Lib.hid (by rw [bitsB, hki, hbi, hP])
          rw [hP] at HBi hlen
          clear hkz hbz hki hbi hmk hmb hP
          go_wp2_with fail
          refine (wpIn_wide (n := 9)).1 (regionIn_inv (w := wr) (Inv := fun L a' w' => ∃ (o9 : Nat → Nat), a' = { tmps := #[.int .i64 (W : Int), .int .i64 (H : Int), .slice a2 len2 cap2, .slice (some ⟨b3, f3, none⟩) len3 cap3, .slice (some ⟨b4, f4, none⟩) len4 cap4, undef, undef, undef, undef, undef, .bool false, .pointer (some ⟨pt, 0, none⟩), .pointer (some ⟨pu, 0, none⟩), .slice (some ⟨sb, 0, none⟩) k k, .int .i64 (k : Int), .pointer (some ⟨wp, 0, none⟩), .int .i64 (n : Int), .int .i64 (i : Int), undef, undef, undef, undef, undef, undef, .bool true, .bool false, .int .i64 a0, .int .i64 (m0 : Int), .int .i64 (W : Int), .int .i64 a1, .int .i64 (m1 : Int), .int .i64 (H : Int), .int .i64 (W : Int), .int .i64 (H : Int), .pointer (some ⟨pt, 0, none⟩), .int .i64 (W : Int), .int .i64 (H : Int), .pointer (some ⟨pu, 0, none⟩), .int .i64 (W : Int), .int .i64 (H : Int), .int .i64 (k : Int), .slice (some ⟨sb, 0, none⟩) k k, .int .i64 (k : Int), .slice (some ⟨sb, 0, none⟩) k k, .int .i64 (k : Int), .bool false, u46, u47, u48, u49, u50, u51, u52, u53, u54, u55, u56, u57, u58, u59, u60, u61, u62, u63, u64, u65, u66, u67, u68, u69, u70, u71, u72, u73, .pointer (some ⟨wp, 0, none⟩), .slice (some ⟨b3, f3, none⟩) len3 cap3, .int .i64 (len3 : Int), .slice (some ⟨b4, f4, none⟩) len4 cap4, .int .i64 (len4 : Int), .int .i64 (n : Int), .int .i64 (i : Int), .int .i64 (n : Int), .bool true, u83, u84, bif L 0 then .pointer (some ⟨pt, 0, none⟩) else u85, bif L 1 then .pointer (some ⟨wp, 0, none⟩) else u86, bif L 2 then .slice (some ⟨b3, f3, none⟩) len3 cap3 else u87, bif L 3 then .int .i64 (i : Int) else u88, bif L 4 then .pointer (some ⟨b3, f3 + i, none⟩) else u89, bif L 5 then .int .i64 kz else u90, bif L 6 then .slice (some ⟨sb, 0, none⟩) k k else u91, bif L 7 then .int .i64 (k : Int) else u92, bif L 8 then .int .i64 (ki : Int) else u93, bif L 9 then .slice (some ⟨b4, f4, none⟩) len4 cap4 else u94, bif L 10 then .int .i64 (i : Int) else u95, bif L 11 then .pointer (some ⟨b4, f4 + i, none⟩) else u96, bif L 12 then .int .i64 bz else u97, bif L 13 then .int .i64 (bi : Int) else u98, bif L 14 then .tuple #[] else u99, undef, undef, undef, undef, undef, undef, undef, undef, undef, undef, undef, undef, undef, undef, undef, undef, undef, undef, undef, undef, undef, undef, undef, undef, undef, undef, undef, undef, undef, undef, undef, undef, undef, undef, undef, undef, undef, undef, undef, undef, undef, undef, undef, undef, undef, undef, undef, undef, undef, undef, undef, undef, undef, undef, undef, undef, undef, undef, undef, undef, undef, undef, undef, undef, undef, undef, undef, undef, undef, undef, undef, undef, undef, undef, undef, undef, undef, undef, undef, undef], defers := [] } ∧ (bif L 14 then (BkB o9 w w' pt pu W H d sb (encB (bi : Int) W d ki P.1 P.2).2.1 T0 g wp (encB (bi : Int) W d ki P.1 P.2).1 ∧ (wrun (encB (bi : Int) W d ki P.1 P.2).1).1.length ≤ (wrun P.1).1.length + 104) else BkB o w w' pt pu W H d sb P.2 T0 g wp P.1)) (by kernel_rfl) (by kernel_rfl) ?startr ?stepr ?finr)
          case startr => exact ⟨o, rfl, HBi.out.below (below_drewN (Below.refl _ _) 1)⟩
          case stepr =>
            intro i hi L a' w' hI hs hu
            obtain ⟨o9, rfl, hph⟩ := hI
            have hL := hu.1
            have hi : i < 15 := hi
            obtain rfl | rfl | rfl | rfl | rfl | rfl | rfl | rfl | rfl | rfl | rfl | rfl | rfl | rfl | rfl := (by omega : i = 0 ∨ i = 1 ∨ i = 2 ∨ i = 3 ∨ i = 4 ∨ i = 5 ∨ i = 6 ∨ i = 7 ∨ i = 8 ∨ i = 9 ∨ i = 10 ∨ i = 11 ∨ i = 12 ∨ i = 13 ∨ i = 14)
            · skip
              have n14 : L 14 = false := not_yet hL fun h => shut_at hs 14 0 (by kernel_rfl) (h)
              refine opIn_run (v := .pointer (some ⟨pt, 0, none⟩)) (w' := w') rfl rfl (fun c h => by cases h) (fun _ => trivial) ?_ ⟨o9, by simp [Act.put, upd, n14, hL], by simpa [upd] using hph⟩
              simp only [n14, hL, cond_true, cond_false]
              go_simp
            · skip
              have n14 : L 14 = false := not_yet hL fun h => shut_at hs 14 1 (by kernel_rfl) (h)
              refine opIn_run (v := .pointer (some ⟨wp, 0, none⟩)) (w' := w') rfl rfl (fun c h => by cases h) (fun _ => trivial) ?_ ⟨o9, by simp [Act.put, upd, n14, hL], by simpa [upd] using hph⟩
              simp only [n14, hL, cond_true, cond_false]
              go_simp
            · skip
              have n14 : L 14 = false := not_yet hL fun h => shut_at hs 4 2 (by kernel_rfl) (shut_at hs 5 4 (by kernel_rfl) (shut_at hs 8 5 (by kernel_rfl) (shut_at hs 14 8 (by kernel_rfl) (h))))
              refine opIn_run (v := .slice (some ⟨b3, f3, none⟩) len3 cap3) (w' := w') rfl rfl (fun c h => by cases h) (fun _ => trivial) ?_ ⟨o9, by simp [Act.put, upd, n14, hL], by simpa [upd] using hph⟩
              simp only [n14, hL, cond_true, cond_false]
              go_simp
            · skip
              have n14 : L 14 = false := not_yet hL fun h => shut_at hs 4 3 (by kernel_rfl) (shut_at hs 5 4 (by kernel_rfl) (shut_at hs 8 5 (by kernel_rfl) (shut_at hs 14 8 (by kernel_rfl) (h))))
              refine opIn_run (v := .int .i64 (i : Int)) (w' := w') rfl rfl (fun c h => by cases h) (fun _ => trivial) ?_ ⟨o9, by simp [Act.put, upd, n14, hL], by simpa [upd] using hph⟩
              simp only [n14, hL, cond_true, cond_false]
              go_simp
            · skip
              have y2 : L 2 = true := up_at hu 2 (by kernel_rfl)
              have y3 : L 3 = true := up_at hu 3 (by kernel_rfl)
              have n14 : L 14 = false := not_yet hL fun h => shut_at hs 5 4 (by kernel_rfl) (shut_at hs 8 5 (by kernel_rfl) (shut_at hs 14 8 (by kernel_rfl) (h)))
              refine opIn_run (v := .pointer (some ⟨b3, f3 + i, none⟩)) (w' := w') rfl rfl (fun c h => by cases h) (fun _ => trivial) ?_ ⟨o9, by simp [Act.put, upd, y2, y3, n14, hL], by simpa [upd] using hph⟩
              simp only [y2, y3, n14, hL, cond_true, cond_false]
              go_simp
            · skip
              have y4 : L 4 = true := up_at hu 4 (by kernel_rfl)
              have n14 : L 14 = false := not_yet hL fun h => shut_at hs 8 5 (by kernel_rfl) (shut_at hs 14 8 (by kernel_rfl) (h))
              simp only [y4, n14, hL, cond_true, cond_false] at hph
              have hcell := row_cell R3.out (k := i) hi3 hph.a.bel
              rw [HKZ.out] at hcell
              refine opIn_run (v := .int .i64 kz) (w' := w') rfl rfl (fun c h => by cases h) (fun _ => trivial) ?_ ⟨o9, by simp [Act.put, upd, y4, n14, hL], by simp only [upd, y4, n14, hL]; exact hph⟩
              simp only [y4, n14, hL, cond_true, cond_false]
              go_simp
            · skip
              have n14 : L 14 = false := not_yet hL fun h => shut_at hs 7 6 (by kernel_rfl) (shut_at hs 8 7 (by kernel_rfl) (shut_at hs 14 8 (by kernel_rfl) (h)))
              refine opIn_run (v := .slice (some ⟨sb, 0, none⟩) k k) (w' := w') rfl rfl (fun c h => by cases h) (fun _ => trivial) ?_ ⟨o9, by simp [Act.put, upd, n14, hL], by simpa [upd] using hph⟩
              simp only [n14, hL, cond_true, cond_false]
              go_simp
            · skip
              have y6 : L 6 = true := up_at hu 6 (by kernel_rfl)
              have n14 : L 14 = false := not_yet hL fun h => shut_at hs 8 7 (by kernel_rfl) (shut_at hs 14 8 (by kernel_rfl) (h))
              refine opIn_run (v := .int .i64 (k : Int)) (w' := w') rfl rfl (fun c h => by cases h) (fun _ => trivial) ?_ ⟨o9, by simp [Act.put, upd, y6, n14, hL], by simpa [upd] using hph⟩
              simp only [y6, n14, hL, cond_true, cond_false]
              go_simp
            · skip
              have y5 : L 5 = true := up_at hu 5 (by kernel_rfl)
              have y7 : L 7 = true := up_at hu 7 (by kernel_rfl)
              have n14 : L 14 = false := not_yet hL fun h => shut_at hs 14 8 (by kernel_rfl) (h)
              simp only [y5, y7, n14, hL, cond_true, cond_false] at hph
              refine opIn_call (f := 9) (args := #[.int .i64 kz, .int .i64 (k : Int)]) (w' := w') rfl rfl (fun c h => by cases h) (fun _ => trivial) rfl ?_ ((callsIn_wide.2 (some13v kz k ki w' (by omega) (by omega) HMK.out)).mono ?_)
              · simp only [y5, y7, n14, hL, cond_true, cond_false]
                go_simp
              · rintro e w2 ⟨rfl, rfl⟩
                exact ⟨_, rfl, o9, by simp [Act.put, upd, y5, y7, n14, hL], by simp only [upd, y5, y7, n14, hL]; exact hph⟩
            · skip
              have n14 : L 14 = false := not_yet hL fun h => shut_at hs 11 9 (by kernel_rfl) (shut_at hs 12 11 (by kernel_rfl) (shut_at hs 13 12 (by kernel_rfl) (shut_at hs 14 13 (by kernel_rfl) (h))))
              refine opIn_run (v := .slice (some ⟨b4, f4, none⟩) len4 cap4) (w' := w') rfl rfl (fun c h => by cases h) (fun _ => trivial) ?_ ⟨o9, by simp [Act.put, upd, n14, hL], by simpa [upd] using hph⟩
              simp only [n14, hL, cond_true, cond_false]
              go_simp
            · skip
              have n14 : L 14 = false := not_yet hL fun h => shut_at hs 11 10 (by kernel_rfl) (shut_at hs 12 11 (by kernel_rfl) (shut_at hs 13 12 (by kernel_rfl) (shut_at hs 14 13 (by kernel_rfl) (h))))
              refine opIn_run (v := .int .i64 (i : Int)) (w' := w') rfl rfl (fun c h => by cases h) (fun _ => trivial) ?_ ⟨o9, by simp [Act.put, upd, n14, hL], by simpa [upd] using hph⟩
              simp only [n14, hL, cond_true, cond_false]
              go_simp
            · skip
              have y9 : L 9 = true := up_at hu 9 (by kernel_rfl)
              have y10 : L 10 = true := up_at hu 10 (by kernel_rfl)
              have n14 : L 14 = false := not_yet hL fun h => shut_at hs 12 11 (by kernel_rfl) (shut_at hs 13 12 (by kernel_rfl) (shut_at hs 14 13 (by kernel_rfl) (h)))
              refine opIn_run (v := .pointer (some ⟨b4, f4 + i, none⟩)) (w' := w') rfl rfl (fun c h => by cases h) (fun _ => trivial) ?_ ⟨o9, by simp [Act.put, upd, y9, y10, n14, hL], by simpa [upd] using hph⟩
              simp only [y9, y10, n14, hL, cond_true, cond_false]
              go_simp
            · skip
              have y11 : L 11 = true := up_at hu 11 (by kernel_rfl)
              have n14 : L 14 = false := not_yet hL fun h => shut_at hs 13 12 (by kernel_rfl) (shut_at hs 14 13 (by kernel_rfl) (h))
              simp only [y11, n14, hL, cond_true, cond_false] at hph
              have hcell := row_cell R4.out (k := i) hi4 hph.a.bel
              rw [HBZ.out] at hcell
              refine opIn_run (v := .int .i64 bz) (w' := w') rfl rfl (fun c h => by cases h) (fun _ => trivial) ?_ ⟨o9, by simp [Act.put, upd, y11, n14, hL], by simp only [upd, y11, n14, hL]; exact hph⟩
              simp only [y11, n14, hL, cond_true, cond_false]
              go_simp
            · skip
              have y8 : L 8 = true := up_at hu 8 (by kernel_rfl)
              have y12 : L 12 = true := up_at hu 12 (by kernel_rfl)
              have n14 : L 14 = false := not_yet hL fun h => shut_at hs 14 13 (by kernel_rfl) (h)
              simp only [y8, y12, n14, hL, cond_true, cond_false] at hph
              refine opIn_call (f := 9) (args := #[.int .i64 bz, .int .i64 12]) (w' := w') rfl rfl (fun c h => by cases h) (fun _ => trivial) rfl ?_ ((callsIn_wide.2 (some13v bz 12 bi w' (by omega) (by omega) HMB.out)).mono ?_)
              · simp only [y8, y12, n14, hL, cond_true, cond_false]
                go_simp
              · rintro e w2 ⟨rfl, rfl⟩
                exact ⟨_, rfl, o9, by simp [Act.put, upd, y8, y12, n14, hL], by simp only [upd, y8, y12, n14, hL]; exact hph⟩
            · skip
              have y0 : L 0 = true := up_at hu 0 (by kernel_rfl)
              have y1 : L 1 = true := up_at hu 1 (by kernel_rfl)
              have y8 : L 8 = true := up_at hu 8 (by kernel_rfl)
              have y13 : L 13 = true := up_at hu 13 (by kernel_rfl)
              simp only [y0, y1, y8, y13, hL, cond_true, cond_false] at hph
              refine opIn_call (f := 22) (args := #[.pointer (some ⟨pt, 0, none⟩), .pointer (some ⟨wp, 0, none⟩), .int .i64 (ki : Int), .int .i64 (bi : Int)]) (w' := w') rfl rfl (fun c h => by cases h) (fun _ => trivial) rfl ?_ ((callsIn_wide.2 (hph.enc hkiN bi hbi11 hd8 (by omega))).mono ?_)
              · simp only [y0, y1, y8, y13, hL, cond_true, cond_false]
                go_simp
              · rintro e w2 ⟨rfl, hE9, hl9⟩
                exact ⟨_, rfl, onew o w' 4, by simp [Act.put, upd, y0, y1, y8, y13, hL], by simp only [upd, y0, y1, y8, y13, hL]; exact ⟨hE9, hl9⟩⟩
          case finr =>
            intro L a' w' hall hI
            obtain ⟨o9, rfl, hph⟩ := hI
            have l0 := hall 0 (by decide)
            have l1 := hall 1 (by decide)
            have l2 := hall 2 (by decide)
            have l3 := hall 3 (by decide)
            have l4 := hall 4 (by decide)
            have l5 := hall 5 (by decide)
            have l6 := hall 6 (by decide)
            have l7 := hall 7 (by decide)
            have l8 := hall 8 (by decide)
            have l9 := hall 9 (by decide)
            have l10 := hall 10 (by decide)
            have l11 := hall 11 (by decide)
            have l12 := hall 12 (by decide)
            have l13 := hall 13 (by decide)
            have l14 := hall 14 (by decide)
            simp only [l0, l1, l2, l3, l4, l5, l6, l7, l8, l9, l10, l11, l12, l13, l14, cond_true] at hph ⊢
            clear l0 l1 l2 l3 l4 l5 l6 l7 l8 l9 l10 l11 l12 l13 l14 hall
            obtain ⟨hph1, hph2⟩ := hph
            have HB9 := Lib.hid hph1
            have HL9 := Lib.hid hph2
            clear hph1 hph2
            obtain ⟨wf, hwf⟩ : ∃ wf : World, wf = w' := ⟨_, rfl⟩
            rw [← hwf] at HB9 ⊢
            clear hwf
            go_wp2
            go_roundw
            case rel => exact ⟨i + 1, o9, by omega, by go_num, by rw [HST.out]; exact HB9, by rw [HST.out]; have := HL9.out; simp only; omega⟩
            case measure => simp [intOf]; omega

        · obtain rfl : i = n := by omega
          have hnlt : ¬ (i : Int) < (i : Int) := by omega
          clear hlt
          go_wp2_with fail
          obtain ⟨Pn, hPn⟩ : ∃ Pn, bitsB W d kk bb T i = Pn := ⟨_, rfl⟩
          have HPN := Lib.hid hPn
          rw [hPn] at HBi hlen
          clear hPn hnlt
          have CBy := Lib.hid (HBi.out.bytes (by omega))
          have hwl : (wrun Pn.1).1.length ≤ 6240 := by omega
          clear HBi hlen
          refine CBy.out.mono ?_
          rintro e v1 ⟨v, rfl, hv, hb1⟩
          have HB1 := Lib.hid hb1
          obtain ⟨F, hF⟩ : ∃ F, bytesF (wrun Pn.1).1 = F := ⟨_, rfl⟩
          have hok := (bytes_ok Pn.1).1
          have hFl : F.length ≤ 6241 := by rw [← hF]; unfold bytesF; split <;> (try simp) <;> omega
          rw [hF] at hv hok
          have HF := Lib.hid hF
          have HOK := Lib.hid hok
          obtain ⟨A, cap, rfl, hA, hcl, hcm⟩ := own_any hv
          have hL := Lst.own hv
          have CR := Lib.hid (brnew_any (n := F.length) rfl hA hL (by omega))
          clear hv hb1 hL hF hok CBy
          go_wp2_with fail
          refine CR.out.mono ?_
          rintro e v2 ⟨q, rfl, hq, hb2⟩
          have HC0 : Hid (BkC (onew o v1 5) w v2 pt pu W H d sb Pn.2 T0 g wp Pn.1 q F (bat (bitsB W d kk bb T 0).1)) := Lib.hid (HB1.out.rd hb2 hq)
          have HM0 : Hid (Sim (bitsB W d kk bb T 0).2 T0 ∧ LowNum (bitsB W d kk bb T 0).2 ∧ ∀ l x, ((bitsB W d kk bb T 0).2 l x).num = (T l x).num) := Lib.hid ⟨fun l x => ⟨(HS.out.1.1 l x).1.symm, (HS.out.1.1 l x).2.1.symm, fun hh => by rw [show (bitsB W d kk bb T 0).2 = T from rfl, (HS.out.1.1 l x).2.1] at hh; cases hh⟩, fun l x => by
            have := HS.out.1.1 l x
            show 0 ≤ (T l x).low ∧ (T l x).low ≤ (T l x).num
            omega, fun _ _ => rfl⟩
          clear hq hb2 CR HB1
          obtain ⟨o5, ho5⟩ : ∃ o5, onew o v1 5 = o5 := ⟨_, rfl⟩
          rw [ho5] at HC0
          clear ho5
          go_wp2_with fail
          go_loopw [19] (fun iv wr => ∃ (m : Nat) (o : Nat → Nat) (Tu : TT), m ≤ i ∧ iv = .int .i64 (m : Int) ∧ Hid (BkC o w wr pt pu W H d sb Pn.2 Tu g wp Pn.1 q F (bat (bitsB W d kk bb T m).1)) ∧ Hid (Sim (bitsB W d kk bb T m).2 Tu ∧ LowNum (bitsB W d kk bb T m).2 ∧ ∀ l x, ((bitsB W d kk bb T m).2 l x).num = (T l x).num)) (fun iv _ => i - (intOf iv).toNat)
          case atStart => exact ⟨0, _, T0, by omega, rfl, HC0, HM0⟩
          case round =>
            obtain ⟨m, o, Tu, hm, rfl, HC, HM⟩ := hrel
            clear HC0 HM0
            by_cases hlt : m < i
            · have hin : (m : Int) < (i : Int) := by omega
              have hi3 : m < len3 := by omega
              have hi4 : m < len4 := by omega
              have hi3I : (m : Int) < (len3 : Int) := by omega
              have hi4I : (m : Int) < (len4 : Int) := by omega
              obtain ⟨b3, f3, rfl⟩ := row_some R3.out (by omega)
              obtain ⟨b4, f4, rfl⟩ := row_some R4.out (by omega)
              obtain ⟨kz, hkz⟩ : ∃ kz, z3.getD m 0 = kz := ⟨_, rfl⟩
              obtain ⟨bz, hbz⟩ : ∃ bz, z4.getD m 0 = bz := ⟨_, rfl⟩
              have hst := bk_step (F := F) (n := i) HS.out.1 hW8.1 hd1 (by rw [HN.out]; exact HKL.out m) hlt HM.out.1 HM.out.2.1 HM.out.2.2 (by rw [HPN.out]; exact HF.out.symm)
              obtain ⟨ki, hki⟩ : ∃ ki, kk m = ki := ⟨_, rfl⟩
              obtain ⟨bi, hbi⟩ : ∃ bi, bb m = bi := ⟨_, rfl⟩
              have HKZ := Lib.hid hkz
              have HBZ := Lib.hid hbz
              have hmk : modN kz k = ki := by rw [← hkz, HKE.out, hki]
              have hmb : modN bz 12 = bi := by rw [← hbz, HBE.out, hbi]
              have hkiN : ki < W * H := by rw [HN.out, ← hki]; exact HKL.out m
              have hkik : ki < k := by rw [← hki]; exact HKL.out m
              have hkiI : (ki : Int) < (k : Int) := by omega
              have hbi11 : bi ≤ 11 := by rw [← hbi]; exact HBL.out m
              rw [hki, hbi] at hst
              obtain ⟨s0, hs0⟩ : ∃ s0, bat (bitsB W d kk bb T m).1 = s0 := ⟨_, rfl⟩
              have hs0r : s0.l ≤ 8 ∧ s0.n ≤ 70000 := by
                obtain ⟨t9, ht9⟩ := bitsB_pre W d kk bb T m (i - m)
                rw [show m + (i - m) = i by omega, HPN.out] at ht9
                rw [← hs0]
                refine ⟨(bat_rng _).1, ?_⟩
                show (wrun (bitsB W d kk bb T m).1).1.length ≤ 70000
                by_cases hne : (bitsB W d kk bb T m).1 = []
                · rw [hne]; simp [wrun]
                · have := (ext_app hne t9).len
                  rw [← ht9] at this
                  omega
              rw [hs0] at hst HC
              obtain ⟨s1, hs1⟩ : ∃ s1, bat (bitsB W d kk bb T (m + 1)).1 = s1 := ⟨_, rfl⟩
              obtain ⟨Du, hDu⟩ : ∃ Du, (decM F (bi : Int) W d ki s0 Tu).2.1 = Du := ⟨_, rfl⟩
              obtain ⟨kn, hkn⟩ : ∃ kn, knF Du ki = kn := ⟨_, rfl⟩
              obtain ⟨gi, hgi⟩ : ∃ gi, g ki = gi := ⟨_, rfl⟩
              rw [hs1, hDu, hkn, HS.out.2.1 ki, hgi] at hst
              obtain ⟨r1, r2, r3, r4, r5⟩ := hst
              have HNX : Hid (Sim (bitsB W d kk bb T (m + 1)).2 Du ∧ LowNum (bitsB W d kk bb T (m + 1)).2 ∧ ∀ l x, ((bitsB W d kk bb T (m + 1)).2 l x).num = (T l x).num) := Lib.hid ⟨r2, r3, r4⟩
              obtain ⟨dq, hdq⟩ : ∃ dq : Bool, decide ((gi : Int) < (bi : Int)) = dq := ⟨_, rfl⟩
              have hdv : (decide (0 ≤ kn) && decide (kn < (bi : Int))) = dq := by
                rw [← hdq]
                rcases r5 with ⟨r5, r6⟩ | r5
                · rw [r5]; simp at r6 ⊢; omega
                · rw [r5]; simp
              have CD : Hid (∀ (o : Nat → Nat) (w' : World), BkC o w w' pt pu W H d sb Pn.2 Tu g wp Pn.1 q F s0 → Calls Try.prog 14 #[.pointer (some ⟨pu, 0, none⟩), .pointer (some ⟨q, 0, none⟩), .int .i64 (ki : Int), .int .i64 (bi : Int)] w' fun e w2 => e = .returned (.bool dq) ∧ BkC (onew o w' 5) w w2 pt pu W H d sb Pn.2 Du g wp Pn.1 q F s1) := Lib.hid (fun o w' h => by
                have hc := h.dec hkiN bi hbi11 hd8 (by omega) HOK.out hs0r.1 hs0r.2
                rw [r1, hDu, hkn, hdv] at hc
                exact hc)
              have CK : Hid (∀ (o : Nat → Nat) (w' : World), BkC o w w' pt pu W H d sb Pn.2 Du g wp Pn.1 q F s1 → Calls Try.prog 16 #[.pointer (some ⟨pu, 0, none⟩), .int .i64 (ki : Int)] w' fun e w2 => e = .returned (.int .i64 kn) ∧ BkC o w w2 pt pu W H d sb Pn.2 Du g wp Pn.1 q F s1) := Lib.hid (fun o w' h => by
                have hc := h.known hkiN
                rw [hkn] at hc
                exact hc)
              have HMK := Lib.hid hmk
              have HMB := Lib.hid hmb
              have HGI := Lib.hid hgi
              have HS1 := Lib.hid hs1
              have hgn : ¬ (gi : Int) = -1 := by omega
              have hgn2 : ((gi : Int) == -1) = false := by simp
              clear hkz hbz hki hbi hmk hmb hs0 hs1 hDu hkn hgi r1 r2 r3 r4 HM hdv hs0r
              go_wp2_with fail
              refine (wpIn_wide (n := 9)).1 (regionIn_inv (w := wr) (Inv := fun L a' w' => a' = { tmps := #[.int .i64 (W : Int), .int .i64 (H : Int), .slice a2 len2 cap2, .slice (some ⟨b3, f3, none⟩) len3 cap3, .slice (some ⟨b4, f4, none⟩) len4 cap4, undef, undef, undef, undef, undef, u10, .pointer (some ⟨pt, 0, none⟩), .pointer (some ⟨pu, 0, none⟩), .slice (some ⟨sb, 0, none⟩) k k, .int .i64 (k : Int), .pointer (some ⟨wp, 0, none⟩), .int .i64 (i : Int), .int .i64 (i : Int), .pointer (some ⟨q, 0, none⟩), .int .i64 (m : Int), bif L 12 then .int .i64 (ki : Int) else u20, bif L 13 then .int .i64 (bi : Int) else u21, undef, undef, .bool true, .bool false, .int .i64 a0, .int .i64 (m0 : Int), .int .i64 (W : Int), .int .i64 a1, .int .i64 (m1 : Int), .int .i64 (H : Int), .int .i64 (W : Int), .int .i64 (H : Int), .pointer (some ⟨pt, 0, none⟩), .int .i64 (W : Int), .int .i64 (H : Int), .pointer (some ⟨pu, 0, none⟩), .int .i64 (W : Int), .int .i64 (H : Int), .int .i64 (k : Int), .slice (some ⟨sb, 0, none⟩) k k, .int .i64 (k : Int), .slice (some ⟨sb, 0, none⟩) k k, .int .i64 (k : Int), .bool false, u46, u47, u48, u49, u50, u51, u52, u53, u54, u55, u56, u57, u58, u59, u60, u61, u62, u63, u64, u65, u66, u67, u68, u69, u70, u71, u72, u73, .pointer (some ⟨wp, 0, none⟩), .slice (some ⟨b3, f3, none⟩) len3 cap3, .int .i64 (len3 : Int), .slice (some ⟨b4, f4, none⟩) len4 cap4, .int .i64 (len4 : Int), .int .i64 (i : Int), .int .i64 (i : Int), .int .i64 (i : Int), .bool false, u83, u84, u85, u86, u87, u88, u89, u90, u91, u92, u93, u94, u95, u96, u97, u98, u99, .pointer (some ⟨wp, 0, none⟩), .slice A F.length cap, .pointer (some ⟨q, 0, none⟩), .int .i64 (m : Int), .int .i64 (i : Int), .bool true, u106, u107, bif L 0 then .slice (some ⟨b3, f3, none⟩) len3 cap3 else u108, bif L 1 then .int .i64 (m : Int) else u109, bif L 2 then .pointer (some ⟨b3, f3 + m, none⟩) else u110, bif L 3 then .int .i64 kz else u111, bif L 4 then .slice (some ⟨sb, 0, none⟩) k k else u112, bif L 5 then .int .i64 (k : Int) else u113, bif L 6 then .int .i64 (ki : Int) else u114, bif L 7 then .slice (some ⟨b4, f4, none⟩) len4 cap4 else u115, bif L 8 then .int .i64 (m : Int) else u116, bif L 9 then .pointer (some ⟨b4, f4 + m, none⟩) else u117, bif L 10 then .int .i64 bz else u118, bif L 11 then .int .i64 (bi : Int) else u119, u120, u121, u122, u123, u124, u125, u126, u127, u128, u129, u130, u131, u132, u133, u134, u135, u136, u137, u138, u139, u140, u141, u142, u143, u144, u145, u146, u147, u148, u149, u150, u151, u152, u153, u154, u155, u156, u157, u158, u159, u160, u161, u162, u163, u164, u165, undef, undef, undef, undef, undef, undef, undef, undef, undef, undef, undef, undef, undef, undef], defers := [] } ∧ BkC o w w' pt pu W H d sb Pn.2 Tu g wp Pn.1 q F s0) (by kernel_rfl) (by kernel_rfl) ?starts ?steps ?fins)
              case starts => exact ⟨rfl, HC.out.below (below_drewN (Below.refl _ _) 1)⟩
              case steps =>
                intro i hi L a' w' hI hs hu
                obtain ⟨rfl, hph⟩ := hI
                have hL := hu.1
                have hi : i < 14 := hi
                obtain rfl | rfl | rfl | rfl | rfl | rfl | rfl | rfl | rfl | rfl | rfl | rfl | rfl | rfl := (by omega : i = 0 ∨ i = 1 ∨ i = 2 ∨ i = 3 ∨ i = 4 ∨ i = 5 ∨ i = 6 ∨ i = 7 ∨ i = 8 ∨ i = 9 ∨ i = 10 ∨ i = 11 ∨ i = 12 ∨ i = 13)
                · skip
                  refine opIn_run (v := .slice (some ⟨b3, f3, none⟩) len3 cap3) (w' := w') rfl rfl (fun c h => by cases h) (fun _ => trivial) ?_ ⟨by simp [Act.put, upd, hL], by simpa [upd] using hph⟩
                  simp only [hL, cond_true, cond_false]
                  go_simp
                · skip
                  refine opIn_run (v := .int .i64 (m : Int)) (w' := w') rfl rfl (fun c h => by cases h) (fun _ => trivial) ?_ ⟨by simp [Act.put, upd, hL], by simpa [upd] using hph⟩
                  simp only [hL, cond_true, cond_false]
                  go_simp
                · skip
                  have y0 : L 0 = true := up_at hu 0 (by kernel_rfl)
                  have y1 : L 1 = true := up_at hu 1 (by kernel_rfl)
                  refine opIn_run (v := .pointer (some ⟨b3, f3 + m, none⟩)) (w' := w') rfl rfl (fun c h => by cases h) (fun _ => trivial) ?_ ⟨by simp [Act.put, upd, y0, y1, hL], by simpa [upd] using hph⟩
                  simp only [y0, y1, hL, cond_true, cond_false]
                  go_simp
                · skip
                  have y2 : L 2 = true := up_at hu 2 (by kernel_rfl)
                  try simp only [y2, hL, cond_true, cond_false] at hph
                  have hcell := row_cell R3.out (k := m) hi3 hph.b.a.bel
                  rw [HKZ.out] at hcell
                  refine opIn_run (v := .int .i64 kz) (w' := w') rfl rfl (fun c h => by cases h) (fun _ => trivial) ?_ ⟨by simp [Act.put, upd, y2, hL], hph⟩
                  simp only [y2, hL, cond_true, cond_false]
                  go_simp
                · skip
                  refine opIn_run (v := .slice (some ⟨sb, 0, none⟩) k k) (w' := w') rfl rfl (fun c h => by cases h) (fun _ => trivial) ?_ ⟨by simp [Act.put, upd, hL], by simpa [upd] using hph⟩
                  simp only [hL, cond_true, cond_false]
                  go_simp
                · skip
                  have y4 : L 4 = true := up_at hu 4 (by kernel_rfl)
                  refine opIn_run (v := .int .i64 (k : Int)) (w' := w') rfl rfl (fun c h => by cases h) (fun _ => trivial) ?_ ⟨by simp [Act.put, upd, y4, hL], by simpa [upd] using hph⟩
                  simp only [y4, hL, cond_true, cond_false]
                  go_simp
                · skip
                  have y3 : L 3 = true := up_at hu 3 (by kernel_rfl)
                  have y5 : L 5 = true := up_at hu 5 (by kernel_rfl)
                  try simp only [y3, y5, hL, cond_true, cond_false] at hph
                  refine opIn_call (f := 9) (args := #[.int .i64 kz, .int .i64 (k : Int)]) (w' := w') rfl rfl (fun c h => by cases h) (fun _ => trivial) rfl ?_ ((callsIn_wide.2 (some13v kz k ki w' (by omega) (by omega) HMK.out)).mono ?_)
                  · simp only [y3, y5, hL, cond_true, cond_false]
                    go_simp
                  · rintro e w2 ⟨rfl, rfl⟩
                    exact ⟨_, rfl, by simp [Act.put, upd, y3, y5, hL], hph⟩
                · skip
                  refine opIn_run (v := .slice (some ⟨b4, f4, none⟩) len4 cap4) (w' := w') rfl rfl (fun c h => by cases h) (fun _ => trivial) ?_ ⟨by simp [Act.put, upd, hL], by simpa [upd] using hph⟩
                  simp only [hL, cond_true, cond_false]
                  go_simp
                · skip
                  refine opIn_run (v := .int .i64 (m : Int)) (w' := w') rfl rfl (fun c h => by cases h) (fun _ => trivial) ?_ ⟨by simp [Act.put, upd, hL], by simpa [upd] using hph⟩
                  simp only [hL, cond_true, cond_false]
                  go_simp
                · skip
                  have y7 : L 7 = true := up_at hu 7 (by kernel_rfl)
                  have y8 : L 8 = true := up_at hu 8 (by kernel_rfl)
                  refine opIn_run (v := .pointer (some ⟨b4, f4 + m, none⟩)) (w' := w') rfl rfl (fun c h => by cases h) (fun _ => trivial) ?_ ⟨by simp [Act.put, upd, y7, y8, hL], by simpa [upd] using hph⟩
                  simp only [y7, y8, hL, cond_true, cond_false]
                  go_simp
                · skip
                  have y9 : L 9 = true := up_at hu 9 (by kernel_rfl)
                  try simp only [y9, hL, cond_true, cond_false] at hph
                  have hcell := row_cell R4.out (k := m) hi4 hph.b.a.bel
                  rw [HBZ.out] at hcell
                  refine opIn_run (v := .int .i64 bz) (w' := w') rfl rfl (fun c h => by cases h) (fun _ => trivial) ?_ ⟨by simp [Act.put, upd, y9, hL], hph⟩
                  simp only [y9, hL, cond_true, cond_false]
                  go_simp
                · skip
                  have y6 : L 6 = true := up_at hu 6 (by kernel_rfl)
                  have y10 : L 10 = true := up_at hu 10 (by kernel_rfl)
                  try simp only [y6, y10, hL, cond_true, cond_false] at hph
                  refine opIn_call (f := 9) (args := #[.int .i64 bz, .int .i64 12]) (w' := w') rfl rfl (fun c h => by cases h) (fun _ => trivial) rfl ?_ ((callsIn_wide.2 (some13v bz 12 bi w' (by omega) (by omega) HMB.out)).mono ?_)
                  · simp only [y6, y10, hL, cond_true, cond_false]
                    go_simp
                  · rintro e w2 ⟨rfl, rfl⟩
                    exact ⟨_, rfl, by simp [Act.put, upd, y6, y10, hL], hph⟩
                · skip
                  have y0 : L 0 = true := up_at hu 0 (by kernel_rfl)
                  have y1 : L 1 = true := up_at hu 1 (by kernel_rfl)
                  have y2 : L 2 = true := up_at hu 2 (by kernel_rfl)
                  have y3 : L 3 = true := up_at hu 3 (by kernel_rfl)
                  have y4 : L 4 = true := up_at hu 4 (by kernel_rfl)
                  have y5 : L 5 = true := up_at hu 5 (by kernel_rfl)
                  have y6 : L 6 = true := up_at hu 6 (by kernel_rfl)
                  have y11 : L 11 = true := up_at hu 11 (by kernel_rfl)
                  refine opIn_run (v := .int .i64 (ki : Int)) (w' := w') rfl rfl (fun c h => by cases h) (fun _ => trivial) ?_ ⟨by simp [Act.put, upd, y0, y1, y2, y3, y4, y5, y6, y11, hL], by simpa [upd] using hph⟩
                  simp only [y0, y1, y2, y3, y4, y5, y6, y11, hL, cond_true, cond_false]
                  go_simp
                · skip
                  have y0 : L 0 = true := up_at hu 0 (by kernel_rfl)
                  have y1 : L 1 = true := up_at hu 1 (by kernel_rfl)
                  have y2 : L 2 = true := up_at hu 2 (by kernel_rfl)
                  have y3 : L 3 = true := up_at hu 3 (by kernel_rfl)
                  have y4 : L 4 = true := up_at hu 4 (by kernel_rfl)
                  have y5 : L 5 = true := up_at hu 5 (by kernel_rfl)
                  have y6 : L 6 = true := up_at hu 6 (by kernel_rfl)
                  have y7 : L 7 = true := up_at hu 7 (by kernel_rfl)
                  have y8 : L 8 = true := up_at hu 8 (by kernel_rfl)
                  have y9 : L 9 = true := up_at hu 9 (by kernel_rfl)
                  have y10 : L 10 = true := up_at hu 10 (by kernel_rfl)
                  have y11 : L 11 = true := up_at hu 11 (by kernel_rfl)
                  have y12 : L 12 = true := up_at hu 12 (by kernel_rfl)
                  refine opIn_run (v := .int .i64 (bi : Int)) (w' := w') rfl rfl (fun c h => by cases h) (fun _ => trivial) ?_ ⟨by simp [Act.put, upd, y0, y1, y2, y3, y4, y5, y6, y7, y8, y9, y10, y11, y12, hL], by simpa [upd] using hph⟩
                  simp only [y0, y1, y2, y3, y4, y5, y6, y7, y8, y9, y10, y11, y12, hL, cond_true, cond_false]
                  go_simp
              case fins =>
                intro L a' w' hall hI
                obtain ⟨rfl, hph⟩ := hI
                have l0 := hall 0 (by decide)
                have l1 := hall 1 (by decide)
                have l2 := hall 2 (by decide)
                have l3 := hall 3 (by decide)
                have l4 := hall 4 (by decide)
                have l5 := hall 5 (by decide)
                have l6 := hall 6 (by decide)
                have l7 := hall 7 (by decide)
                have l8 := hall 8 (by decide)
                have l9 := hall 9 (by decide)
                have l10 := hall 10 (by decide)
                have l11 := hall 11 (by decide)
                have l12 := hall 12 (by decide)
                have l13 := hall 13 (by decide)
                simp only [l0, l1, l2, l3, l4, l5, l6, l7, l8, l9, l10, l11, l12, l13, cond_true] at hph ⊢
                clear l0 l1 l2 l3 l4 l5 l6 l7 l8 l9 l10 l11 l12 l13 hall
                have HC9 := Lib.hid hph
                clear hph HMK HMB HKZ HBZ HC
                obtain ⟨wf, hwf⟩ : ∃ wf : World, wf = w' := ⟨_, rfl⟩
                rw [← hwf] at HC9 ⊢
                clear hwf
                rcases (by
                  rcases r5 with ⟨r5, r6⟩ | r5
                  · exact .inl ⟨r5, by omega⟩
                  · by_cases hh : (gi : Int) < (bi : Int)
                    · exact .inr (.inl ⟨r5, hh⟩)
                    · exact .inr (.inr ⟨r5, hh⟩) : (kn = -1 ∧ ¬ (gi : Int) < (bi : Int)) ∨ (kn = (gi : Int) ∧ (gi : Int) < (bi : Int)) ∨ (kn = (gi : Int) ∧ ¬ (gi : Int) < (bi : Int))) with ⟨rfl, hgb⟩ | ⟨rfl, hgb⟩ | ⟨rfl, hgb⟩
                · have e1 : decide ((gi : Int) < (bi : Int)) = false := by simp; omega
                  have e2 : ¬ gi < bi := by omega
                  have e3 : bi ≤ gi := by omega
                  obtain rfl : dq = false := by rw [← hdq]; exact e1
                  clear hdq r5
                  go_wp2_with fail
                  refine (wpIn_wide (n := 9)).1 (regionIn_inv (w := wf) (Inv := fun L a' w' => ∃ (o4 : Nat → Nat), a' = { tmps := #[.int .i64 (W : Int), .int .i64 (H : Int), .slice a2 len2 cap2, .slice (some ⟨b3, f3, none⟩) len3 cap3, .slice (some ⟨b4, f4, none⟩) len4 cap4, undef, undef, undef, undef, undef, u10, .pointer (some ⟨pt, 0, none⟩), .pointer (some ⟨pu, 0, none⟩), .slice (some ⟨sb, 0, none⟩) k k, .int .i64 (k : Int), .pointer (some ⟨wp, 0, none⟩), .int .i64 (i : Int), .int .i64 (i : Int), .pointer (some ⟨q, 0, none⟩), .int .i64 (m : Int), .int .i64 (ki : Int), .int .i64 (bi : Int), undef, undef, .bool true, .bool false, .int .i64 a0, .int .i64 (m0 : Int), .int .i64 (W : Int), .int .i64 a1, .int .i64 (m1 : Int), .int .i64 (H : Int), .int .i64 (W : Int), .int .i64 (H : Int), .pointer (some ⟨pt, 0, none⟩), .int .i64 (W : Int), .int .i64 (H : Int), .pointer (some ⟨pu, 0, none⟩), .int .i64 (W : Int), .int .i64 (H : Int), .int .i64 (k : Int), .slice (some ⟨sb, 0, none⟩) k k, .int .i64 (k : Int), .slice (some ⟨sb, 0, none⟩) k k, .int .i64 (k : Int), .bool false, u46, u47, u48, u49, u50, u51, u52, u53, u54, u55, u56, u57, u58, u59, u60, u61, u62, u63, u64, u65, u66, u67, u68, u69, u70, u71, u72, u73, .pointer (some ⟨wp, 0, none⟩), .slice (some ⟨b3, f3, none⟩) len3 cap3, .int .i64 (len3 : Int), .slice (some ⟨b4, f4, none⟩) len4 cap4, .int .i64 (len4 : Int), .int .i64 (i : Int), .int .i64 (i : Int), .int .i64 (i : Int), .bool false, u83, u84, u85, u86, u87, u88, u89, u90, u91, u92, u93, u94, u95, u96, u97, u98, u99, .pointer (some ⟨wp, 0, none⟩), .slice A F.length cap, .pointer (some ⟨q, 0, none⟩), .int .i64 (m : Int), .int .i64 (i : Int), .bool true, u106, u107, .slice (some ⟨b3, f3, none⟩) len3 cap3, .int .i64 (m : Int), .pointer (some ⟨b3, f3 + m, none⟩), .int .i64 kz, .slice (some ⟨sb, 0, none⟩) k k, .int .i64 (k : Int), .int .i64 (ki : Int), .slice (some ⟨b4, f4, none⟩) len4 cap4, .int .i64 (m : Int), .pointer (some ⟨b4, f4 + m, none⟩), .int .i64 bz, .int .i64 (bi : Int), bif L 0 then .pointer (some ⟨pu, 0, none⟩) else u120, bif L 1 then .pointer (some ⟨q, 0, none⟩) else u121, bif L 2 then .int .i64 (ki : Int) else u122, bif L 3 then .int .i64 (bi : Int) else u123, bif L 4 then .bool false else u124, bif L 5 then .slice (some ⟨sb, 0, none⟩) k k else u125, bif L 6 then .int .i64 (ki : Int) else u126, bif L 7 then .pointer (some ⟨sb, ki, none⟩) else u127, bif L 8 then .int .i64 (gi : Int) else u128, bif L 9 then .int .i64 (bi : Int) else u129, bif L 10 then .bool false else u130, bif L 11 then .bool false else u131, bif L 12 then .bool false else u132, bif L 13 then .pointer (some ⟨pu, 0, none⟩) else u133, bif L 14 then .int .i64 (ki : Int) else u134, bif L 15 then .int .i64 (-1) else u135, bif L 16 then .bool false else u136, bif L 17 then .bool false else u137, bif L 18 then undef else u138, bif L 19 then undef else u139, bif L 20 then undef else u140, bif L 21 then undef else u141, bif L 22 then undef else u142, bif L 23 then undef else u143, bif L 24 then undef else u144, bif L 25 then undef else u145, bif L 26 then .bool false else u146, bif L 27 then .bool false else u147, bif L 28 then .bool false else u148, bif L 29 then .slice (some ⟨sb, 0, none⟩) k k else u149, bif L 30 then .int .i64 (ki : Int) else u150, bif L 31 then .pointer (some ⟨sb, ki, none⟩) else u151, bif L 32 then .int .i64 (gi : Int) else u152, bif L 33 then .int .i64 (bi : Int) else u153, bif L 34 then .bool false else u154, bif L 35 then .bool false else u155, bif L 36 then undef else u156, bif L 37 then undef else u157, bif L 38 then undef else u158, bif L 39 then undef else u159, bif L 40 then undef else u160, bif L 41 then undef else u161, bif L 42 then undef else u162, bif L 43 then undef else u163, bif L 44 then .bool false else u164, bif L 45 then .bool false else u165, undef, undef, undef, undef, undef, undef, undef, undef, undef, undef, undef, undef, undef, undef], defers := [] } ∧ (bif L 4 then (BkC o4 w w' pt pu W H d sb Pn.2 Du g wp Pn.1 q F s1) else BkC o w w' pt pu W H d sb Pn.2 Tu g wp Pn.1 q F s0)) (by kernel_rfl) (by kernel_rfl) ?starttA ?steptA ?fintA)
                  case starttA => exact ⟨o, rfl, HC9.out.below (below_drewN (Below.refl _ _) 1)⟩
                  case steptA =>
                    intro i hi L a' w' hI hs hu
                    obtain ⟨o4, rfl, hph⟩ := hI
                    have hL := hu.1
                    have hi : i < 46 := hi
                    obtain rfl | rfl | rfl | rfl | rfl | rfl | rfl | rfl | rfl | rfl | rfl | rfl | rfl | rfl | rfl | rfl | rfl | rfl | rfl | rfl | rfl | rfl | rfl | rfl | rfl | rfl | rfl | rfl | rfl | rfl | rfl | rfl | rfl | rfl | rfl | rfl | rfl | rfl | rfl | rfl | rfl | rfl | rfl | rfl | rfl | rfl := (by omega : i = 0 ∨ i = 1 ∨ i = 2 ∨ i = 3 ∨ i = 4 ∨ i = 5 ∨ i = 6 ∨ i = 7 ∨ i = 8 ∨ i = 9 ∨ i = 10 ∨ i = 11 ∨ i = 12 ∨ i = 13 ∨ i = 14 ∨ i = 15 ∨ i = 16 ∨ i = 17 ∨ i = 18 ∨ i = 19 ∨ i = 20 ∨ i = 21 ∨ i = 22 ∨ i = 23 ∨ i = 24 ∨ i = 25 ∨ i = 26 ∨ i = 27 ∨ i = 28 ∨ i = 29 ∨ i = 30 ∨ i = 31 ∨ i = 32 ∨ i = 33 ∨ i = 34 ∨ i = 35 ∨ i = 36 ∨ i = 37 ∨ i = 38 ∨ i = 39 ∨ i = 40 ∨ i = 41 ∨ i = 42 ∨ i = 43 ∨ i = 44 ∨ i = 45)
                    · skip
                      have n4 : L 4 = false := not_yet hL fun h => shut_at hs 4 0 (by kernel_rfl) (h)
                      refine opIn_run (v := .pointer (some ⟨pu, 0, none⟩)) (w' := w') rfl rfl (fun c h => by cases h) (fun _ => trivial) ?_ ⟨o4, by simp [Act.put, upd, n4, hL], by simpa [upd] using hph⟩
                      simp only [n4, hL, cond_true, cond_false]
                      go_simp
                    · skip
                      have n4 : L 4 = false := not_yet hL fun h => shut_at hs 4 1 (by kernel_rfl) (h)
                      refine opIn_run (v := .pointer (some ⟨q, 0, none⟩)) (w' := w') rfl rfl (fun c h => by cases h) (fun _ => trivial) ?_ ⟨o4, by simp [Act.put, upd, n4, hL], by simpa [upd] using hph⟩
                      simp only [n4, hL, cond_true, cond_false]
                      go_simp
                    · skip
                      have n4 : L 4 = false := not_yet hL fun h => shut_at hs 4 2 (by kernel_rfl) (h)
                      refine opIn_run (v := .int .i64 (ki : Int)) (w' := w') rfl rfl (fun c h => by cases h) (fun _ => trivial) ?_ ⟨o4, by simp [Act.put, upd, n4, hL], by simpa [upd] using hph⟩
                      simp only [n4, hL, cond_true, cond_false]
                      go_simp
                    · skip
                      have n4 : L 4 = false := not_yet hL fun h => shut_at hs 4 3 (by kernel_rfl) (h)
                      refine opIn_run (v := .int .i64 (bi : Int)) (w' := w') rfl rfl (fun c h => by cases h) (fun _ => trivial) ?_ ⟨o4, by simp [Act.put, upd, n4, hL], by simpa [upd] using hph⟩
                      simp only [n4, hL, cond_true, cond_false]
                      go_simp
                    · skip
                      have y0 : L 0 = true := up_at hu 0 (by kernel_rfl)
                      have y1 : L 1 = true := up_at hu 1 (by kernel_rfl)
                      have y2 : L 2 = true := up_at hu 2 (by kernel_rfl)
                      have y3 : L 3 = true := up_at hu 3 (by kernel_rfl)
                      try simp only [y0, y1, y2, y3, hL, cond_true, cond_false] at hph
                      refine opIn_call (f := 14) (args := #[.pointer (some ⟨pu, 0, none⟩), .pointer (some ⟨q, 0, none⟩), .int .i64 (ki : Int), .int .i64 (bi : Int)]) (w' := w') rfl rfl (fun c h => by cases h) (fun _ => trivial) rfl ?_ ((callsIn_wide.2 (CD.out _ _ hph)).mono ?_)
                      · simp only [y0, y1, y2, y3, hL, cond_true, cond_false]
                        go_simp
                      · rintro e w2 ⟨rfl, hk9⟩
                        exact ⟨_, rfl, onew o w' 5, by simp [Act.put, upd, y0, y1, y2, y3, hL], by simp only [upd, y0, y1, y2, y3, hL]; exact hk9⟩
                    · skip
                      refine opIn_run (v := .slice (some ⟨sb, 0, none⟩) k k) (w' := w') rfl rfl (fun c h => by cases h) (fun _ => trivial) ?_ ⟨o4, by simp [Act.put, upd, hL], by simpa [upd] using hph⟩
                      simp only [hL, cond_true, cond_false]
                      go_simp
                    · skip
                      refine opIn_run (v := .int .i64 (ki : Int)) (w' := w') rfl rfl (fun c h => by cases h) (fun _ => trivial) ?_ ⟨o4, by simp [Act.put, upd, hL], by simpa [upd] using hph⟩
                      simp only [hL, cond_true, cond_false]
                      go_simp
                    · skip
                      have y5 : L 5 = true := up_at hu 5 (by kernel_rfl)
                      have y6 : L 6 = true := up_at hu 6 (by kernel_rfl)
                      refine opIn_run (v := .pointer (some ⟨sb, ki, none⟩)) (w' := w') rfl rfl (fun c h => by cases h) (fun _ => trivial) ?_ ⟨o4, by simp [Act.put, upd, y5, y6, hL], by simpa [upd] using hph⟩
                      simp only [y5, y6, hL, cond_true, cond_false]
                      go_simp
                    · skip
                      have y7 : L 7 = true := up_at hu 7 (by kernel_rfl)
                      try simp only [y7, hL, cond_true, cond_false] at hph
                      have hcl : w'.cell? ⟨sb, ki, none⟩ = some (.int .i64 ((g ki : Nat) : Int)) := by cases h4 : L 4 <;> simp only [h4, cond_true, cond_false] at hph <;> exact hph.b.a.s.cell hkiN
                      rw [HGI.out] at hcl
                      refine opIn_run (v := .int .i64 (gi : Int)) (w' := w') rfl rfl (fun c h => by cases h) (fun _ => trivial) ?_ ⟨o4, by simp [Act.put, upd, y7, hL], by simp only [upd, y7, hL]; exact hph⟩
                      simp only [y7, hL, cond_true, cond_false]
                      go_simp
                    · skip
                      refine opIn_run (v := .int .i64 (bi : Int)) (w' := w') rfl rfl (fun c h => by cases h) (fun _ => trivial) ?_ ⟨o4, by simp [Act.put, upd, hL], by simpa [upd] using hph⟩
                      simp only [hL, cond_true, cond_false]
                      go_simp
                    · skip
                      have y8 : L 8 = true := up_at hu 8 (by kernel_rfl)
                      have y9 : L 9 = true := up_at hu 9 (by kernel_rfl)
                      refine opIn_run (v := .bool false) (w' := w') rfl rfl (fun c h => by cases h) (fun _ => trivial) ?_ ⟨o4, by simp [Act.put, upd, y8, y9, hL], by simpa [upd] using hph⟩
                      simp only [y8, y9, hL, cond_true, cond_false]
                      go_simp
                    · skip
                      have y4 : L 4 = true := up_at hu 4 (by kernel_rfl)
                      have y10 : L 10 = true := up_at hu 10 (by kernel_rfl)
                      refine opIn_run (v := .bool false) (w' := w') rfl rfl (fun c h => by cases h) (fun _ => trivial) ?_ ⟨o4, by simp [Act.put, upd, y4, y10, hL], by simpa [upd] using hph⟩
                      simp only [y4, y10, hL, cond_true, cond_false]
                      go_simp
                    · skip
                      have y4 : L 4 = true := up_at hu 4 (by kernel_rfl)
                      have y11 : L 11 = true := up_at hu 11 (by kernel_rfl)
                      refine opIn_run (v := .bool false) (w' := w') rfl rfl (fun c h => by cases h) (fun _ => trivial) ?_ ⟨o4, by simp [Act.put, upd, y4, y11, hL], by simpa [upd] using hph⟩
                      simp only [y4, y11, hL, cond_true, cond_false]
                      go_simp
                    · skip
                      have y4 : L 4 = true := shut_at hs 12 4 (by kernel_rfl) (up_at hu 12 (by kernel_rfl))
                      have y12 : L 12 = true := up_at hu 12 (by kernel_rfl)
                      refine opIn_run_g (v := .pointer (some ⟨pu, 0, none⟩)) (w' := w') (j := 12) (b := false) rfl rfl (by simp [yielded, y4, y12, hL]) (fun c h => by cases h) (fun _ => trivial) ?_ ⟨o4, by simp [Act.put, upd, y4, y12, hL], by simpa [upd] using hph⟩
                      simp only [y4, y12, hL, cond_true, cond_false]
                      go_simp
                    · skip
                      have y4 : L 4 = true := shut_at hs 12 4 (by kernel_rfl) (up_at hu 12 (by kernel_rfl))
                      have y12 : L 12 = true := up_at hu 12 (by kernel_rfl)
                      refine opIn_run_g (v := .int .i64 (ki : Int)) (w' := w') (j := 12) (b := false) rfl rfl (by simp [yielded, y4, y12, hL]) (fun c h => by cases h) (fun _ => trivial) ?_ ⟨o4, by simp [Act.put, upd, y4, y12, hL], by simpa [upd] using hph⟩
                      simp only [y4, y12, hL, cond_true, cond_false]
                      go_simp
                    · skip
                      have y4 : L 4 = true := shut_at hs 12 4 (by kernel_rfl) (up_at hu 12 (by kernel_rfl))
                      have y12 : L 12 = true := up_at hu 12 (by kernel_rfl)
                      have y13 : L 13 = true := up_at hu 13 (by kernel_rfl)
                      have y14 : L 14 = true := up_at hu 14 (by kernel_rfl)
                      try simp only [y4, y12, y13, y14, hL, cond_true, cond_false] at hph
                      refine opIn_call_g (f := 16) (args := #[.pointer (some ⟨pu, 0, none⟩), .int .i64 (ki : Int)]) (w' := w') (j := 12) (b := false) rfl rfl (by simp [yielded, y4, y12, y13, y14, hL]) (fun c h => by cases h) (fun _ => trivial) rfl ?_ ((callsIn_wide.2 (CK.out _ _ hph)).mono ?_)
                      · simp only [y4, y12, y13, y14, hL, cond_true, cond_false]
                        go_simp
                      · rintro e w2 ⟨rfl, hk9⟩
                        exact ⟨_, rfl, o4, by simp [Act.put, upd, y4, y12, y13, y14, hL], by simp only [upd, y4, y12, y13, y14, hL]; exact hk9⟩
                    · skip
                      have y4 : L 4 = true := shut_at hs 12 4 (by kernel_rfl) (up_at hu 12 (by kernel_rfl))
                      have y12 : L 12 = true := up_at hu 12 (by kernel_rfl)
                      have y15 : L 15 = true := up_at hu 15 (by kernel_rfl)
                      refine opIn_run_g (v := .bool false) (w' := w') (j := 12) (b := false) rfl rfl (by simp [yielded, y4, y12, y15, hL]) (fun c h => by cases h) (fun _ => trivial) ?_ ⟨o4, by simp [Act.put, upd, y4, y12, y15, hL], by simpa [upd] using hph⟩
                      simp only [y4, y12, y15, hL, cond_true, cond_false]
                      go_simp
                    · skip
                      have y4 : L 4 = true := shut_at hs 12 4 (by kernel_rfl) (up_at hu 12 (by kernel_rfl))
                      have y12 : L 12 = true := up_at hu 12 (by kernel_rfl)
                      have y15 : L 15 = true := up_at hu 15 (by kernel_rfl)
                      have y16 : L 16 = true := up_at hu 16 (by kernel_rfl)
                      refine opIn_run_g (v := .bool false) (w' := w') (j := 12) (b := false) rfl rfl (by simp [yielded, y4, y12, y15, y16, hL]) (fun c h => by cases h) (fun _ => trivial) ?_ ⟨o4, by simp [Act.put, upd, y4, y12, y15, y16, hL], by simpa [upd] using hph⟩
                      simp only [y4, y12, y15, y16, hL, cond_true, cond_false]
                      go_simp
                    · skip
                      have y4 : L 4 = true := shut_at hs 12 4 (by kernel_rfl) (shut_at hs 17 12 (by kernel_rfl) (up_at hu 17 (by kernel_rfl)))
                      have y17 : L 17 = true := up_at hu 17 (by kernel_rfl)
                      exact opIn_not_g (j := 17) (b := true) (c := false) rfl rfl (by simp [yielded, y4, y17, hL]) (by decide) (fun _ => trivial) ⟨o4, by simp [Act.put, upd, y4, y17, hL], by simpa [upd] using hph⟩
                    · skip
                      have y4 : L 4 = true := shut_at hs 12 4 (by kernel_rfl) (shut_at hs 17 12 (by kernel_rfl) (up_at hu 17 (by kernel_rfl)))
                      have y17 : L 17 = true := up_at hu 17 (by kernel_rfl)
                      exact opIn_not_g (j := 17) (b := true) (c := false) rfl rfl (by simp [yielded, y4, y17, hL]) (by decide) (fun _ => trivial) ⟨o4, by simp [Act.put, upd, y4, y17, hL], by simpa [upd] using hph⟩
                    · skip
                      have y4 : L 4 = true := shut_at hs 12 4 (by kernel_rfl) (shut_at hs 17 12 (by kernel_rfl) (up_at hu 17 (by kernel_rfl)))
                      have y17 : L 17 = true := up_at hu 17 (by kernel_rfl)
                      have y18 : L 18 = true := up_at hu 18 (by kernel_rfl)
                      have y19 : L 19 = true := up_at hu 19 (by kernel_rfl)
                      exact opIn_not_g (j := 17) (b := true) (c := false) rfl rfl (by simp [yielded, y4, y17, y18, y19, hL]) (by decide) (fun _ => trivial) ⟨o4, by simp [Act.put, upd, y4, y17, y18, y19, hL], by simpa [upd] using hph⟩
                    · skip
                      have y4 : L 4 = true := shut_at hs 12 4 (by kernel_rfl) (shut_at hs 17 12 (by kernel_rfl) (up_at hu 17 (by kernel_rfl)))
                      have y17 : L 17 = true := up_at hu 17 (by kernel_rfl)
                      exact opIn_not_g (j := 17) (b := true) (c := false) rfl rfl (by simp [yielded, y4, y17, hL]) (by decide) (fun _ => trivial) ⟨o4, by simp [Act.put, upd, y4, y17, hL], by simpa [upd] using hph⟩
                    · skip
                      have y4 : L 4 = true := shut_at hs 12 4 (by kernel_rfl) (shut_at hs 17 12 (by kernel_rfl) (up_at hu 17 (by kernel_rfl)))
                      have y17 : L 17 = true := up_at hu 17 (by kernel_rfl)
                      exact opIn_not_g (j := 17) (b := true) (c := false) rfl rfl (by simp [yielded, y4, y17, hL]) (by decide) (fun _ => trivial) ⟨o4, by simp [Act.put, upd, y4, y17, hL], by simpa [upd] using hph⟩
                    · skip
                      have y4 : L 4 = true := shut_at hs 12 4 (by kernel_rfl) (shut_at hs 17 12 (by kernel_rfl) (up_at hu 17 (by kernel_rfl)))
                      have y17 : L 17 = true := up_at hu 17 (by kernel_rfl)
                      have y21 : L 21 = true := up_at hu 21 (by kernel_rfl)
                      have y22 : L 22 = true := up_at hu 22 (by kernel_rfl)
                      exact opIn_not_g (j := 17) (b := true) (c := false) rfl rfl (by simp [yielded, y4, y17, y21, y22, hL]) (by decide) (fun _ => trivial) ⟨o4, by simp [Act.put, upd, y4, y17, y21, y22, hL], by simpa [upd] using hph⟩
                    · skip
                      have y4 : L 4 = true := shut_at hs 12 4 (by kernel_rfl) (shut_at hs 17 12 (by kernel_rfl) (up_at hu 17 (by kernel_rfl)))
                      have y17 : L 17 = true := up_at hu 17 (by kernel_rfl)
                      have y23 : L 23 = true := up_at hu 23 (by kernel_rfl)
                      exact opIn_not_g (j := 17) (b := true) (c := false) rfl rfl (by simp [yielded, y4, y17, y23, hL]) (by decide) (fun _ => trivial) ⟨o4, by simp [Act.put, upd, y4, y17, y23, hL], by simpa [upd] using hph⟩
                    · skip
                      have y4 : L 4 = true := shut_at hs 12 4 (by kernel_rfl) (shut_at hs 17 12 (by kernel_rfl) (up_at hu 17 (by kernel_rfl)))
                      have y17 : L 17 = true := up_at hu 17 (by kernel_rfl)
                      have y20 : L 20 = true := up_at hu 20 (by kernel_rfl)
                      have y24 : L 24 = true := up_at hu 24 (by kernel_rfl)
                      exact opIn_not_g (j := 17) (b := true) (c := false) rfl rfl (by simp [yielded, y4, y17, y20, y24, hL]) (by decide) (fun _ => trivial) ⟨o4, by simp [Act.put, upd, y4, y17, y20, y24, hL], by simpa [upd] using hph⟩
                    · skip
                      have y4 : L 4 = true := shut_at hs 12 4 (by kernel_rfl) (up_at hu 12 (by kernel_rfl))
                      have y12 : L 12 = true := up_at hu 12 (by kernel_rfl)
                      have y17 : L 17 = true := up_at hu 17 (by kernel_rfl)
                      have y25 : L 25 = true := up_at hu 25 (by kernel_rfl)
                      refine opIn_run_g (v := .bool false) (w' := w') (j := 12) (b := false) rfl rfl (by simp [yielded, y4, y12, y17, y25, hL]) (fun c h => by cases h) (fun _ => trivial) ?_ ⟨o4, by simp [Act.put, upd, y4, y12, y17, y25, hL], by simpa [upd] using hph⟩
                      simp only [y4, y12, y17, y25, hL, cond_true, cond_false]
                      go_simp
                    · skip
                      have y4 : L 4 = true := shut_at hs 12 4 (by kernel_rfl) (up_at hu 12 (by kernel_rfl))
                      have y12 : L 12 = true := up_at hu 12 (by kernel_rfl)
                      have y26 : L 26 = true := up_at hu 26 (by kernel_rfl)
                      refine opIn_run (v := .bool false) (w' := w') rfl rfl (fun c h => by cases h) (fun _ => trivial) ?_ ⟨o4, by simp [Act.put, upd, y4, y12, y26, hL], by simpa [upd] using hph⟩
                      simp only [y4, y12, y26, hL, cond_true, cond_false]
                      go_simp
                    · skip
                      have y4 : L 4 = true := shut_at hs 12 4 (by kernel_rfl) (shut_at hs 17 12 (by kernel_rfl) (shut_at hs 20 17 (by kernel_rfl) (up_at hu 20 (by kernel_rfl))))
                      have y20 : L 20 = true := up_at hu 20 (by kernel_rfl)
                      have y27 : L 27 = true := up_at hu 27 (by kernel_rfl)
                      refine opIn_run (v := .bool false) (w' := w') rfl rfl (fun c h => by cases h) (fun _ => trivial) ?_ ⟨o4, by simp [Act.put, upd, y4, y20, y27, hL], by simpa [upd] using hph⟩
                      simp only [y4, y20, y27, hL, cond_true, cond_false]
                      go_simp
                    · skip
                      have y4 : L 4 = true := shut_at hs 12 4 (by kernel_rfl) (shut_at hs 17 12 (by kernel_rfl) (shut_at hs 20 17 (by kernel_rfl) (shut_at hs 28 20 (by kernel_rfl) (up_at hu 28 (by kernel_rfl)))))
                      have y28 : L 28 = true := up_at hu 28 (by kernel_rfl)
                      refine opIn_run_g (v := .slice (some ⟨sb, 0, none⟩) k k) (w' := w') (j := 28) (b := false) rfl rfl (by simp [yielded, y4, y28, hL]) (fun c h => by cases h) (fun _ => trivial) ?_ ⟨o4, by simp [Act.put, upd, y4, y28, hL], by simpa [upd] using hph⟩
                      simp only [y4, y28, hL, cond_true, cond_false]
                      go_simp
                    · skip
                      have y4 : L 4 = true := shut_at hs 12 4 (by kernel_rfl) (shut_at hs 17 12 (by kernel_rfl) (shut_at hs 20 17 (by kernel_rfl) (shut_at hs 28 20 (by kernel_rfl) (up_at hu 28 (by kernel_rfl)))))
                      have y28 : L 28 = true := up_at hu 28 (by kernel_rfl)
                      refine opIn_run_g (v := .int .i64 (ki : Int)) (w' := w') (j := 28) (b := false) rfl rfl (by simp [yielded, y4, y28, hL]) (fun c h => by cases h) (fun _ => trivial) ?_ ⟨o4, by simp [Act.put, upd, y4, y28, hL], by simpa [upd] using hph⟩
                      simp only [y4, y28, hL, cond_true, cond_false]
                      go_simp
                    · skip
                      have y4 : L 4 = true := shut_at hs 12 4 (by kernel_rfl) (shut_at hs 17 12 (by kernel_rfl) (shut_at hs 20 17 (by kernel_rfl) (shut_at hs 28 20 (by kernel_rfl) (up_at hu 28 (by kernel_rfl)))))
                      have y28 : L 28 = true := up_at hu 28 (by kernel_rfl)
                      have y29 : L 29 = true := up_at hu 29 (by kernel_rfl)
                      have y30 : L 30 = true := up_at hu 30 (by kernel_rfl)
                      refine opIn_run_g (v := .pointer (some ⟨sb, ki, none⟩)) (w' := w') (j := 28) (b := false) rfl rfl (by simp [yielded, y4, y28, y29, y30, hL]) (fun c h => by cases h) (fun _ => trivial) ?_ ⟨o4, by simp [Act.put, upd, y4, y28, y29, y30, hL], by simpa [upd] using hph⟩
                      simp only [y4, y28, y29, y30, hL, cond_true, cond_false]
                      go_simp
                    · skip
                      have y4 : L 4 = true := shut_at hs 12 4 (by kernel_rfl) (shut_at hs 17 12 (by kernel_rfl) (shut_at hs 20 17 (by kernel_rfl) (shut_at hs 28 20 (by kernel_rfl) (up_at hu 28 (by kernel_rfl)))))
                      have y28 : L 28 = true := up_at hu 28 (by kernel_rfl)
                      have y31 : L 31 = true := up_at hu 31 (by kernel_rfl)
                      try simp only [y4, y28, y31, hL, cond_true, cond_false] at hph
                      have hcl := hph.b.a.s.cell hkiN
                      rw [HGI.out] at hcl
                      refine opIn_run_g (v := .int .i64 (gi : Int)) (w' := w') (j := 28) (b := false) rfl rfl (by simp [yielded, y4, y28, y31, hL]) (fun c h => by cases h) (fun _ => trivial) ?_ ⟨o4, by simp [Act.put, upd, y4, y28, y31, hL], by simp only [upd, y4, y28, y31, hL]; exact hph⟩
                      simp only [y4, y28, y31, hL, cond_true, cond_false]
                      go_simp
                    · skip
                      have y4 : L 4 = true := shut_at hs 12 4 (by kernel_rfl) (shut_at hs 17 12 (by kernel_rfl) (shut_at hs 20 17 (by kernel_rfl) (shut_at hs 28 20 (by kernel_rfl) (up_at hu 28 (by kernel_rfl)))))
                      have y28 : L 28 = true := up_at hu 28 (by kernel_rfl)
                      refine opIn_run_g (v := .int .i64 (bi : Int)) (w' := w') (j := 28) (b := false) rfl rfl (by simp [yielded, y4, y28, hL]) (fun c h => by cases h) (fun _ => trivial) ?_ ⟨o4, by simp [Act.put, upd, y4, y28, hL], by simpa [upd] using hph⟩
                      simp only [y4, y28, hL, cond_true, cond_false]
                      go_simp
                    · skip
                      have y4 : L 4 = true := shut_at hs 12 4 (by kernel_rfl) (shut_at hs 17 12 (by kernel_rfl) (shut_at hs 20 17 (by kernel_rfl) (shut_at hs 28 20 (by kernel_rfl) (up_at hu 28 (by kernel_rfl)))))
                      have y28 : L 28 = true := up_at hu 28 (by kernel_rfl)
                      have y32 : L 32 = true := up_at hu 32 (by kernel_rfl)
                      have y33 : L 33 = true := up_at hu 33 (by kernel_rfl)
                      refine opIn_run_g (v := .bool false) (w' := w') (j := 28) (b := false) rfl rfl (by simp [yielded, y4, y28, y32, y33, hL]) (fun c h => by cases h) (fun _ => trivial) ?_ ⟨o4, by simp [Act.put, upd, y4, y28, y32, y33, hL], by simpa [upd] using hph⟩
                      simp only [y4, y28, y32, y33, hL, cond_true, cond_false]
                      go_simp
                    · skip
                      have y4 : L 4 = true := shut_at hs 12 4 (by kernel_rfl) (shut_at hs 17 12 (by kernel_rfl) (shut_at hs 20 17 (by kernel_rfl) (shut_at hs 28 20 (by kernel_rfl) (up_at hu 28 (by kernel_rfl)))))
                      have y28 : L 28 = true := up_at hu 28 (by kernel_rfl)
                      have y34 : L 34 = true := up_at hu 34 (by kernel_rfl)
                      refine opIn_run_g (v := .bool false) (w' := w') (j := 28) (b := false) rfl rfl (by simp [yielded, y4, y28, y34, hL]) (fun c h => by cases h) (fun _ => trivial) ?_ ⟨o4, by simp [Act.put, upd, y4, y28, y34, hL], by simpa [upd] using hph⟩
                      simp only [y4, y28, y34, hL, cond_true, cond_false]
                      go_simp
                    · skip
                      have y4 : L 4 = true := shut_at hs 12 4 (by kernel_rfl) (shut_at hs 17 12 (by kernel_rfl) (shut_at hs 20 17 (by kernel_rfl) (shut_at hs 28 20 (by kernel_rfl) (shut_at hs 35 28 (by kernel_rfl) (up_at hu 35 (by kernel_rfl))))))
                      have y35 : L 35 = true := up_at hu 35 (by kernel_rfl)
                      exact opIn_not_g (j := 35) (b := true) (c := false) rfl rfl (by simp [yielded, y4, y35, hL]) (by decide) (fun _ => trivial) ⟨o4, by simp [Act.put, upd, y4, y35, hL], by simpa [upd] using hph⟩
                    · skip
                      have y4 : L 4 = true := shut_at hs 12 4 (by kernel_rfl) (shut_at hs 17 12 (by kernel_rfl) (shut_at hs 20 17 (by kernel_rfl) (shut_at hs 28 20 (by kernel_rfl) (shut_at hs 35 28 (by kernel_rfl) (up_at hu 35 (by kernel_rfl))))))
                      have y35 : L 35 = true := up_at hu 35 (by kernel_rfl)
                      exact opIn_not_g (j := 35) (b := true) (c := false) rfl rfl (by simp [yielded, y4, y35, hL]) (by decide) (fun _ => trivial) ⟨o4, by simp [Act.put, upd, y4, y35, hL], by simpa [upd] using hph⟩
                    · skip
                      have y4 : L 4 = true := shut_at hs 12 4 (by kernel_rfl) (shut_at hs 17 12 (by kernel_rfl) (shut_at hs 20 17 (by kernel_rfl) (shut_at hs 28 20 (by kernel_rfl) (shut_at hs 35 28 (by kernel_rfl) (up_at hu 35 (by kernel_rfl))))))
                      have y35 : L 35 = true := up_at hu 35 (by kernel_rfl)
                      have y36 : L 36 = true := up_at hu 36 (by kernel_rfl)
                      have y37 : L 37 = true := up_at hu 37 (by kernel_rfl)
                      exact opIn_not_g (j := 35) (b := true) (c := false) rfl rfl (by simp [yielded, y4, y35, y36, y37, hL]) (by decide) (fun _ => trivial) ⟨o4, by simp [Act.put, upd, y4, y35, y36, y37, hL], by simpa [upd] using hph⟩
                    · skip
                      have y4 : L 4 = true := shut_at hs 12 4 (by kernel_rfl) (shut_at hs 17 12 (by kernel_rfl) (shut_at hs 20 17 (by kernel_rfl) (shut_at hs 28 20 (by kernel_rfl) (shut_at hs 35 28 (by kernel_rfl) (up_at hu 35 (by kernel_rfl))))))
                      have y35 : L 35 = true := up_at hu 35 (by kernel_rfl)
                      exact opIn_not_g (j := 35) (b := true) (c := false) rfl rfl (by simp [yielded, y4, y35, hL]) (by decide) (fun _ => trivial) ⟨o4, by simp [Act.put, upd, y4, y35, hL], by simpa [upd] using hph⟩
                    · skip
                      have y4 : L 4 = true := shut_at hs 12 4 (by kernel_rfl) (shut_at hs 17 12 (by kernel_rfl) (shut_at hs 20 17 (by kernel_rfl) (shut_at hs 28 20 (by kernel_rfl) (shut_at hs 35 28 (by kernel_rfl) (up_at hu 35 (by kernel_rfl))))))
                      have y35 : L 35 = true := up_at hu 35 (by kernel_rfl)
                      exact opIn_not_g (j := 35) (b := true) (c := false) rfl rfl (by simp [yielded, y4, y35, hL]) (by decide) (fun _ => trivial) ⟨o4, by simp [Act.put, upd, y4, y35, hL], by simpa [upd] using hph⟩
                    · skip
                      have y4 : L 4 = true := shut_at hs 12 4 (by kernel_rfl) (shut_at hs 17 12 (by kernel_rfl) (shut_at hs 20 17 (by kernel_rfl) (shut_at hs 28 20 (by kernel_rfl) (shut_at hs 35 28 (by kernel_rfl) (up_at hu 35 (by kernel_rfl))))))
                      have y35 : L 35 = true := up_at hu 35 (by kernel_rfl)
                      have y39 : L 39 = true := up_at hu 39 (by kernel_rfl)
                      have y40 : L 40 = true := up_at hu 40 (by kernel_rfl)
                      exact opIn_not_g (j := 35) (b := true) (c := false) rfl rfl (by simp [yielded, y4, y35, y39, y40, hL]) (by decide) (fun _ => trivial) ⟨o4, by simp [Act.put, upd, y4, y35, y39, y40, hL], by simpa [upd] using hph⟩
                    · skip
                      have y4 : L 4 = true := shut_at hs 12 4 (by kernel_rfl) (shut_at hs 17 12 (by kernel_rfl) (shut_at hs 20 17 (by kernel_rfl) (shut_at hs 28 20 (by kernel_rfl) (shut_at hs 35 28 (by kernel_rfl) (up_at hu 35 (by kernel_rfl))))))
                      have y35 : L 35 = true := up_at hu 35 (by kernel_rfl)
                      have y41 : L 41 = true := up_at hu 41 (by kernel_rfl)
                      exact opIn_not_g (j := 35) (b := true) (c := false) rfl rfl (by simp [yielded, y4, y35, y41, hL]) (by decide) (fun _ => trivial) ⟨o4, by simp [Act.put, upd, y4, y35, y41, hL], by simpa [upd] using hph⟩
                    · skip
                      have y4 : L 4 = true := shut_at hs 12 4 (by kernel_rfl) (shut_at hs 17 12 (by kernel_rfl) (shut_at hs 20 17 (by kernel_rfl) (shut_at hs 28 20 (by kernel_rfl) (shut_at hs 35 28 (by kernel_rfl) (up_at hu 35 (by kernel_rfl))))))
                      have y35 : L 35 = true := up_at hu 35 (by kernel_rfl)
                      have y38 : L 38 = true := up_at hu 38 (by kernel_rfl)
                      have y42 : L 42 = true := up_at hu 42 (by kernel_rfl)
                      exact opIn_not_g (j := 35) (b := true) (c := false) rfl rfl (by simp [yielded, y4, y35, y38, y42, hL]) (by decide) (fun _ => trivial) ⟨o4, by simp [Act.put, upd, y4, y35, y38, y42, hL], by simpa [upd] using hph⟩
                    · skip
                      have y4 : L 4 = true := shut_at hs 12 4 (by kernel_rfl) (shut_at hs 17 12 (by kernel_rfl) (shut_at hs 20 17 (by kernel_rfl) (shut_at hs 28 20 (by kernel_rfl) (up_at hu 28 (by kernel_rfl)))))
                      have y28 : L 28 = true := up_at hu 28 (by kernel_rfl)
                      have y35 : L 35 = true := up_at hu 35 (by kernel_rfl)
                      have y43 : L 43 = true := up_at hu 43 (by kernel_rfl)
                      refine opIn_run_g (v := .bool false) (w' := w') (j := 28) (b := false) rfl rfl (by simp [yielded, y4, y28, y35, y43, hL]) (fun c h => by cases h) (fun _ => trivial) ?_ ⟨o4, by simp [Act.put, upd, y4, y28, y35, y43, hL], by simpa [upd] using hph⟩
                      simp only [y4, y28, y35, y43, hL, cond_true, cond_false]
                      go_simp
                    · skip
                      have y4 : L 4 = true := shut_at hs 12 4 (by kernel_rfl) (shut_at hs 17 12 (by kernel_rfl) (shut_at hs 20 17 (by kernel_rfl) (shut_at hs 28 20 (by kernel_rfl) (up_at hu 28 (by kernel_rfl)))))
                      have y28 : L 28 = true := up_at hu 28 (by kernel_rfl)
                      have y44 : L 44 = true := up_at hu 44 (by kernel_rfl)
                      refine opIn_run (v := .bool false) (w' := w') rfl rfl (fun c h => by cases h) (fun _ => trivial) ?_ ⟨o4, by simp [Act.put, upd, y4, y28, y44, hL], by simpa [upd] using hph⟩
                      simp only [y4, y28, y44, hL, cond_true, cond_false]
                      go_simp
                  case fintA =>
                    intro L a' w' hall hI
                    obtain ⟨o4, rfl, hph⟩ := hI
                    have l0 := hall 0 (by decide)
                    have l1 := hall 1 (by decide)
                    have l2 := hall 2 (by decide)
                    have l3 := hall 3 (by decide)
                    have l4 := hall 4 (by decide)
                    have l5 := hall 5 (by decide)
                    have l6 := hall 6 (by decide)
                    have l7 := hall 7 (by decide)
                    have l8 := hall 8 (by decide)
                    have l9 := hall 9 (by decide)
                    have l10 := hall 10 (by decide)
                    have l11 := hall 11 (by decide)
                    have l12 := hall 12 (by decide)
                    have l13 := hall 13 (by decide)
                    have l14 := hall 14 (by decide)
                    have l15 := hall 15 (by decide)
                    have l16 := hall 16 (by decide)
                    have l17 := hall 17 (by decide)
                    have l18 := hall 18 (by decide)
                    have l19 := hall 19 (by decide)
                    have l20 := hall 20 (by decide)
                    have l21 := hall 21 (by decide)
                    have l22 := hall 22 (by decide)
                    have l23 := hall 23 (by decide)
                    have l24 := hall 24 (by decide)
                    have l25 := hall 25 (by decide)
                    have l26 := hall 26 (by decide)
                    have l27 := hall 27 (by decide)
                    have l28 := hall 28 (by decide)
                    have l29 := hall 29 (by decide)
                    have l30 := hall 30 (by decide)
                    have l31 := hall 31 (by decide)
                    have l32 := hall 32 (by decide)
                    have l33 := hall 33 (by decide)
                    have l34 := hall 34 (by decide)
                    have l35 := hall 35 (by decide)
                    have l36 := hall 36 (by decide)
                    have l37 := hall 37 (by decide)
                    have l38 := hall 38 (by decide)
                    have l39 := hall 39 (by decide)
                    have l40 := hall 40 (by decide)
                    have l41 := hall 41 (by decide)
                    have l42 := hall 42 (by decide)
                    have l43 := hall 43 (by decide)
                    have l44 := hall 44 (by decide)
                    have l45 := hall 45 (by decide)
                    simp only [l0, l1, l2, l3, l4, l5, l6, l7, l8, l9, l10, l11, l12, l13, l14, l15, l16, l17, l18, l19, l20, l21, l22, l23, l24, l25, l26, l27, l28, l29, l30, l31, l32, l33, l34, l35, l36, l37, l38, l39, l40, l41, l42, l43, l44, l45, cond_true] at hph ⊢
                    clear l0 l1 l2 l3 l4 l5 l6 l7 l8 l9 l10 l11 l12 l13 l14 l15 l16 l17 l18 l19 l20 l21 l22 l23 l24 l25 l26 l27 l28 l29 l30 l31 l32 l33 l34 l35 l36 l37 l38 l39 l40 l41 l42 l43 l44 l45 hall
                    have HC8 := Lib.hid hph
                    clear hph HC9 HGI
                    obtain ⟨wg, hwg⟩ : ∃ wg : World, wg = w' := ⟨_, rfl⟩
                    rw [← hwg] at HC8 ⊢
                    clear hwg
                    go_wp2
                    go_roundw
                    case rel => exact ⟨m + 1, o4, Du, by omega, by go_num, by rw [HS1.out]; exact HC8, HNX⟩
                    case measure => simp [intOf]; omega

                · have e1 : decide ((gi : Int) < (bi : Int)) = true := by simp; omega
                  have e2 : gi < bi := by omega
                  have e3 : gi ≤ bi := by omega
                  obtain rfl : dq = true := by rw [← hdq]; exact e1
                  clear hdq r5
                  go_wp2_with fail
                  refine (wpIn_wide (n := 9)).1 (regionIn_inv (w := wf) (Inv := fun L a' w' => ∃ (o4 : Nat → Nat), a' = { tmps := #[.int .i64 (W : Int), .int .i64 (H : Int), .slice a2 len2 cap2, .slice (some ⟨b3, f3, none⟩) len3 cap3, .slice (some ⟨b4, f4, none⟩) len4 cap4, undef, undef, undef, undef, undef, u10, .pointer (some ⟨pt, 0, none⟩), .pointer (some ⟨pu, 0, none⟩), .slice (some ⟨sb, 0, none⟩) k k, .int .i64 (k : Int), .pointer (some ⟨wp, 0, none⟩), .int .i64 (i : Int), .int .i64 (i : Int), .pointer (some ⟨q, 0, none⟩), .int .i64 (m : Int), .int .i64 (ki : Int), .int .i64 (bi : Int), undef, undef, .bool true, .bool false, .int .i64 a0, .int .i64 (m0 : Int), .int .i64 (W : Int), .int .i64 a1, .int .i64 (m1 : Int), .int .i64 (H : Int), .int .i64 (W : Int), .int .i64 (H : Int), .pointer (some ⟨pt, 0, none⟩), .int .i64 (W : Int), .int .i64 (H : Int), .pointer (some ⟨pu, 0, none⟩), .int .i64 (W : Int), .int .i64 (H : Int), .int .i64 (k : Int), .slice (some ⟨sb, 0, none⟩) k k, .int .i64 (k : Int), .slice (some ⟨sb, 0, none⟩) k k, .int .i64 (k : Int), .bool false, u46, u47, u48, u49, u50, u51, u52, u53, u54, u55, u56, u57, u58, u59, u60, u61, u62, u63, u64, u65, u66, u67, u68, u69, u70, u71, u72, u73, .pointer (some ⟨wp, 0, none⟩), .slice (some ⟨b3, f3, none⟩) len3 cap3, .int .i64 (len3 : Int), .slice (some ⟨b4, f4, none⟩) len4 cap4, .int .i64 (len4 : Int), .int .i64 (i : Int), .int .i64 (i : Int), .int .i64 (i : Int), .bool false, u83, u84, u85, u86, u87, u88, u89, u90, u91, u92, u93, u94, u95, u96, u97, u98, u99, .pointer (some ⟨wp, 0, none⟩), .slice A F.length cap, .pointer (some ⟨q, 0, none⟩), .int .i64 (m : Int), .int .i64 (i : Int), .bool true, u106, u107, .slice (some ⟨b3, f3, none⟩) len3 cap3, .int .i64 (m : Int), .pointer (some ⟨b3, f3 + m, none⟩), .int .i64 kz, .slice (some ⟨sb, 0, none⟩) k k, .int .i64 (k : Int), .int .i64 (ki : Int), .slice (some ⟨b4, f4, none⟩) len4 cap4, .int .i64 (m : Int), .pointer (some ⟨b4, f4 + m, none⟩), .int .i64 bz, .int .i64 (bi : Int), bif L 0 then .pointer (some ⟨pu, 0, none⟩) else u120, bif L 1 then .pointer (some ⟨q, 0, none⟩) else u121, bif L 2 then .int .i64 (ki : Int) else u122, bif L 3 then .int .i64 (bi : Int) else u123, bif L 4 then .bool true else u124, bif L 5 then .slice (some ⟨sb, 0, none⟩) k k else u125, bif L 6 then .int .i64 (ki : Int) else u126, bif L 7 then .pointer (some ⟨sb, ki, none⟩) else u127, bif L 8 then .int .i64 (gi : Int) else u128, bif L 9 then .int .i64 (bi : Int) else u129, bif L 10 then .bool true else u130, bif L 11 then .bool false else u131, bif L 12 then .bool false else u132, bif L 13 then .pointer (some ⟨pu, 0, none⟩) else u133, bif L 14 then .int .i64 (ki : Int) else u134, bif L 15 then .int .i64 (gi : Int) else u135, bif L 16 then .bool true else u136, bif L 17 then .bool true else u137, bif L 18 then .pointer (some ⟨pu, 0, none⟩) else u138, bif L 19 then .int .i64 (ki : Int) else u139, bif L 20 then .int .i64 (gi : Int) else u140, bif L 21 then .slice (some ⟨sb, 0, none⟩) k k else u141, bif L 22 then .int .i64 (ki : Int) else u142, bif L 23 then .pointer (some ⟨sb, ki, none⟩) else u143, bif L 24 then .int .i64 (gi : Int) else u144, bif L 25 then .bool false else u145, bif L 26 then .bool false else u146, bif L 27 then .bool false else u147, bif L 28 then .bool false else u148, bif L 29 then .slice (some ⟨sb, 0, none⟩) k k else u149, bif L 30 then .int .i64 (ki : Int) else u150, bif L 31 then .pointer (some ⟨sb, ki, none⟩) else u151, bif L 32 then .int .i64 (gi : Int) else u152, bif L 33 then .int .i64 (bi : Int) else u153, bif L 34 then .bool true else u154, bif L 35 then .bool true else u155, bif L 36 then .pointer (some ⟨pu, 0, none⟩) else u156, bif L 37 then .int .i64 (ki : Int) else u157, bif L 38 then .int .i64 (gi : Int) else u158, bif L 39 then .slice (some ⟨sb, 0, none⟩) k k else u159, bif L 40 then .int .i64 (ki : Int) else u160, bif L 41 then .pointer (some ⟨sb, ki, none⟩) else u161, bif L 42 then .int .i64 (gi : Int) else u162, bif L 43 then .bool false else u163, bif L 44 then .bool false else u164, bif L 45 then .bool false else u165, undef, undef, undef, undef, undef, undef, undef, undef, undef, undef, undef, undef, undef, undef], defers := [] } ∧ (bif L 4 then (BkC o4 w w' pt pu W H d sb Pn.2 Du g wp Pn.1 q F s1) else BkC o w w' pt pu W H d sb Pn.2 Tu g wp Pn.1 q F s0)) (by kernel_rfl) (by kernel_rfl) ?starttB ?steptB ?fintB)
                  case starttB => exact ⟨o, rfl, HC9.out.below (below_drewN (Below.refl _ _) 1)⟩
                  case steptB =>
                    intro i hi L a' w' hI hs hu
                    obtain ⟨o4, rfl, hph⟩ := hI
                    have hL := hu.1
                    have hi : i < 46 := hi
                    obtain rfl | rfl | rfl | rfl | rfl | rfl | rfl | rfl | rfl | rfl | rfl | rfl | rfl | rfl | rfl | rfl | rfl | rfl | rfl | rfl | rfl | rfl | rfl | rfl | rfl | rfl | rfl | rfl | rfl | rfl | rfl | rfl | rfl | rfl | rfl | rfl | rfl | rfl | rfl | rfl | rfl | rfl | rfl | rfl | rfl | rfl := (by omega : i = 0 ∨ i = 1 ∨ i = 2 ∨ i = 3 ∨ i = 4 ∨ i = 5 ∨ i = 6 ∨ i = 7 ∨ i = 8 ∨ i = 9 ∨ i = 10 ∨ i = 11 ∨ i = 12 ∨ i = 13 ∨ i = 14 ∨ i = 15 ∨ i = 16 ∨ i = 17 ∨ i = 18 ∨ i = 19 ∨ i = 20 ∨ i = 21 ∨ i = 22 ∨ i = 23 ∨ i = 24 ∨ i = 25 ∨ i = 26 ∨ i = 27 ∨ i = 28 ∨ i = 29 ∨ i = 30 ∨ i = 31 ∨ i = 32 ∨ i = 33 ∨ i = 34 ∨ i = 35 ∨ i = 36 ∨ i = 37 ∨ i = 38 ∨ i = 39 ∨ i = 40 ∨ i = 41 ∨ i = 42 ∨ i = 43 ∨ i = 44 ∨ i = 45)
                    · skip
                      have n4 : L 4 = false := not_yet hL fun h => shut_at hs 4 0 (by kernel_rfl) (h)
                      refine opIn_run (v := .pointer (some ⟨pu, 0, none⟩)) (w' := w') rfl rfl (fun c h => by cases h) (fun _ => trivial) ?_ ⟨o4, by simp [Act.put, upd, n4, hL], by simpa [upd] using hph⟩
                      simp only [n4, hL, cond_true, cond_false]
                      go_simp
                    · skip
                      have n4 : L 4 = false := not_yet hL fun h => shut_at hs 4 1 (by kernel_rfl) (h)
                      refine opIn_run (v := .pointer (some ⟨q, 0, none⟩)) (w' := w') rfl rfl (fun c h => by cases h) (fun _ => trivial) ?_ ⟨o4, by simp [Act.put, upd, n4, hL], by simpa [upd] using hph⟩
                      simp only [n4, hL, cond_true, cond_false]
                      go_simp
                    · skip
                      have n4 : L 4 = false := not_yet hL fun h => shut_at hs 4 2 (by kernel_rfl) (h)
                      refine opIn_run (v := .int .i64 (ki : Int)) (w' := w') rfl rfl (fun c h => by cases h) (fun _ => trivial) ?_ ⟨o4, by simp [Act.put, upd, n4, hL], by simpa [upd] using hph⟩
                      simp only [n4, hL, cond_true, cond_false]
                      go_simp
                    · skip
                      have n4 : L 4 = false := not_yet hL fun h => shut_at hs 4 3 (by kernel_rfl) (h)
                      refine opIn_run (v := .int .i64 (bi : Int)) (w' := w') rfl rfl (fun c h => by cases h) (fun _ => trivial) ?_ ⟨o4, by simp [Act.put, upd, n4, hL], by simpa [upd] using hph⟩
                      simp only [n4, hL, cond_true, cond_false]
                      go_simp
                    · skip
                      have y0 : L 0 = true := up_at hu 0 (by kernel_rfl)
                      have y1 : L 1 = true := up_at hu 1 (by kernel_rfl)
                      have y2 : L 2 = true := up_at hu 2 (by kernel_rfl)
                      have y3 : L 3 = true := up_at hu 3 (by kernel_rfl)
                      try simp only [y0, y1, y2, y3, hL, cond_true, cond_false] at hph
                      refine opIn_call (f := 14) (args := #[.pointer (some ⟨pu, 0, none⟩), .pointer (some ⟨q, 0, none⟩), .int .i64 (ki : Int), .int .i64 (bi : Int)]) (w' := w') rfl rfl (fun c h => by cases h) (fun _ => trivial) rfl ?_ ((callsIn_wide.2 (CD.out _ _ hph)).mono ?_)
                      · simp only [y0, y1, y2, y3, hL, cond_true, cond_false]
                        go_simp
                      · rintro e w2 ⟨rfl, hk9⟩
                        exact ⟨_, rfl, onew o w' 5, by simp [Act.put, upd, y0, y1, y2, y3, hL], by simp only [upd, y0, y1, y2, y3, hL]; exact hk9⟩
                    · skip
                      refine opIn_run (v := .slice (some ⟨sb, 0, none⟩) k k) (w' := w') rfl rfl (fun c h => by cases h) (fun _ => trivial) ?_ ⟨o4, by simp [Act.put, upd, hL], by simpa [upd] using hph⟩
                      simp only [hL, cond_true, cond_false]
                      go_simp
                    · skip
                      refine opIn_run (v := .int .i64 (ki : Int)) (w' := w') rfl rfl (fun c h => by cases h) (fun _ => trivial) ?_ ⟨o4, by simp [Act.put, upd, hL], by simpa [upd] using hph⟩
                      simp only [hL, cond_true, cond_false]
                      go_simp
                    · skip
                      have y5 : L 5 = true := up_at hu 5 (by kernel_rfl)
                      have y6 : L 6 = true := up_at hu 6 (by kernel_rfl)
                      refine opIn_run (v := .pointer (some ⟨sb, ki, none⟩)) (w' := w') rfl rfl (fun c h => by cases h) (fun _ => trivial) ?_ ⟨o4, by simp [Act.put, upd, y5, y6, hL], by simpa [upd] using hph⟩
                      simp only [y5, y6, hL, cond_true, cond_false]
                      go_simp
                    · skip
                      have y7 : L 7 = true := up_at hu 7 (by kernel_rfl)
                      try simp only [y7, hL, cond_true, cond_false] at hph
                      have hcl : w'.cell? ⟨sb, ki, none⟩ = some (.int .i64 ((g ki : Nat) : Int)) := by cases h4 : L 4 <;> simp only [h4, cond_true, cond_false] at hph <;> exact hph.b.a.s.cell hkiN
                      rw [HGI.out] at hcl
                      refine opIn_run (v := .int .i64 (gi : Int)) (w' := w') rfl rfl (fun c h => by cases h) (fun _ => trivial) ?_ ⟨o4, by simp [Act.put, upd, y7, hL], by simp only [upd, y7, hL]; exact hph⟩
                      simp only [y7, hL, cond_true, cond_false]
                      go_simp
                    · skip
                      refine opIn_run (v := .int .i64 (bi : Int)) (w' := w') rfl rfl (fun c h => by cases h) (fun _ => trivial) ?_ ⟨o4, by simp [Act.put, upd, hL], by simpa [upd] using hph⟩
                      simp only [hL, cond_true, cond_false]
                      go_simp
                    · skip
                      have y8 : L 8 = true := up_at hu 8 (by kernel_rfl)
                      have y9 : L 9 = true := up_at hu 9 (by kernel_rfl)
                      refine opIn_run (v := .bool true) (w' := w') rfl rfl (fun c h => by cases h) (fun _ => trivial) ?_ ⟨o4, by simp [Act.put, upd, y8, y9, hL], by simpa [upd] using hph⟩
                      simp only [y8, y9, hL, cond_true, cond_false]
                      go_simp
                    · skip
                      have y4 : L 4 = true := up_at hu 4 (by kernel_rfl)
                      have y10 : L 10 = true := up_at hu 10 (by kernel_rfl)
                      refine opIn_run (v := .bool false) (w' := w') rfl rfl (fun c h => by cases h) (fun _ => trivial) ?_ ⟨o4, by simp [Act.put, upd, y4, y10, hL], by simpa [upd] using hph⟩
                      simp only [y4, y10, hL, cond_true, cond_false]
                      go_simp
                    · skip
                      have y4 : L 4 = true := up_at hu 4 (by kernel_rfl)
                      have y11 : L 11 = true := up_at hu 11 (by kernel_rfl)
                      refine opIn_run (v := .bool false) (w' := w') rfl rfl (fun c h => by cases h) (fun _ => trivial) ?_ ⟨o4, by simp [Act.put, upd, y4, y11, hL], by simpa [upd] using hph⟩
                      simp only [y4, y11, hL, cond_true, cond_false]
                      go_simp
                    · skip
                      have y4 : L 4 = true := shut_at hs 12 4 (by kernel_rfl) (up_at hu 12 (by kernel_rfl))
                      have y12 : L 12 = true := up_at hu 12 (by kernel_rfl)
                      refine opIn_run_g (v := .pointer (some ⟨pu, 0, none⟩)) (w' := w') (j := 12) (b := false) rfl rfl (by simp [yielded, y4, y12, hL]) (fun c h => by cases h) (fun _ => trivial) ?_ ⟨o4, by simp [Act.put, upd, y4, y12, hL], by simpa [upd] using hph⟩
                      simp only [y4, y12, hL, cond_true, cond_false]
                      go_simp
                    · skip
                      have y4 : L 4 = true := shut_at hs 12 4 (by kernel_rfl) (up_at hu 12 (by kernel_rfl))
                      have y12 : L 12 = true := up_at hu 12 (by kernel_rfl)
                      refine opIn_run_g (v := .int .i64 (ki : Int)) (w' := w') (j := 12) (b := false) rfl rfl (by simp [yielded, y4, y12, hL]) (fun c h => by cases h) (fun _ => trivial) ?_ ⟨o4, by simp [Act.put, upd, y4, y12, hL], by simpa [upd] using hph⟩
                      simp only [y4, y12, hL, cond_true, cond_false]
                      go_simp
                    · skip
                      have y4 : L 4 = true := shut_at hs 12 4 (by kernel_rfl) (up_at hu 12 (by kernel_rfl))
                      have y12 : L 12 = true := up_at hu 12 (by kernel_rfl)
                      have y13 : L 13 = true := up_at hu 13 (by kernel_rfl)
                      have y14 : L 14 = true := up_at hu 14 (by kernel_rfl)
                      try simp only [y4, y12, y13, y14, hL, cond_true, cond_false] at hph
                      refine opIn_call_g (f := 16) (args := #[.pointer (some ⟨pu, 0, none⟩), .int .i64 (ki : Int)]) (w' := w') (j := 12) (b := false) rfl rfl (by simp [yielded, y4, y12, y13, y14, hL]) (fun c h => by cases h) (fun _ => trivial) rfl ?_ ((callsIn_wide.2 (CK.out _ _ hph)).mono ?_)
                      · simp only [y4, y12, y13, y14, hL, cond_true, cond_false]
                        go_simp
                      · rintro e w2 ⟨rfl, hk9⟩
                        exact ⟨_, rfl, o4, by simp [Act.put, upd, y4, y12, y13, y14, hL], by simp only [upd, y4, y12, y13, y14, hL]; exact hk9⟩
                    · skip
                      have y4 : L 4 = true := shut_at hs 12 4 (by kernel_rfl) (up_at hu 12 (by kernel_rfl))
                      have y12 : L 12 = true := up_at hu 12 (by kernel_rfl)
                      have y15 : L 15 = true := up_at hu 15 (by kernel_rfl)
                      refine opIn_run_g (v := .bool true) (w' := w') (j := 12) (b := false) rfl rfl (by simp [yielded, y4, y12, y15, hL]) (fun c h => by cases h) (fun _ => trivial) ?_ ⟨o4, by simp [Act.put, upd, y4, y12, y15, hL], by simpa [upd] using hph⟩
                      simp only [y4, y12, y15, hL, cond_true, cond_false]
                      go_simp
                    · skip
                      have y4 : L 4 = true := shut_at hs 12 4 (by kernel_rfl) (up_at hu 12 (by kernel_rfl))
                      have y12 : L 12 = true := up_at hu 12 (by kernel_rfl)
                      have y15 : L 15 = true := up_at hu 15 (by kernel_rfl)
                      have y16 : L 16 = true := up_at hu 16 (by kernel_rfl)
                      refine opIn_run_g (v := .bool true) (w' := w') (j := 12) (b := false) rfl rfl (by simp [yielded, y4, y12, y15, y16, hL]) (fun c h => by cases h) (fun _ => trivial) ?_ ⟨o4, by simp [Act.put, upd, y4, y12, y15, y16, hL], by simpa [upd] using hph⟩
                      simp only [y4, y12, y15, y16, hL, cond_true, cond_false]
                      go_simp
                    · skip
                      have y4 : L 4 = true := shut_at hs 12 4 (by kernel_rfl) (shut_at hs 17 12 (by kernel_rfl) (up_at hu 17 (by kernel_rfl)))
                      have y17 : L 17 = true := up_at hu 17 (by kernel_rfl)
                      refine opIn_run_g (v := .pointer (some ⟨pu, 0, none⟩)) (w' := w') (j := 17) (b := true) rfl rfl (by simp [yielded, y4, y17, hL]) (fun c h => by cases h) (fun _ => trivial) ?_ ⟨o4, by simp [Act.put, upd, y4, y17, hL], by simpa [upd] using hph⟩
                      simp only [y4, y17, hL, cond_true, cond_false]
                      go_simp
                    · skip
                      have y4 : L 4 = true := shut_at hs 12 4 (by kernel_rfl) (shut_at hs 17 12 (by kernel_rfl) (up_at hu 17 (by kernel_rfl)))
                      have y17 : L 17 = true := up_at hu 17 (by kernel_rfl)
                      refine opIn_run_g (v := .int .i64 (ki : Int)) (w' := w') (j := 17) (b := true) rfl rfl (by simp [yielded, y4, y17, hL]) (fun c h => by cases h) (fun _ => trivial) ?_ ⟨o4, by simp [Act.put, upd, y4, y17, hL], by simpa [upd] using hph⟩
                      simp only [y4, y17, hL, cond_true, cond_false]
                      go_simp
                    · skip
                      have y4 : L 4 = true := shut_at hs 12 4 (by kernel_rfl) (shut_at hs 17 12 (by kernel_rfl) (up_at hu 17 (by kernel_rfl)))
                      have y17 : L 17 = true := up_at hu 17 (by kernel_rfl)
                      have y18 : L 18 = true := up_at hu 18 (by kernel_rfl)
                      have y19 : L 19 = true := up_at hu 19 (by kernel_rfl)
                      try simp only [y4, y17, y18, y19, hL, cond_true, cond_false] at hph
                      refine opIn_call_g (f := 16) (args := #[.pointer (some ⟨pu, 0, none⟩), .int .i64 (ki : Int)]) (w' := w') (j := 17) (b := true) rfl rfl (by simp [yielded, y4, y17, y18, y19, hL]) (fun c h => by cases h) (fun _ => trivial) rfl ?_ ((callsIn_wide.2 (CK.out _ _ hph)).mono ?_)
                      · simp only [y4, y17, y18, y19, hL, cond_true, cond_false]
                        go_simp
                      · rintro e w2 ⟨rfl, hk9⟩
                        exact ⟨_, rfl, o4, by simp [Act.put, upd, y4, y17, y18, y19, hL], by simp only [upd, y4, y17, y18, y19, hL]; exact hk9⟩
                    · skip
                      have y4 : L 4 = true := shut_at hs 12 4 (by kernel_rfl) (shut_at hs 17 12 (by kernel_rfl) (up_at hu 17 (by kernel_rfl)))
                      have y17 : L 17 = true := up_at hu 17 (by kernel_rfl)
                      refine opIn_run_g (v := .slice (some ⟨sb, 0, none⟩) k k) (w' := w') (j := 17) (b := true) rfl rfl (by simp [yielded, y4, y17, hL]) (fun c h => by cases h) (fun _ => trivial) ?_ ⟨o4, by simp [Act.put, upd, y4, y17, hL], by simpa [upd] using hph⟩
                      simp only [y4, y17, hL, cond_true, cond_false]
                      go_simp
                    · skip
                      have y4 : L 4 = true := shut_at hs 12 4 (by kernel_rfl) (shut_at hs 17 12 (by kernel_rfl) (up_at hu 17 (by kernel_rfl)))
                      have y17 : L 17 = true := up_at hu 17 (by kernel_rfl)
                      refine opIn_run_g (v := .int .i64 (ki : Int)) (w' := w') (j := 17) (b := true) rfl rfl (by simp [yielded, y4, y17, hL]) (fun c h => by cases h) (fun _ => trivial) ?_ ⟨o4, by simp [Act.put, upd, y4, y17, hL], by simpa [upd] using hph⟩
                      simp only [y4, y17, hL, cond_true, cond_false]
                      go_simp
                    · skip
                      have y4 : L 4 = true := shut_at hs 12 4 (by kernel_rfl) (shut_at hs 17 12 (by kernel_rfl) (up_at hu 17 (by kernel_rfl)))
                      have y17 : L 17 = true := up_at hu 17 (by kernel_rfl)
                      have y21 : L 21 = true := up_at hu 21 (by kernel_rfl)
                      have y22 : L 22 = true := up_at hu 22 (by kernel_rfl)
                      refine opIn_run_g (v := .pointer (some ⟨sb, ki, none⟩)) (w' := w') (j := 17) (b := true) rfl rfl (by simp [yielded, y4, y17, y21, y22, hL]) (fun c h => by cases h) (fun _ => trivial) ?_ ⟨o4, by simp [Act.put, upd, y4, y17, y21, y22, hL], by simpa [upd] using hph⟩
                      simp only [y4, y17, y21, y22, hL, cond_true, cond_false]
                      go_simp
                    · skip
                      have y4 : L 4 = true := shut_at hs 12 4 (by kernel_rfl) (shut_at hs 17 12 (by kernel_rfl) (up_at hu 17 (by kernel_rfl)))
                      have y17 : L 17 = true := up_at hu 17 (by kernel_rfl)
                      have y23 : L 23 = true := up_at hu 23 (by kernel_rfl)
                      try simp only [y4, y17, y23, hL, cond_true, cond_false] at hph
                      have hcl := hph.b.a.s.cell hkiN
                      rw [HGI.out] at hcl
                      refine opIn_run_g (v := .int .i64 (gi : Int)) (w' := w') (j := 17) (b := true) rfl rfl (by simp [yielded, y4, y17, y23, hL]) (fun c h => by cases h) (fun _ => trivial) ?_ ⟨o4, by simp [Act.put, upd, y4, y17, y23, hL], by simp only [upd, y4, y17, y23, hL]; exact hph⟩
                      simp only [y4, y17, y23, hL, cond_true, cond_false]
                      go_simp
                    · skip
                      have y4 : L 4 = true := shut_at hs 12 4 (by kernel_rfl) (shut_at hs 17 12 (by kernel_rfl) (up_at hu 17 (by kernel_rfl)))
                      have y17 : L 17 = true := up_at hu 17 (by kernel_rfl)
                      have y20 : L 20 = true := up_at hu 20 (by kernel_rfl)
                      have y24 : L 24 = true := up_at hu 24 (by kernel_rfl)
                      refine opIn_run_g (v := .bool false) (w' := w') (j := 17) (b := true) rfl rfl (by simp [yielded, y4, y17, y20, y24, hL]) (fun c h => by cases h) (fun _ => trivial) ?_ ⟨o4, by simp [Act.put, upd, y4, y17, y20, y24, hL], by simpa [upd] using hph⟩
                      simp only [y4, y17, y20, y24, hL, cond_true, cond_false]
                      go_simp
                    · skip
                      have y4 : L 4 = true := shut_at hs 12 4 (by kernel_rfl) (up_at hu 12 (by kernel_rfl))
                      have y12 : L 12 = true := up_at hu 12 (by kernel_rfl)
                      have y17 : L 17 = true := up_at hu 17 (by kernel_rfl)
                      have y25 : L 25 = true := up_at hu 25 (by kernel_rfl)
                      refine opIn_run_g (v := .bool false) (w' := w') (j := 12) (b := false) rfl rfl (by simp [yielded, y4, y12, y17, y25, hL]) (fun c h => by cases h) (fun _ => trivial) ?_ ⟨o4, by simp [Act.put, upd, y4, y12, y17, y25, hL], by simpa [upd] using hph⟩
                      simp only [y4, y12, y17, y25, hL, cond_true, cond_false]
                      go_simp
                    · skip
                      have y4 : L 4 = true := shut_at hs 12 4 (by kernel_rfl) (up_at hu 12 (by kernel_rfl))
                      have y12 : L 12 = true := up_at hu 12 (by kernel_rfl)
                      have y26 : L 26 = true := up_at hu 26 (by kernel_rfl)
                      refine opIn_run (v := .bool false) (w' := w') rfl rfl (fun c h => by cases h) (fun _ => trivial) ?_ ⟨o4, by simp [Act.put, upd, y4, y12, y26, hL], by simpa [upd] using hph⟩
                      simp only [y4, y12, y26, hL, cond_true, cond_false]
                      go_simp
                    · skip
                      have y4 : L 4 = true := shut_at hs 12 4 (by kernel_rfl) (shut_at hs 17 12 (by kernel_rfl) (shut_at hs 20 17 (by kernel_rfl) (up_at hu 20 (by kernel_rfl))))
                      have y20 : L 20 = true := up_at hu 20 (by kernel_rfl)
                      have y27 : L 27 = true := up_at hu 27 (by kernel_rfl)
                      refine opIn_run (v := .bool false) (w' := w') rfl rfl (fun c h => by cases h) (fun _ => trivial) ?_ ⟨o4, by simp [Act.put, upd, y4, y20, y27, hL], by simpa [upd] using hph⟩
                      simp only [y4, y20, y27, hL, cond_true, cond_false]
                      go_simp
                    · skip
                      have y4 : L 4 = true := shut_at hs 12 4 (by kernel_rfl) (shut_at hs 17 12 (by kernel_rfl) (shut_at hs 20 17 (by kernel_rfl) (shut_at hs 28 20 (by kernel_rfl) (up_at hu 28 (by kernel_rfl)))))
                      have y28 : L 28 = true := up_at hu 28 (by kernel_rfl)
                      refine opIn_run_g (v := .slice (some ⟨sb, 0, none⟩) k k) (w' := w') (j := 28) (b := false) rfl rfl (by simp [yielded, y4, y28, hL]) (fun c h => by cases h) (fun _ => trivial) ?_ ⟨o4, by simp [Act.put, upd, y4, y28, hL], by simpa [upd] using hph⟩
                      simp only [y4, y28, hL, cond_true, cond_false]
                      go_simp
                    · skip
                      have y4 : L 4 = true := shut_at hs 12 4 (by kernel_rfl) (shut_at hs 17 12 (by kernel_rfl) (shut_at hs 20 17 (by kernel_rfl) (shut_at hs 28 20 (by kernel_rfl) (up_at hu 28 (by kernel_rfl)))))
                      have y28 : L 28 = true := up_at hu 28 (by kernel_rfl)
                      refine opIn_run_g (v := .int .i64 (ki : Int)) (w' := w') (j := 28) (b := false) rfl rfl (by simp [yielded, y4, y28, hL]) (fun c h => by cases h) (fun _ => trivial) ?_ ⟨o4, by simp [Act.put, upd, y4, y28, hL], by simpa [upd] using hph⟩
                      simp only [y4, y28, hL, cond_true, cond_false]
                      go_simp
                    · skip
                      have y4 : L 4 = true := shut_at hs 12 4 (by kernel_rfl) (shut_at hs 17 12 (by kernel_rfl) (shut_at hs 20 17 (by kernel_rfl) (shut_at hs 28 20 (by kernel_rfl) (up_at hu 28 (by kernel_rfl)))))
                      have y28 : L 28 = true := up_at hu 28 (by kernel_rfl)
                      have y29 : L 29 = true := up_at hu 29 (by kernel_rfl)
                      have y30 : L 30 = true := up_at hu 30 (by kernel_rfl)
                      refine opIn_run_g (v := .pointer (some ⟨sb, ki, none⟩)) (w' := w') (j := 28) (b := false) rfl rfl (by simp [yielded, y4, y28, y29, y30, hL]) (fun c h => by cases h) (fun _ => trivial) ?_ ⟨o4, by simp [Act.put, upd, y4, y28, y29, y30, hL], by simpa [upd] using hph⟩
                      simp only [y4, y28, y29, y30, hL, cond_true, cond_false]
                      go_simp
                    · skip
                      have y4 : L 4 = true := shut_at hs 12 4 (by kernel_rfl) (shut_at hs 17 12 (by kernel_rfl) (shut_at hs 20 17 (by kernel_rfl) (shut_at hs 28 20 (by kernel_rfl) (up_at hu 28 (by kernel_rfl)))))
                      have y28 : L 28 = true := up_at hu 28 (by kernel_rfl)
                      have y31 : L 31 = true := up_at hu 31 (by kernel_rfl)
                      try simp only [y4, y28, y31, hL, cond_true, cond_false] at hph
                      have hcl := hph.b.a.s.cell hkiN
                      rw [HGI.out] at hcl
                      refine opIn_run_g (v := .int .i64 (gi : Int)) (w' := w') (j := 28) (b := false) rfl rfl (by simp [yielded, y4, y28, y31, hL]) (fun c h => by cases h) (fun _ => trivial) ?_ ⟨o4, by simp [Act.put, upd, y4, y28, y31, hL], by simp only [upd, y4, y28, y31, hL]; exact hph⟩
                      simp only [y4, y28, y31, hL, cond_true, cond_false]
                      go_simp
                    · skip
                      have y4 : L 4 = true := shut_at hs 12 4 (by kernel_rfl) (shut_at hs 17 12 (by kernel_rfl) (shut_at hs 20 17 (by kernel_rfl) (shut_at hs 28 20 (by kernel_rfl) (up_at hu 28 (by kernel_rfl)))))
                      have y28 : L 28 = true := up_at hu 28 (by kernel_rfl)
                      refine opIn_run_g (v := .int .i64 (bi : Int)) (w' := w') (j := 28) (b := false) rfl rfl (by simp [yielded, y4, y28, hL]) (fun c h => by cases h) (fun _ => trivial) ?_ ⟨o4, by simp [Act.put, upd, y4, y28, hL], by simpa [upd] using hph⟩
                      simp only [y4, y28, hL, cond_true, cond_false]
                      go_simp
                    · skip
                      have y4 : L 4 = true := shut_at hs 12 4 (by kernel_rfl) (shut_at hs 17 12 (by kernel_rfl) (shut_at hs 20 17 (by kernel_rfl) (shut_at hs 28 20 (by kernel_rfl) (up_at hu 28 (by kernel_rfl)))))
                      have y28 : L 28 = true := up_at hu 28 (by kernel_rfl)
                      have y32 : L 32 = true := up_at hu 32 (by kernel_rfl)
                      have y33 : L 33 = true := up_at hu 33 (by kernel_rfl)
                      refine opIn_run_g (v := .bool true) (w' := w') (j := 28) (b := false) rfl rfl (by simp [yielded, y4, y28, y32, y33, hL]) (fun c h => by cases h) (fun _ => trivial) ?_ ⟨o4, by simp [Act.put, upd, y4, y28, y32, y33, hL], by simpa [upd] using hph⟩
                      simp only [y4, y28, y32, y33, hL, cond_true, cond_false]
                      go_simp
                    · skip
                      have y4 : L 4 = true := shut_at hs 12 4 (by kernel_rfl) (shut_at hs 17 12 (by kernel_rfl) (shut_at hs 20 17 (by kernel_rfl) (shut_at hs 28 20 (by kernel_rfl) (up_at hu 28 (by kernel_rfl)))))
                      have y28 : L 28 = true := up_at hu 28 (by kernel_rfl)
                      have y34 : L 34 = true := up_at hu 34 (by kernel_rfl)
                      refine opIn_run_g (v := .bool true) (w' := w') (j := 28) (b := false) rfl rfl (by simp [yielded, y4, y28, y34, hL]) (fun c h => by cases h) (fun _ => trivial) ?_ ⟨o4, by simp [Act.put, upd, y4, y28, y34, hL], by simpa [upd] using hph⟩
                      simp only [y4, y28, y34, hL, cond_true, cond_false]
                      go_simp
                    · skip
                      have y4 : L 4 = true := shut_at hs 12 4 (by kernel_rfl) (shut_at hs 17 12 (by kernel_rfl) (shut_at hs 20 17 (by kernel_rfl) (shut_at hs 28 20 (by kernel_rfl) (shut_at hs 35 28 (by kernel_rfl) (up_at hu 35 (by kernel_rfl))))))
                      have y35 : L 35 = true := up_at hu 35 (by kernel_rfl)
                      refine opIn_run_g (v := .pointer (some ⟨pu, 0, none⟩)) (w' := w') (j := 35) (b := true) rfl rfl (by simp [yielded, y4, y35, hL]) (fun c h => by cases h) (fun _ => trivial) ?_ ⟨o4, by simp [Act.put, upd, y4, y35, hL], by simpa [upd] using hph⟩
                      simp only [y4, y35, hL, cond_true, cond_false]
                      go_simp
                    · skip
                      have y4 : L 4 = true := shut_at hs 12 4 (by kernel_rfl) (shut_at hs 17 12 (by kernel_rfl) (shut_at hs 20 17 (by kernel_rfl) (shut_at hs 28 20 (by kernel_rfl) (shut_at hs 35 28 (by kernel_rfl) (up_at hu 35 (by kernel_rfl))))))
                      have y35 : L 35 = true := up_at hu 35 (by kernel_rfl)
                      refine opIn_run_g (v := .int .i64 (ki : Int)) (w' := w') (j := 35) (b := true) rfl rfl (by simp [yielded, y4, y35, hL]) (fun c h => by cases h) (fun _ => trivial) ?_ ⟨o4, by simp [Act.put, upd, y4, y35, hL], by simpa [upd] using hph⟩
                      simp only [y4, y35, hL, cond_true, cond_false]
                      go_simp
                    · skip
                      have y4 : L 4 = true := shut_at hs 12 4 (by kernel_rfl) (shut_at hs 17 12 (by kernel_rfl) (shut_at hs 20 17 (by kernel_rfl) (shut_at hs 28 20 (by kernel_rfl) (shut_at hs 35 28 (by kernel_rfl) (up_at hu 35 (by kernel_rfl))))))
                      have y35 : L 35 = true := up_at hu 35 (by kernel_rfl)
                      have y36 : L 36 = true := up_at hu 36 (by kernel_rfl)
                      have y37 : L 37 = true := up_at hu 37 (by kernel_rfl)
                      try simp only [y4, y35, y36, y37, hL, cond_true, cond_false] at hph
                      refine opIn_call_g (f := 16) (args := #[.pointer (some ⟨pu, 0, none⟩), .int .i64 (ki : Int)]) (w' := w') (j := 35) (b := true) rfl rfl (by simp [yielded, y4, y35, y36, y37, hL]) (fun c h => by cases h) (fun _ => trivial) rfl ?_ ((callsIn_wide.2 (CK.out _ _ hph)).mono ?_)
                      · simp only [y4, y35, y36, y37, hL, cond_true, cond_false]
                        go_simp
                      · rintro e w2 ⟨rfl, hk9⟩
                        exact ⟨_, rfl, o4, by simp [Act.put, upd, y4, y35, y36, y37, hL], by simp only [upd, y4, y35, y36, y37, hL]; exact hk9⟩
                    · skip
                      have y4 : L 4 = true := shut_at hs 12 4 (by kernel_rfl) (shut_at hs 17 12 (by kernel_rfl) (shut_at hs 20 17 (by kernel_rfl) (shut_at hs 28 20 (by kernel_rfl) (shut_at hs 35 28 (by kernel_rfl) (up_at hu 35 (by kernel_rfl))))))
                      have y35 : L 35 = true := up_at hu 35 (by kernel_rfl)
                      refine opIn_run_g (v := .slice (some ⟨sb, 0, none⟩) k k) (w' := w') (j := 35) (b := true) rfl rfl (by simp [yielded, y4, y35, hL]) (fun c h => by cases h) (fun _ => trivial) ?_ ⟨o4, by simp [Act.put, upd, y4, y35, hL], by simpa [upd] using hph⟩
                      simp only [y4, y35, hL, cond_true, cond_false]
                      go_simp
                    · skip
                      have y4 : L 4 = true := shut_at hs 12 4 (by kernel_rfl) (shut_at hs 17 12 (by kernel_rfl) (shut_at hs 20 17 (by kernel_rfl) (shut_at hs 28 20 (by kernel_rfl) (shut_at hs 35 28 (by kernel_rfl) (up_at hu 35 (by kernel_rfl))))))
                      have y35 : L 35 = true := up_at hu 35 (by kernel_rfl)
                      refine opIn_run_g (v := .int .i64 (ki : Int)) (w' := w') (j := 35) (b := true) rfl rfl (by simp [yielded, y4, y35, hL]) (fun c h => by cases h) (fun _ => trivial) ?_ ⟨o4, by simp [Act.put, upd, y4, y35, hL], by simpa [upd] using hph⟩
                      simp only [y4, y35, hL, cond_true, cond_false]
                      go_simp
                    · skip
                      have y4 : L 4 = true := shut_at hs 12 4 (by kernel_rfl) (shut_at hs 17 12 (by kernel_rfl) (shut_at hs 20 17 (by kernel_rfl) (shut_at hs 28 20 (by kernel_rfl) (shut_at hs 35 28 (by kernel_rfl) (up_at hu 35 (by kernel_rfl))))))
                      have y35 : L 35 = true := up_at hu 35 (by kernel_rfl)
                      have y39 : L 39 = true := up_at hu 39 (by kernel_rfl)
                      have y40 : L 40 = true := up_at hu 40 (by kernel_rfl)
                      refine opIn_run_g (v := .pointer (some ⟨sb, ki, none⟩)) (w' := w') (j := 35) (b := true) rfl rfl (by simp [yielded, y4, y35, y39, y40, hL]) (fun c h => by cases h) (fun _ => trivial) ?_ ⟨o4, by simp [Act.put, upd, y4, y35, y39, y40, hL], by simpa [upd] using hph⟩
                      simp only [y4, y35, y39, y40, hL, cond_true, cond_false]
                      go_simp
                    · skip
                      have y4 : L 4 = true := shut_at hs 12 4 (by kernel_rfl) (shut_at hs 17 12 (by kernel_rfl) (shut_at hs 20 17 (by kernel_rfl) (shut_at hs 28 20 (by kernel_rfl) (shut_at hs 35 28 (by kernel_rfl) (up_at hu 35 (by kernel_rfl))))))
                      have y35 : L 35 = true := up_at hu 35 (by kernel_rfl)
                      have y41 : L 41 = true := up_at hu 41 (by kernel_rfl)
                      try simp only [y4, y35, y41, hL, cond_true, cond_false] at hph
                      have hcl := hph.b.a.s.cell hkiN
                      rw [HGI.out] at hcl
                      refine opIn_run_g (v := .int .i64 (gi : Int)) (w' := w') (j := 35) (b := true) rfl rfl (by simp [yielded, y4, y35, y41, hL]) (fun c h => by cases h) (fun _ => trivial) ?_ ⟨o4, by simp [Act.put, upd, y4, y35, y41, hL], by simp only [upd, y4, y35, y41, hL]; exact hph⟩
                      simp only [y4, y35, y41, hL, cond_true, cond_false]
                      go_simp
                    · skip
                      have y4 : L 4 = true := shut_at hs 12 4 (by kernel_rfl) (shut_at hs 17 12 (by kernel_rfl) (shut_at hs 20 17 (by kernel_rfl) (shut_at hs 28 20 (by kernel_rfl) (shut_at hs 35 28 (by kernel_rfl) (up_at hu 35 (by kernel_rfl))))))
                      have y35 : L 35 = true := up_at hu 35 (by kernel_rfl)
                      have y38 : L 38 = true := up_at hu 38 (by kernel_rfl)
                      have y42 : L 42 = true := up_at hu 42 (by kernel_rfl)
                      refine opIn_run_g (v := .bool false) (w' := w') (j := 35) (b := true) rfl rfl (by simp [yielded, y4, y35, y38, y42, hL]) (fun c h => by cases h) (fun _ => trivial) ?_ ⟨o4, by simp [Act.put, upd, y4, y35, y38, y42, hL], by simpa [upd] using hph⟩
                      simp only [y4, y35, y38, y42, hL, cond_true, cond_false]
                      go_simp
                    · skip
                      have y4 : L 4 = true := shut_at hs 12 4 (by kernel_rfl) (shut_at hs 17 12 (by kernel_rfl) (shut_at hs 20 17 (by kernel_rfl) (shut_at hs 28 20 (by kernel_rfl) (up_at hu 28 (by kernel_rfl)))))
                      have y28 : L 28 = true := up_at hu 28 (by kernel_rfl)
                      have y35 : L 35 = true := up_at hu 35 (by kernel_rfl)
                      have y43 : L 43 = true := up_at hu 43 (by kernel_rfl)
                      refine opIn_run_g (v := .bool false) (w' := w') (j := 28) (b := false) rfl rfl (by simp [yielded, y4, y28, y35, y43, hL]) (fun c h => by cases h) (fun _ => trivial) ?_ ⟨o4, by simp [Act.put, upd, y4, y28, y35, y43, hL], by simpa [upd] using hph⟩
                      simp only [y4, y28, y35, y43, hL, cond_true, cond_false]
                      go_simp
                    · skip
                      have y4 : L 4 = true := shut_at hs 12 4 (by kernel_rfl) (shut_at hs 17 12 (by kernel_rfl) (shut_at hs 20 17 (by kernel_rfl) (shut_at hs 28 20 (by kernel_rfl) (up_at hu 28 (by kernel_rfl)))))
                      have y28 : L 28 = true := up_at hu 28 (by kernel_rfl)
                      have y44 : L 44 = true := up_at hu 44 (by kernel_rfl)
                      refine opIn_run (v := .bool false) (w' := w') rfl rfl (fun c h => by cases h) (fun _ => trivial) ?_ ⟨o4, by simp [Act.put, upd, y4, y28, y44, hL], by simpa [upd] using hph⟩
                      simp only [y4, y28, y44, hL, cond_true, cond_false]
                      go_simp
                  case fintB =>
                    intro L a' w' hall hI
                    obtain ⟨o4, rfl, hph⟩ := hI
                    have l0 := hall 0 (by decide)
                    have l1 := hall 1 (by decide)
                    have l2 := hall 2 (by decide)
                    have l3 := hall 3 (by decide)
                    have l4 := hall 4 (by decide)
                    have l5 := hall 5 (by decide)
                    have l6 := hall 6 (by decide)
                    have l7 := hall 7 (by decide)
                    have l8 := hall 8 (by decide)
                    have l9 := hall 9 (by decide)
                    have l10 := hall 10 (by decide)
                    have l11 := hall 11 (by decide)
                    have l12 := hall 12 (by decide)
                    have l13 := hall 13 (by decide)
                    have l14 := hall 14 (by decide)
                    have l15 := hall 15 (by decide)
                    have l16 := hall 16 (by decide)
                    have l17 := hall 17 (by decide)
                    have l18 := hall 18 (by decide)
                    have l19 := hall 19 (by decide)
                    have l20 := hall 20 (by decide)
                    have l21 := hall 21 (by decide)
                    have l22 := hall 22 (by decide)
                    have l23 := hall 23 (by decide)
                    have l24 := hall 24 (by decide)
                    have l25 := hall 25 (by decide)
                    have l26 := hall 26 (by decide)
                    have l27 := hall 27 (by decide)
                    have l28 := hall 28 (by decide)
                    have l29 := hall 29 (by decide)
                    have l30 := hall 30 (by decide)
                    have l31 := hall 31 (by decide)
                    have l32 := hall 32 (by decide)
                    have l33 := hall 33 (by decide)
                    have l34 := hall 34 (by decide)
                    have l35 := hall 35 (by decide)
                    have l36 := hall 36 (by decide)
                    have l37 := hall 37 (by decide)
                    have l38 := hall 38 (by decide)
                    have l39 := hall 39 (by decide)
                    have l40 := hall 40 (by decide)
                    have l41 := hall 41 (by decide)
                    have l42 := hall 42 (by decide)
                    have l43 := hall 43 (by decide)
                    have l44 := hall 44 (by decide)
                    have l45 := hall 45 (by decide)
                    simp only [l0, l1, l2, l3, l4, l5, l6, l7, l8, l9, l10, l11, l12, l13, l14, l15, l16, l17, l18, l19, l20, l21, l22, l23, l24, l25, l26, l27, l28, l29, l30, l31, l32, l33, l34, l35, l36, l37, l38, l39, l40, l41, l42, l43, l44, l45, cond_true] at hph ⊢
                    clear l0 l1 l2 l3 l4 l5 l6 l7 l8 l9 l10 l11 l12 l13 l14 l15 l16 l17 l18 l19 l20 l21 l22 l23 l24 l25 l26 l27 l28 l29 l30 l31 l32 l33 l34 l35 l36 l37 l38 l39 l40 l41 l42 l43 l44 l45 hall
                    have HC8 := Lib.hid hph
                    clear hph HC9 HGI
                    obtain ⟨wg, hwg⟩ : ∃ wg : World, wg = w' := ⟨_, rfl⟩
                    rw [← hwg] at HC8 ⊢
                    clear hwg
                    go_wp2
                    go_roundw
                    case rel => exact ⟨m + 1, o4, Du, by omega, by go_num, by rw [HS1.out]; exact HC8, HNX⟩
                    case measure => simp [intOf]; omega

                · have e1 : decide ((gi : Int) < (bi : Int)) = false := by simp; omega
                  have e2 : ¬ gi < bi := by omega
                  have e3 : bi ≤ gi := by omega
                  obtain rfl : dq = false := by rw [← hdq]; exact e1
                  clear hdq r5
                  go_wp2_with fail
                  refine (wpIn_wide (n := 9)).1 (regionIn_inv (w := wf) (Inv := fun L a' w' => ∃ (o4 : Nat → Nat), a' = { tmps := #[.int .i64 (W : Int), .int .i64 (H : Int), .slice a2 len2 cap2, .slice (some ⟨b3, f3, none⟩) len3 cap3, .slice (some ⟨b4, f4, none⟩) len4 cap4, undef, undef, undef, undef, undef, u10, .pointer (some ⟨pt, 0, none⟩), .pointer (some ⟨pu, 0, none⟩), .slice (some ⟨sb, 0, none⟩) k k, .int .i64 (k : Int), .pointer (some ⟨wp, 0, none⟩), .int .i64 (i : Int), .int .i64 (i : Int), .pointer (some ⟨q, 0, none⟩), .int .i64 (m : Int), .int .i64 (ki : Int), .int .i64 (bi : Int), undef, undef, .bool true, .bool false, .int .i64 a0, .int .i64 (m0 : Int), .int .i64 (W : Int), .int .i64 a1, .int .i64 (m1 : Int), .int .i64 (H : Int), .int .i64 (W : Int), .int .i64 (H : Int), .pointer (some ⟨pt, 0, none⟩), .int .i64 (W : Int), .int .i64 (H : Int), .pointer (some ⟨pu, 0, none⟩), .int .i64 (W : Int), .int .i64 (H : Int), .int .i64 (k : Int), .slice (some ⟨sb, 0, none⟩) k k, .int .i64 (k : Int), .slice (some ⟨sb, 0, none⟩) k k, .int .i64 (k : Int), .bool false, u46, u47, u48, u49, u50, u51, u52, u53, u54, u55, u56, u57, u58, u59, u60, u61, u62, u63, u64, u65, u66, u67, u68, u69, u70, u71, u72, u73, .pointer (some ⟨wp, 0, none⟩), .slice (some ⟨b3, f3, none⟩) len3 cap3, .int .i64 (len3 : Int), .slice (some ⟨b4, f4, none⟩) len4 cap4, .int .i64 (len4 : Int), .int .i64 (i : Int), .int .i64 (i : Int), .int .i64 (i : Int), .bool false, u83, u84, u85, u86, u87, u88, u89, u90, u91, u92, u93, u94, u95, u96, u97, u98, u99, .pointer (some ⟨wp, 0, none⟩), .slice A F.length cap, .pointer (some ⟨q, 0, none⟩), .int .i64 (m : Int), .int .i64 (i : Int), .bool true, u106, u107, .slice (some ⟨b3, f3, none⟩) len3 cap3, .int .i64 (m : Int), .pointer (some ⟨b3, f3 + m, none⟩), .int .i64 kz, .slice (some ⟨sb, 0, none⟩) k k, .int .i64 (k : Int), .int .i64 (ki : Int), .slice (some ⟨b4, f4, none⟩) len4 cap4, .int .i64 (m : Int), .pointer (some ⟨b4, f4 + m, none⟩), .int .i64 bz, .int .i64 (bi : Int), bif L 0 then .pointer (some ⟨pu, 0, none⟩) else u120, bif L 1 then .pointer (some ⟨q, 0, none⟩) else u121, bif L 2 then .int .i64 (ki : Int) else u122, bif L 3 then .int .i64 (bi : Int) else u123, bif L 4 then .bool false else u124, bif L 5 then .slice (some ⟨sb, 0, none⟩) k k else u125, bif L 6 then .int .i64 (ki : Int) else u126, bif L 7 then .pointer (some ⟨sb, ki, none⟩) else u127, bif L 8 then .int .i64 (gi : Int) else u128, bif L 9 then .int .i64 (bi : Int) else u129, bif L 10 then .bool false else u130, bif L 11 then .bool false else u131, bif L 12 then .bool false else u132, bif L 13 then .pointer (some ⟨pu, 0, none⟩) else u133, bif L 14 then .int .i64 (ki : Int) else u134, bif L 15 then .int .i64 (gi : Int) else u135, bif L 16 then .bool true else u136, bif L 17 then .bool true else u137, bif L 18 then .pointer (some ⟨pu, 0, none⟩) else u138, bif L 19 then .int .i64 (ki : Int) else u139, bif L 20 then .int .i64 (gi : Int) else u140, bif L 21 then .slice (some ⟨sb, 0, none⟩) k k else u141, bif L 22 then .int .i64 (ki : Int) else u142, bif L 23 then .pointer (some ⟨sb, ki, none⟩) else u143, bif L 24 then .int .i64 (gi : Int) else u144, bif L 25 then .bool false else u145, bif L 26 then .bool false else u146, bif L 27 then .bool false else u147, bif L 28 then .bool false else u148, bif L 29 then .slice (some ⟨sb, 0, none⟩) k k else u149, bif L 30 then .int .i64 (ki : Int) else u150, bif L 31 then .pointer (some ⟨sb, ki, none⟩) else u151, bif L 32 then .int .i64 (gi : Int) else u152, bif L 33 then .int .i64 (bi : Int) else u153, bif L 34 then .bool false else u154, bif L 35 then .bool false else u155, bif L 36 then undef else u156, bif L 37 then undef else u157, bif L 38 then undef else u158, bif L 39 then undef else u159, bif L 40 then undef else u160, bif L 41 then undef else u161, bif L 42 then undef else u162, bif L 43 then undef else u163, bif L 44 then .bool false else u164, bif L 45 then .bool false else u165, undef, undef, undef, undef, undef, undef, undef, undef, undef, undef, undef, undef, undef, undef], defers := [] } ∧ (bif L 4 then (BkC o4 w w' pt pu W H d sb Pn.2 Du g wp Pn.1 q F s1) else BkC o w w' pt pu W H d sb Pn.2 Tu g wp Pn.1 q F s0)) (by kernel_rfl) (by kernel_rfl) ?starttC ?steptC ?fintC)
                  case starttC => exact ⟨o, rfl, HC9.out.below (below_drewN (Below.refl _ _) 1)⟩
                  case steptC =>
                    intro i hi L a' w' hI hs hu
                    obtain ⟨o4, rfl, hph⟩ := hI
                    have hL := hu.1
                    have hi : i < 46 := hi
                    obtain rfl | rfl | rfl | rfl | rfl | rfl | rfl | rfl | rfl | rfl | rfl | rfl | rfl | rfl | rfl | rfl | rfl | rfl | rfl | rfl | rfl | rfl | rfl | rfl | rfl | rfl | rfl | rfl | rfl | rfl | rfl | rfl | rfl | rfl | rfl | rfl | rfl | rfl | rfl | rfl | rfl | rfl | rfl | rfl | rfl | rfl := (by omega : i = 0 ∨ i = 1 ∨ i = 2 ∨ i = 3 ∨ i = 4 ∨ i = 5 ∨ i = 6 ∨ i = 7 ∨ i = 8 ∨ i = 9 ∨ i = 10 ∨ i = 11 ∨ i = 12 ∨ i = 13 ∨ i = 14 ∨ i = 15 ∨ i = 16 ∨ i = 17 ∨ i = 18 ∨ i = 19 ∨ i = 20 ∨ i = 21 ∨ i = 22 ∨ i = 23 ∨ i = 24 ∨ i = 25 ∨ i = 26 ∨ i = 27 ∨ i = 28 ∨ i = 29 ∨ i = 30 ∨ i = 31 ∨ i = 32 ∨ i = 33 ∨ i = 34 ∨ i = 35 ∨ i = 36 ∨ i = 37 ∨ i = 38 ∨ i = 39 ∨ i = 40 ∨ i = 41 ∨ i = 42 ∨ i = 43 ∨ i = 44 ∨ i = 45)
                    · skip
                      have n4 : L 4 = false := not_yet hL fun h => shut_at hs 4 0 (by kernel_rfl) (h)
                      refine opIn_run (v := .pointer (some ⟨pu, 0, none⟩)) (w' := w') rfl rfl (fun c h => by cases h) (fun _ => trivial) ?_ ⟨o4, by simp [Act.put, upd, n4, hL], by simpa [upd] using hph⟩
                      simp only [n4, hL, cond_true, cond_false]
                      go_simp
                    · skip
                      have n4 : L 4 = false := not_yet hL fun h => shut_at hs 4 1 (by kernel_rfl) (h)
                      refine opIn_run (v := .pointer (some ⟨q, 0, none⟩)) (w' := w') rfl rfl (fun c h => by cases h) (fun _ => trivial) ?_ ⟨o4, by simp [Act.put, upd, n4, hL], by simpa [upd] using hph⟩
                      simp only [n4, hL, cond_true, cond_false]
                      go_simp
                    · skip
                      have n4 : L 4 = false := not_yet hL fun h => shut_at hs 4 2 (by kernel_rfl) (h)
                      refine opIn_run (v := .int .i64 (ki : Int)) (w' := w') rfl rfl (fun c h => by cases h) (fun _ => trivial) ?_ ⟨o4, by simp [Act.put, upd, n4, hL], by simpa [upd] using hph⟩
                      simp only [n4, hL, cond_true, cond_false]
                      go_simp
                    · skip
                      have n4 : L 4 = false := not_yet hL fun h => shut_at hs 4 3 (by kernel_rfl) (h)
                      refine opIn_run (v := .int .i64 (bi : Int)) (w' := w') rfl rfl (fun c h => by cases h) (fun _ => trivial) ?_ ⟨o4, by simp [Act.put, upd, n4, hL], by simpa [upd] using hph⟩
                      simp only [n4, hL, cond_true, cond_false]
                      go_simp
                    · skip
                      have y0 : L 0 = true := up_at hu 0 (by kernel_rfl)
                      have y1 : L 1 = true := up_at hu 1 (by kernel_rfl)
                      have y2 : L 2 = true := up_at hu 2 (by kernel_rfl)
                      have y3 : L 3 = true := up_at hu 3 (by kernel_rfl)
                      try simp only [y0, y1, y2, y3, hL, cond_true, cond_false] at hph
                      refine opIn_call (f := 14) (args := #[.pointer (some ⟨pu, 0, none⟩), .pointer (some ⟨q, 0, none⟩), .int .i64 (ki : Int), .int .i64 (bi : Int)]) (w' := w') rfl rfl (fun c h => by cases h) (fun _ => trivial) rfl ?_ ((callsIn_wide.2 (CD.out _ _ hph)).mono ?_)
                      · simp only [y0, y1, y2, y3, hL, cond_true, cond_false]
                        go_simp
                      · rintro e w2 ⟨rfl, hk9⟩
                        exact ⟨_, rfl, onew o w' 5, by simp [Act.put, upd, y0, y1, y2, y3, hL], by simp only [upd, y0, y1, y2, y3, hL]; exact hk9⟩
                    · skip
                      refine opIn_run (v := .slice (some ⟨sb, 0, none⟩) k k) (w' := w') rfl rfl (fun c h => by cases h) (fun _ => trivial) ?_ ⟨o4, by simp [Act.put, upd, hL], by simpa [upd] using hph⟩
                      simp only [hL, cond_true, cond_false]
                      go_simp
                    · skip
                      refine opIn_run (v := .int .i64 (ki : Int)) (w' := w') rfl rfl (fun c h => by cases h) (fun _ => trivial) ?_ ⟨o4, by simp [Act.put, upd, hL], by simpa [upd] using hph⟩
                      simp only [hL, cond_true, cond_false]
                      go_simp
                    · skip
                      have y5 : L 5 = true := up_at hu 5 (by kernel_rfl)
                      have y6 : L 6 = true := up_at hu 6 (by kernel_rfl)
                      refine opIn_run (v := .pointer (some ⟨sb, ki, none⟩)) (w' := w') rfl rfl (fun c h => by cases h) (fun _ => trivial) ?_ ⟨o4, by simp [Act.put, upd, y5, y6, hL], by simpa [upd] using hph⟩
                      simp only [y5, y6, hL, cond_true, cond_false]
                      go_simp
                    · skip
                      have y7 : L 7 = true := up_at hu 7 (by kernel_rfl)
                      try simp only [y7, hL, cond_true, cond_false] at hph
                      have hcl : w'.cell? ⟨sb, ki, none⟩ = some (.int .i64 ((g ki : Nat) : Int)) := by cases h4 : L 4 <;> simp only [h4, cond_true, cond_false] at hph <;> exact hph.b.a.s.cell hkiN
                      rw [HGI.out] at hcl
                      refine opIn_run (v := .int .i64 (gi : Int)) (w' := w') rfl rfl (fun c h => by cases h) (fun _ => trivial) ?_ ⟨o4, by simp [Act.put, upd, y7, hL], by simp only [upd, y7, hL]; exact hph⟩
                      simp only [y7, hL, cond_true, cond_false]
                      go_simp
                    · skip
                      refine opIn_run (v := .int .i64 (bi : Int)) (w' := w') rfl rfl (fun c h => by cases h) (fun _ => trivial) ?_ ⟨o4, by simp [Act.put, upd, hL], by simpa [upd] using hph⟩
                      simp only [hL, cond_true, cond_false]
                      go_simp
                    · skip
                      have y8 : L 8 = true := up_at hu 8 (by kernel_rfl)
                      have y9 : L 9 = true := up_at hu 9 (by kernel_rfl)
                      refine opIn_run (v := .bool false) (w' := w') rfl rfl (fun c h => by cases h) (fun _ => trivial) ?_ ⟨o4, by simp [Act.put, upd, y8, y9, hL], by simpa [upd] using hph⟩
                      simp only [y8, y9, hL, cond_true, cond_false]
                      go_simp
                    · skip
                      have y4 : L 4 = true := up_at hu 4 (by kernel_rfl)
                      have y10 : L 10 = true := up_at hu 10 (by kernel_rfl)
                      refine opIn_run (v := .bool false) (w' := w') rfl rfl (fun c h => by cases h) (fun _ => trivial) ?_ ⟨o4, by simp [Act.put, upd, y4, y10, hL], by simpa [upd] using hph⟩
                      simp only [y4, y10, hL, cond_true, cond_false]
                      go_simp
                    · skip
                      have y4 : L 4 = true := up_at hu 4 (by kernel_rfl)
                      have y11 : L 11 = true := up_at hu 11 (by kernel_rfl)
                      refine opIn_run (v := .bool false) (w' := w') rfl rfl (fun c h => by cases h) (fun _ => trivial) ?_ ⟨o4, by simp [Act.put, upd, y4, y11, hL], by simpa [upd] using hph⟩
                      simp only [y4, y11, hL, cond_true, cond_false]
                      go_simp
                    · skip
                      have y4 : L 4 = true := shut_at hs 12 4 (by kernel_rfl) (up_at hu 12 (by kernel_rfl))
                      have y12 : L 12 = true := up_at hu 12 (by kernel_rfl)
                      refine opIn_run_g (v := .pointer (some ⟨pu, 0, none⟩)) (w' := w') (j := 12) (b := false) rfl rfl (by simp [yielded, y4, y12, hL]) (fun c h => by cases h) (fun _ => trivial) ?_ ⟨o4, by simp [Act.put, upd, y4, y12, hL], by simpa [upd] using hph⟩
                      simp only [y4, y12, hL, cond_true, cond_false]
                      go_simp
                    · skip
                      have y4 : L 4 = true := shut_at hs 12 4 (by kernel_rfl) (up_at hu 12 (by kernel_rfl))
                      have y12 : L 12 = true := up_at hu 12 (by kernel_rfl)
                      refine opIn_run_g (v := .int .i64 (ki : Int)) (w' := w') (j := 12) (b := false) rfl rfl (by simp [yielded, y4, y12, hL]) (fun c h => by cases h) (fun _ => trivial) ?_ ⟨o4, by simp [Act.put, upd, y4, y12, hL], by simpa [upd] using hph⟩
                      simp only [y4, y12, hL, cond_true, cond_false]
                      go_simp
                    · skip
                      have y4 : L 4 = true := shut_at hs 12 4 (by kernel_rfl) (up_at hu 12 (by kernel_rfl))
                      have y12 : L 12 = true := up_at hu 12 (by kernel_rfl)
                      have y13 : L 13 = true := up_at hu 13 (by kernel_rfl)
                      have y14 : L 14 = true := up_at hu 14 (by kernel_rfl)
                      try simp only [y4, y12, y13, y14, hL, cond_true, cond_false] at hph
                      refine opIn_call_g (f := 16) (args := #[.pointer (some ⟨pu, 0, none⟩), .int .i64 (ki : Int)]) (w' := w') (j := 12) (b := false) rfl rfl (by simp [yielded, y4, y12, y13, y14, hL]) (fun c h => by cases h) (fun _ => trivial) rfl ?_ ((callsIn_wide.2 (CK.out _ _ hph)).mono ?_)
                      · simp only [y4, y12, y13, y14, hL, cond_true, cond_false]
                        go_simp
                      · rintro e w2 ⟨rfl, hk9⟩
                        exact ⟨_, rfl, o4, by simp [Act.put, upd, y4, y12, y13, y14, hL], by simp only [upd, y4, y12, y13, y14, hL]; exact hk9⟩
                    · skip
                      have y4 : L 4 = true := shut_at hs 12 4 (by kernel_rfl) (up_at hu 12 (by kernel_rfl))
                      have y12 : L 12 = true := up_at hu 12 (by kernel_rfl)
                      have y15 : L 15 = true := up_at hu 15 (by kernel_rfl)
                      refine opIn_run_g (v := .bool true) (w' := w') (j := 12) (b := false) rfl rfl (by simp [yielded, y4, y12, y15, hL]) (fun c h => by cases h) (fun _ => trivial) ?_ ⟨o4, by simp [Act.put, upd, y4, y12, y15, hL], by simpa [upd] using hph⟩
                      simp only [y4, y12, y15, hL, cond_true, cond_false]
                      go_simp
                    · skip
                      have y4 : L 4 = true := shut_at hs 12 4 (by kernel_rfl) (up_at hu 12 (by kernel_rfl))
                      have y12 : L 12 = true := up_at hu 12 (by kernel_rfl)
                      have y15 : L 15 = true := up_at hu 15 (by kernel_rfl)
                      have y16 : L 16 = true := up_at hu 16 (by kernel_rfl)
                      refine opIn_run_g (v := .bool true) (w' := w') (j := 12) (b := false) rfl rfl (by simp [yielded, y4, y12, y15, y16, hL]) (fun c h => by cases h) (fun _ => trivial) ?_ ⟨o4, by simp [Act.put, upd, y4, y12, y15, y16, hL], by simpa [upd] using hph⟩
                      simp only [y4, y12, y15, y16, hL, cond_true, cond_false]
                      go_simp
                    · skip
                      have y4 : L 4 = true := shut_at hs 12 4 (by kernel_rfl) (shut_at hs 17 12 (by kernel_rfl) (up_at hu 17 (by kernel_rfl)))
                      have y17 : L 17 = true := up_at hu 17 (by kernel_rfl)
                      refine opIn_run_g (v := .pointer (some ⟨pu, 0, none⟩)) (w' := w') (j := 17) (b := true) rfl rfl (by simp [yielded, y4, y17, hL]) (fun c h => by cases h) (fun _ => trivial) ?_ ⟨o4, by simp [Act.put, upd, y4, y17, hL], by simpa [upd] using hph⟩
                      simp only [y4, y17, hL, cond_true, cond_false]
                      go_simp
                    · skip
                      have y4 : L 4 = true := shut_at hs 12 4 (by kernel_rfl) (shut_at hs 17 12 (by kernel_rfl) (up_at hu 17 (by kernel_rfl)))
                      have y17 : L 17 = true := up_at hu 17 (by kernel_rfl)
                      refine opIn_run_g (v := .int .i64 (ki : Int)) (w' := w') (j := 17) (b := true) rfl rfl (by simp [yielded, y4, y17, hL]) (fun c h => by cases h) (fun _ => trivial) ?_ ⟨o4, by simp [Act.put, upd, y4, y17, hL], by simpa [upd] using hph⟩
                      simp only [y4, y17, hL, cond_true, cond_false]
                      go_simp
                    · skip
                      have y4 : L 4 = true := shut_at hs 12 4 (by kernel_rfl) (shut_at hs 17 12 (by kernel_rfl) (up_at hu 17 (by kernel_rfl)))
                      have y17 : L 17 = true := up_at hu 17 (by kernel_rfl)
                      have y18 : L 18 = true := up_at hu 18 (by kernel_rfl)
                      have y19 : L 19 = true := up_at hu 19 (by kernel_rfl)
                      try simp only [y4, y17, y18, y19, hL, cond_true, cond_false] at hph
                      refine opIn_call_g (f := 16) (args := #[.pointer (some ⟨pu, 0, none⟩), .int .i64 (ki : Int)]) (w' := w') (j := 17) (b := true) rfl rfl (by simp [yielded, y4, y17, y18, y19, hL]) (fun c h => by cases h) (fun _ => trivial) rfl ?_ ((callsIn_wide.2 (CK.out _ _ hph)).mono ?_)
                      · simp only [y4, y17, y18, y19, hL, cond_true, cond_false]
                        go_simp
                      · rintro e w2 ⟨rfl, hk9⟩
                        exact ⟨_, rfl, o4, by simp [Act.put, upd, y4, y17, y18, y19, hL], by simp only [upd, y4, y17, y18, y19, hL]; exact hk9⟩
                    · skip
                      have y4 : L 4 = true := shut_at hs 12 4 (by kernel_rfl) (shut_at hs 17 12 (by kernel_rfl) (up_at hu 17 (by kernel_rfl)))
                      have y17 : L 17 = true := up_at hu 17 (by kernel_rfl)
                      refine opIn_run_g (v := .slice (some ⟨sb, 0, none⟩) k k) (w' := w') (j := 17) (b := true) rfl rfl (by simp [yielded, y4, y17, hL]) (fun c h => by cases h) (fun _ => trivial) ?_ ⟨o4, by simp [Act.put, upd, y4, y17, hL], by simpa [upd] using hph⟩
                      simp only [y4, y17, hL, cond_true, cond_false]
                      go_simp
                    · skip
                      have y4 : L 4 = true := shut_at hs 12 4 (by kernel_rfl) (shut_at hs 17 12 (by kernel_rfl) (up_at hu 17 (by kernel_rfl)))
                      have y17 : L 17 = true := up_at hu 17 (by kernel_rfl)
                      refine opIn_run_g (v := .int .i64 (ki : Int)) (w' := w') (j := 17) (b := true) rfl rfl (by simp [yielded, y4, y17, hL]) (fun c h => by cases h) (fun _ => trivial) ?_ ⟨o4, by simp [Act.put, upd, y4, y17, hL], by simpa [upd] using hph⟩
                      simp only [y4, y17, hL, cond_true, cond_false]
                      go_simp
                    · skip
                      have y4 : L 4 = true := shut_at hs 12 4 (by kernel_rfl) (shut_at hs 17 12 (by kernel_rfl) (up_at hu 17 (by kernel_rfl)))
                      have y17 : L 17 = true := up_at hu 17 (by kernel_rfl)
                      have y21 : L 21 = true := up_at hu 21 (by kernel_rfl)
                      have y22 : L 22 = true := up_at hu 22 (by kernel_rfl)
                      refine opIn_run_g (v := .pointer (some ⟨sb, ki, none⟩)) (w' := w') (j := 17) (b := true) rfl rfl (by simp [yielded, y4, y17, y21, y22, hL]) (fun c h => by cases h) (fun _ => trivial) ?_ ⟨o4, by simp [Act.put, upd, y4, y17, y21, y22, hL], by simpa [upd] using hph⟩
                      simp only [y4, y17, y21, y22, hL, cond_true, cond_false]
                      go_simp
                    · skip
                      have y4 : L 4 = true := shut_at hs 12 4 (by kernel_rfl) (shut_at hs 17 12 (by kernel_rfl) (up_at hu 17 (by kernel_rfl)))
                      have y17 : L 17 = true := up_at hu 17 (by kernel_rfl)
                      have y23 : L 23 = true := up_at hu 23 (by kernel_rfl)
                      try simp only [y4, y17, y23, hL, cond_true, cond_false] at hph
                      have hcl := hph.b.a.s.cell hkiN
                      rw [HGI.out] at hcl
                      refine opIn_run_g (v := .int .i64 (gi : Int)) (w' := w') (j := 17) (b := true) rfl rfl (by simp [yielded, y4, y17, y23, hL]) (fun c h => by cases h) (fun _ => trivial) ?_ ⟨o4, by simp [Act.put, upd, y4, y17, y23, hL], by simp only [upd, y4, y17, y23, hL]; exact hph⟩
                      simp only [y4, y17, y23, hL, cond_true, cond_false]
                      go_simp
                    · skip
                      have y4 : L 4 = true := shut_at hs 12 4 (by kernel_rfl) (shut_at hs 17 12 (by kernel_rfl) (up_at hu 17 (by kernel_rfl)))
                      have y17 : L 17 = true := up_at hu 17 (by kernel_rfl)
                      have y20 : L 20 = true := up_at hu 20 (by kernel_rfl)
                      have y24 : L 24 = true := up_at hu 24 (by kernel_rfl)
                      refine opIn_run_g (v := .bool false) (w' := w') (j := 17) (b := true) rfl rfl (by simp [yielded, y4, y17, y20, y24, hL]) (fun c h => by cases h) (fun _ => trivial) ?_ ⟨o4, by simp [Act.put, upd, y4, y17, y20, y24, hL], by simpa [upd] using hph⟩
                      simp only [y4, y17, y20, y24, hL, cond_true, cond_false]
                      go_simp
                    · skip
                      have y4 : L 4 = true := shut_at hs 12 4 (by kernel_rfl) (up_at hu 12 (by kernel_rfl))
                      have y12 : L 12 = true := up_at hu 12 (by kernel_rfl)
                      have y17 : L 17 = true := up_at hu 17 (by kernel_rfl)
                      have y25 : L 25 = true := up_at hu 25 (by kernel_rfl)
                      refine opIn_run_g (v := .bool false) (w' := w') (j := 12) (b := false) rfl rfl (by simp [yielded, y4, y12, y17, y25, hL]) (fun c h => by cases h) (fun _ => trivial) ?_ ⟨o4, by simp [Act.put, upd, y4, y12, y17, y25, hL], by simpa [upd] using hph⟩
                      simp only [y4, y12, y17, y25, hL, cond_true, cond_false]
                      go_simp
                    · skip
                      have y4 : L 4 = true := shut_at hs 12 4 (by kernel_rfl) (up_at hu 12 (by kernel_rfl))
                      have y12 : L 12 = true := up_at hu 12 (by kernel_rfl)
                      have y26 : L 26 = true := up_at hu 26 (by kernel_rfl)
                      refine opIn_run (v := .bool false) (w' := w') rfl rfl (fun c h => by cases h) (fun _ => trivial) ?_ ⟨o4, by simp [Act.put, upd, y4, y12, y26, hL], by simpa [upd] using hph⟩
                      simp only [y4, y12, y26, hL, cond_true, cond_false]
                      go_simp
                    · skip
                      have y4 : L 4 = true := shut_at hs 12 4 (by kernel_rfl) (shut_at hs 17 12 (by kernel_rfl) (shut_at hs 20 17 (by kernel_rfl) (up_at hu 20 (by kernel_rfl))))
                      have y20 : L 20 = true := up_at hu 20 (by kernel_rfl)
                      have y27 : L 27 = true := up_at hu 27 (by kernel_rfl)
                      refine opIn_run (v := .bool false) (w' := w') rfl rfl (fun c h => by cases h) (fun _ => trivial) ?_ ⟨o4, by simp [Act.put, upd, y4, y20, y27, hL], by simpa [upd] using hph⟩
                      simp only [y4, y20, y27, hL, cond_true, cond_false]
                      go_simp
                    · skip
                      have y4 : L 4 = true := shut_at hs 12 4 (by kernel_rfl) (shut_at hs 17 12 (by kernel_rfl) (shut_at hs 20 17 (by kernel_rfl) (shut_at hs 28 20 (by kernel_rfl) (up_at hu 28 (by kernel_rfl)))))
                      have y28 : L 28 = true := up_at hu 28 (by kernel_rfl)
                      refine opIn_run_g (v := .slice (some ⟨sb, 0, none⟩) k k) (w' := w') (j := 28) (b := false) rfl rfl (by simp [yielded, y4, y28, hL]) (fun c h => by cases h) (fun _ => trivial) ?_ ⟨o4, by simp [Act.put, upd, y4, y28, hL], by simpa [upd] using hph⟩
                      simp only [y4, y28, hL, cond_true, cond_false]
                      go_simp
                    · skip
                      have y4 : L 4 = true := shut_at hs 12 4 (by kernel_rfl) (shut_at hs 17 12 (by kernel_rfl) (shut_at hs 20 17 (by kernel_rfl) (shut_at hs 28 20 (by kernel_rfl) (up_at hu 28 (by kernel_rfl)))))
                      have y28 : L 28 = true := up_at hu 28 (by kernel_rfl)
                      refine opIn_run_g (v := .int .i64 (ki : Int)) (w' := w') (j := 28) (b := false) rfl rfl (by simp [yielded, y4, y28, hL]) (fun c h => by cases h) (fun _ => trivial) ?_ ⟨o4, by simp [Act.put, upd, y4, y28, hL], by simpa [upd] using hph⟩
                      simp only [y4, y28, hL, cond_true, cond_false]
                      go_simp
                    · skip
                      have y4 : L 4 = true := shut_at hs 12 4 (by kernel_rfl) (shut_at hs 17 12 (by kernel_rfl) (shut_at hs 20 17 (by kernel_rfl) (shut_at hs 28 20 (by kernel_rfl) (up_at hu 28 (by kernel_rfl)))))
                      have y28 : L 28 = true := up_at hu 28 (by kernel_rfl)
                      have y29 : L 29 = true := up_at hu 29 (by kernel_rfl)
                      have y30 : L 30 = true := up_at hu 30 (by kernel_rfl)
                      refine opIn_run_g (v := .pointer (some ⟨sb, ki, none⟩)) (w' := w') (j := 28) (b := false) rfl rfl (by simp [yielded, y4, y28, y29, y30, hL]) (fun c h => by cases h) (fun _ => trivial) ?_ ⟨o4, by simp [Act.put, upd, y4, y28, y29, y30, hL], by simpa [upd] using hph⟩
                      simp only [y4, y28, y29, y30, hL, cond_true, cond_false]
                      go_simp
                    · skip
                      have y4 : L 4 = true := shut_at hs 12 4 (by kernel_rfl) (shut_at hs 17 12 (by kernel_rfl) (shut_at hs 20 17 (by kernel_rfl) (shut_at hs 28 20 (by kernel_rfl) (up_at hu 28 (by kernel_rfl)))))
                      have y28 : L 28 = true := up_at hu 28 (by kernel_rfl)
                      have y31 : L 31 = true := up_at hu 31 (by kernel_rfl)
                      try simp only [y4, y28, y31, hL, cond_true, cond_false] at hph
                      have hcl := hph.b.a.s.cell hkiN
                      rw [HGI.out] at hcl
                      refine opIn_run_g (v := .int .i64 (gi : Int)) (w' := w') (j := 28) (b := false) rfl rfl (by simp [yielded, y4, y28, y31, hL]) (fun c h => by cases h) (fun _ => trivial) ?_ ⟨o4, by simp [Act.put, upd, y4, y28, y31, hL], by simp only [upd, y4, y28, y31, hL]; exact hph⟩
                      simp only [y4, y28, y31, hL, cond_true, cond_false]
                      go_simp
                    · skip
                      have y4 : L 4 = true := shut_at hs 12 4 (by kernel_rfl) (shut_at hs 17 12 (by kernel_rfl) (shut_at hs 20 17 (by kernel_rfl) (shut_at hs 28 20 (by kernel_rfl) (up_at hu 28 (by kernel_rfl)))))
                      have y28 : L 28 = true := up_at hu 28 (by kernel_rfl)
                      refine opIn_run_g (v := .int .i64 (bi : Int)) (w' := w') (j := 28) (b := false) rfl rfl (by simp [yielded, y4, y28, hL]) (fun c h => by cases h) (fun _ => trivial) ?_ ⟨o4, by simp [Act.put, upd, y4, y28, hL], by simpa [upd] using hph⟩
                      simp only [y4, y28, hL, cond_true, cond_false]
                      go_simp
                    · skip
                      have y4 : L 4 = true := shut_at hs 12 4 (by kernel_rfl) (shut_at hs 17 12 (by kernel_rfl) (shut_at hs 20 17 (by kernel_rfl) (shut_at hs 28 20 (by kernel_rfl) (up_at hu 28 (by kernel_rfl)))))
                      have y28 : L 28 = true := up_at hu 28 (by kernel_rfl)
                      have y32 : L 32 = true := up_at hu 32 (by kernel_rfl)
                      have y33 : L 33 = true := up_at hu 33 (by kernel_rfl)
                      refine opIn_run_g (v := .bool false) (w' := w') (j := 28) (b := false) rfl rfl (by simp [yielded, y4, y28, y32, y33, hL]) (fun c h => by cases h) (fun _ => trivial) ?_ ⟨o4, by simp [Act.put, upd, y4, y28, y32, y33, hL], by simpa [upd] using hph⟩
                      simp only [y4, y28, y32, y33, hL, cond_true, cond_false]
                      go_simp
                    · skip
                      have y4 : L 4 = true := shut_at hs 12 4 (by kernel_rfl) (shut_at hs 17 12 (by kernel_rfl) (shut_at hs 20 17 (by kernel_rfl) (shut_at hs 28 20 (by kernel_rfl) (up_at hu 28 (by kernel_rfl)))))
                      have y28 : L 28 = true := up_at hu 28 (by kernel_rfl)
                      have y34 : L 34 = true := up_at hu 34 (by kernel_rfl)
                      refine opIn_run_g (v := .bool false) (w' := w') (j := 28) (b := false) rfl rfl (by simp [yielded, y4, y28, y34, hL]) (fun c h => by cases h) (fun _ => trivial) ?_ ⟨o4, by simp [Act.put, upd, y4, y28, y34, hL], by simpa [upd] using hph⟩
                      simp only [y4, y28, y34, hL, cond_true, cond_false]
                      go_simp
                    · skip
                      have y4 : L 4 = true := shut_at hs 12 4 (by kernel_rfl) (shut_at hs 17 12 (by kernel_rfl) (shut_at hs 20 17 (by kernel_rfl) (shut_at hs 28 20 (by kernel_rfl) (shut_at hs 35 28 (by kernel_rfl) (up_at hu 35 (by kernel_rfl))))))
                      have y35 : L 35 = true := up_at hu 35 (by kernel_rfl)
                      exact opIn_not_g (j := 35) (b := true) (c := false) rfl rfl (by simp [yielded, y4, y35, hL]) (by decide) (fun _ => trivial) ⟨o4, by simp [Act.put, upd, y4, y35, hL], by simpa [upd] using hph⟩
                    · skip
                      have y4 : L 4 = true := shut_at hs 12 4 (by kernel_rfl) (shut_at hs 17 12 (by kernel_rfl) (shut_at hs 20 17 (by kernel_rfl) (shut_at hs 28 20 (by kernel_rfl) (shut_at hs 35 28 (by kernel_rfl) (up_at hu 35 (by kernel_rfl))))))
                      have y35 : L 35 = true := up_at hu 35 (by kernel_rfl)
                      exact opIn_not_g (j := 35) (b := true) (c := false) rfl rfl (by simp [yielded, y4, y35, hL]) (by decide) (fun _ => trivial) ⟨o4, by simp [Act.put, upd, y4, y35, hL], by simpa [upd] using hph⟩
                    · skip
                      have y4 : L 4 = true := shut_at hs 12 4 (by kernel_rfl) (shut_at hs 17 12 (by kernel_rfl) (shut_at hs 20 17 (by kernel_rfl) (shut_at hs 28 20 (by kernel_rfl) (shut_at hs 35 28 (by kernel_rfl) (up_at hu 35 (by kernel_rfl))))))
                      have y35 : L 35 = true := up_at hu 35 (by kernel_rfl)
                      have y36 : L 36 = true := up_at hu 36 (by kernel_rfl)
                      have y37 : L 37 = true := up_at hu 37 (by kernel_rfl)
                      exact opIn_not_g (j := 35) (b := true) (c := false) rfl rfl (by simp [yielded, y4, y35, y36, y37, hL]) (by decide) (fun _ => trivial) ⟨o4, by simp [Act.put, upd, y4, y35, y36, y37, hL], by simpa [upd] using hph⟩
                    · skip
                      have y4 : L 4 = true := shut_at hs 12 4 (by kernel_rfl) (shut_at hs 17 12 (by kernel_rfl) (shut_at hs 20 17 (by kernel_rfl) (shut_at hs 28 20 (by kernel_rfl) (shut_at hs 35 28 (by kernel_rfl) (up_at hu 35 (by kernel_rfl))))))
                      have y35 : L 35 = true := up_at hu 35 (by kernel_rfl)
                      exact opIn_not_g (j := 35) (b := true) (c := false) rfl rfl (by simp [yielded, y4, y35, hL]) (by decide) (fun _ => trivial) ⟨o4, by simp [Act.put, upd, y4, y35, hL], by simpa [upd] using hph⟩
                    · skip
                      have y4 : L 4 = true := shut_at hs 12 4 (by kernel_rfl) (shut_at hs 17 12 (by kernel_rfl) (shut_at hs 20 17 (by kernel_rfl) (shut_at hs 28 20 (by kernel_rfl) (shut_at hs 35 28 (by kernel_rfl) (up_at hu 35 (by kernel_rfl))))))
                      have y35 : L 35 = true := up_at hu 35 (by kernel_rfl)
                      exact opIn_not_g (j := 35) (b := true) (c := false) rfl rfl (by simp [yielded, y4, y35, hL]) (by decide) (fun _ => trivial) ⟨o4, by simp [Act.put, upd, y4, y35, hL], by simpa [upd] using hph⟩
                    · skip
                      have y4 : L 4 = true := shut_at hs 12 4 (by kernel_rfl) (shut_at hs 17 12 (by kernel_rfl) (shut_at hs 20 17 (by kernel_rfl) (shut_at hs 28 20 (by kernel_rfl) (shut_at hs 35 28 (by kernel_rfl) (up_at hu 35 (by kernel_rfl))))))
                      have y35 : L 35 = true := up_at hu 35 (by kernel_rfl)
                      have y39 : L 39 = true := up_at hu 39 (by kernel_rfl)
                      have y40 : L 40 = true := up_at hu 40 (by kernel_rfl)
                      exact opIn_not_g (j := 35) (b := true) (c := false) rfl rfl (by simp [yielded, y4, y35, y39, y40, hL]) (by decide) (fun _ => trivial) ⟨o4, by simp [Act.put, upd, y4, y35, y39, y40, hL], by simpa [upd] using hph⟩
                    · skip
                      have y4 : L 4 = true := shut_at hs 12 4 (by kernel_rfl) (shut_at hs 17 12 (by kernel_rfl) (shut_at hs 20 17 (by kernel_rfl) (shut_at hs 28 20 (by kernel_rfl) (shut_at hs 35 28 (by kernel_rfl) (up_at hu 35 (by kernel_rfl))))))
                      have y35 : L 35 = true := up_at hu 35 (by kernel_rfl)
                      have y41 : L 41 = true := up_at hu 41 (by kernel_rfl)
                      exact opIn_not_g (j := 35) (b := true) (c := false) rfl rfl (by simp [yielded, y4, y35, y41, hL]) (by decide) (fun _ => trivial) ⟨o4, by simp [Act.put, upd, y4, y35, y41, hL], by simpa [upd] using hph⟩
                    · skip
                      have y4 : L 4 = true := shut_at hs 12 4 (by kernel_rfl) (shut_at hs 17 12 (by kernel_rfl) (shut_at hs 20 17 (by kernel_rfl) (shut_at hs 28 20 (by kernel_rfl) (shut_at hs 35 28 (by kernel_rfl) (up_at hu 35 (by kernel_rfl))))))
                      have y35 : L 35 = true := up_at hu 35 (by kernel_rfl)
                      have y38 : L 38 = true := up_at hu 38 (by kernel_rfl)
                      have y42 : L 42 = true := up_at hu 42 (by kernel_rfl)
                      exact opIn_not_g (j := 35) (b := true) (c := false) rfl rfl (by simp [yielded, y4, y35, y38, y42, hL]) (by decide) (fun _ => trivial) ⟨o4, by simp [Act.put, upd, y4, y35, y38, y42, hL], by simpa [upd] using hph⟩
                    · skip
                      have y4 : L 4 = true := shut_at hs 12 4 (by kernel_rfl) (shut_at hs 17 12 (by kernel_rfl) (shut_at hs 20 17 (by kernel_rfl) (shut_at hs 28 20 (by kernel_rfl) (up_at hu 28 (by kernel_rfl)))))
                      have y28 : L 28 = true := up_at hu 28 (by kernel_rfl)
                      have y35 : L 35 = true := up_at hu 35 (by kernel_rfl)
                      have y43 : L 43 = true := up_at hu 43 (by kernel_rfl)
                      refine opIn_run_g (v := .bool false) (w' := w') (j := 28) (b := false) rfl rfl (by simp [yielded, y4, y28, y35, y43, hL]) (fun c h => by cases h) (fun _ => trivial) ?_ ⟨o4, by simp [Act.put, upd, y4, y28, y35, y43, hL], by simpa [upd] using hph⟩
                      simp only [y4, y28, y35, y43, hL, cond_true, cond_false]
                      go_simp
                    · skip
                      have y4 : L 4 = true := shut_at hs 12 4 (by kernel_rfl) (shut_at hs 17 12 (by kernel_rfl) (shut_at hs 20 17 (by kernel_rfl) (shut_at hs 28 20 (by kernel_rfl) (up_at hu 28 (by kernel_rfl)))))
                      have y28 : L 28 = true := up_at hu 28 (by kernel_rfl)
                      have y44 : L 44 = true := up_at hu 44 (by kernel_rfl)
                      refine opIn_run (v := .bool false) (w' := w') rfl rfl (fun c h => by cases h) (fun _ => trivial) ?_ ⟨o4, by simp [Act.put, upd, y4, y28, y44, hL], by simpa [upd] using hph⟩
                      simp only [y4, y28, y44, hL, cond_true, cond_false]
                      go_simp
                  case fintC =>
                    intro L a' w' hall hI
                    obtain ⟨o4, rfl, hph⟩ := hI
                    have l0 := hall 0 (by decide)
                    have l1 := hall 1 (by decide)
                    have l2 := hall 2 (by decide)
                    have l3 := hall 3 (by decide)
                    have l4 := hall 4 (by decide)
                    have l5 := hall 5 (by decide)
                    have l6 := hall 6 (by decide)
                    have l7 := hall 7 (by decide)
                    have l8 := hall 8 (by decide)
                    have l9 := hall 9 (by decide)
                    have l10 := hall 10 (by decide)
                    have l11 := hall 11 (by decide)
                    have l12 := hall 12 (by decide)
                    have l13 := hall 13 (by decide)
                    have l14 := hall 14 (by decide)
                    have l15 := hall 15 (by decide)
                    have l16 := hall 16 (by decide)
                    have l17 := hall 17 (by decide)
                    have l18 := hall 18 (by decide)
                    have l19 := hall 19 (by decide)
                    have l20 := hall 20 (by decide)
                    have l21 := hall 21 (by decide)
                    have l22 := hall 22 (by decide)
                    have l23 := hall 23 (by decide)
                    have l24 := hall 24 (by decide)
                    have l25 := hall 25 (by decide)
                    have l26 := hall 26 (by decide)
                    have l27 := hall 27 (by decide)
                    have l28 := hall 28 (by decide)
                    have l29 := hall 29 (by decide)
                    have l30 := hall 30 (by decide)
                    have l31 := hall 31 (by decide)
                    have l32 := hall 32 (by decide)
                    have l33 := hall 33 (by decide)
                    have l34 := hall 34 (by decide)
                    have l35 := hall 35 (by decide)
                    have l36 := hall 36 (by decide)
                    have l37 := hall 37 (by decide)
                    have l38 := hall 38 (by decide)
                    have l39 := hall 39 (by decide)
                    have l40 := hall 40 (by decide)
                    have l41 := hall 41 (by decide)
                    have l42 := hall 42 (by decide)
                    have l43 := hall 43 (by decide)
                    have l44 := hall 44 (by decide)
                    have l45 := hall 45 (by decide)
                    simp only [l0, l1, l2, l3, l4, l5, l6, l7, l8, l9, l10, l11, l12, l13, l14, l15, l16, l17, l18, l19, l20, l21, l22, l23, l24, l25, l26, l27, l28, l29, l30, l31, l32, l33, l34, l35, l36, l37, l38, l39, l40, l41, l42, l43, l44, l45, cond_true] at hph ⊢
                    clear l0 l1 l2 l3 l4 l5 l6 l7 l8 l9 l10 l11 l12 l13 l14 l15 l16 l17 l18 l19 l20 l21 l22 l23 l24 l25 l26 l27 l28 l29 l30 l31 l32 l33 l34 l35 l36 l37 l38 l39 l40 l41 l42 l43 l44 l45 hall
                    have HC8 := Lib.hid hph
                    clear hph HC9 HGI
                    obtain ⟨wg, hwg⟩ : ∃ wg : World, wg = w' := ⟨_, rfl⟩
                    rw [← hwg] at HC8 ⊢
                    clear hwg
                    go_wp2
                    go_roundw
                    case rel => exact ⟨m + 1, o4, Du, by omega, by go_num, by rw [HS1.out]; exact HC8, HNX⟩
                    case measure => simp [intOf]; omega


            · obtain rfl : m = i := by omega
              have hnlt : ¬ (m : Int) < (m : Int) := by omega
              clear hlt
              go_wp2_with fail
              have hend := end_at (bitsB W d kk bb T m).1
              rw [HPN.out, HF.out] at hend
              have hsn : (bat (bitsB W d kk bb T m).1).n ≤ 6240 := by rw [HPN.out]; exact hwl
              have CE := HC.out.fin (by omega) (by omega)
              rw [HPN.out, hend.1, hend.2] at CE
              have CE := Lib.hid CE
              clear hend hsn HC HM hnlt
              refine CE.out.mono ?_
              rintro e v3 ⟨rfl, hc3⟩
              have CBy := Lib.hid (hc3.b.bytes (by omega))
              have HBel := Lib.hid hc3.b.a.bel
              clear hc3 CE
              go_wp2_with fail
              refine CBy.out.mono ?_
              rintro e v4 ⟨v, rfl, hv, hb4⟩
              rw [HF.out] at hv
              obtain ⟨A', cap', rfl, hA', hcl', hcm'⟩ := own_any hv
              have HBf := Lib.hid hb4.a.bel
              clear hv hb4 CBy
              go_wp2
              go_ret
              exact ⟨rfl, HBf.out⟩


end Go.Proofs.Ythgbnkcbcepjdaa
