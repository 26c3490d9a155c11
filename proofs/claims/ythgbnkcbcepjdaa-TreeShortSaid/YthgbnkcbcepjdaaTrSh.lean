/- Trees: what was said once is not said again (TreeShort). -/
import Derived.Test.YthgbnkcbcepjdaaTrSh2
import Derived.Test.YthgbnkcbcepjdaaTrTw
set_option linter.unusedVariables false
set_option linter.unusedSimpArgs false
namespace Go.Proofs.Ythgbnkcbcepjdaa
open Go.RowKit
set_option maxRecDepth 100000
set_option maxHeartbeats 16000000 in
theorem walk_treeShort (a0 : Int) (a1 : Int) (a2 : Int) (w : World) (w0 : (Lit.int .i64 a0).wf = true) (w1 : (Lit.int .i64 a1).wf = true) (w2 : (Lit.int .i64 a2).wf = true) :
    Calls Try.prog 5 #[.int .i64 a0, .int .i64 a1, .int .i64 a2] w fun e w' => e = .returned (.bool true) ∧ Below w.heap.size w w' := by
  have hbd0 := bd_i64 w0
  have hbd1 := bd_i64 w1
  have hbd2 := bd_i64 w2
  clear w0 w1 w2
  have K := Lib.hid (fun u => known13 u)
  go_enter Try.func5, Try.ntmps5
  go_wp2_with fail
  refine (K.out _).mono ?_
  rintro e u0 ⟨rfl, hb⟩
  have HB := Lib.hid hb
  clear hb K
  go_wp2_with fail
  refine (some13 _ 8 _ (by omega) (by omega)).mono ?_
  rintro e w' ⟨rfl, rfl⟩
  obtain ⟨m0, hm0⟩ : ∃ m0 : Nat, modN a0 8 = m0 := ⟨_, rfl⟩
  have hm08 : m0 < 8 := by rw [← hm0]; exact (modN_lt a0 8 (by omega)).1
  rw [hm0]
  clear hm0
  obtain ⟨W, hW⟩ : ∃ W : Nat, (1 : Int) + (m0 : Int) = (W : Int) := ⟨1 + m0, by omega⟩
  have hW8 : 1 ≤ W ∧ W ≤ 8 := by omega
  go_wp2_with fail
  clear hm08
  refine (some13 _ 8 _ (by omega) (by omega)).mono ?_
  rintro e w' ⟨rfl, rfl⟩
  obtain ⟨m1, hm1⟩ : ∃ m1 : Nat, modN a1 8 = m1 := ⟨_, rfl⟩
  have hm18 : m1 < 8 := by rw [← hm1]; exact (modN_lt a1 8 (by omega)).1
  rw [hm1]
  clear hm1
  obtain ⟨H, hH⟩ : ∃ H : Nat, (1 : Int) + (m1 : Int) = (H : Int) := ⟨1 + m1, by omega⟩
  have hH8 : 1 ≤ H ∧ H ≤ 8 := by omega
  go_wp2_with fail
  clear hm18
  refine (some13 _ 9 _ (by omega) (by omega)).mono ?_
  rintro e w' ⟨rfl, rfl⟩
  obtain ⟨n, hn⟩ : ∃ n : Nat, modN a2 9 = n := ⟨_, rfl⟩
  have hn8 : n ≤ 8 := by have := (modN_lt a2 9 (by omega)).1; omega
  rw [hn]
  clear hn
  go_wp2_with fail
  clear hW hH hbd0 hbd1 hbd2
  refine (new_o (fun _ => 0) 1 W H u0 (by omega) (by omega)).mono ?_
  rintro e u1 ⟨pt, d, rfl, hT1, hb1, hd8⟩
  have HT1 := Lib.hid hT1
  have HB1 := Lib.hid (HB.out.trans (hb1.mono HB.out.size))
  have HO1 := Lib.hid ((Bs.zero w.heap.size).new HB.out.size 1)
  clear hT1 hb1 HB
  obtain ⟨o1, ho1⟩ : ∃ o1, onew (fun _ => 0) u0 1 = o1 := ⟨_, rfl⟩
  rw [ho1] at HT1 HO1
  clear ho1
  obtain ⟨hd1, _, ht1, ht2, hmid⟩ := HT1.out.shp
  have HMID := Lib.hid hmid
  have HTOP := Lib.hid (And.intro ht1 ht2)
  clear hmid ht1 ht2
  go_wp2_with fail
  refine (wnew_o o1 2 u1).mono ?_
  rintro e u2 ⟨wp, rfl, hw2, hb2⟩
  have HA : Hid (ShO (onew o1 u1 2) w u2 pt W H d wp T0 []) := Lib.hid ⟨HT1.out.below hb2 (onew_old o1 u1 2), hw2, HO1.out.new HB1.out.size 2, HB1.out.trans (hb2.mono HB1.out.size)⟩
  clear hw2 hb2 HT1 HB1 HO1
  obtain ⟨o2, ho2⟩ : ∃ o2, onew o1 u1 2 = o2 := ⟨_, rfl⟩
  rw [ho2] at HA
  clear ho2
  obtain ⟨N, hN⟩ : ∃ N, W * H = N := ⟨_, rfl⟩
  have hN64 : 1 ≤ N ∧ N ≤ 64 := by
    have h1 : W * H ≤ 8 * 8 := Nat.mul_le_mul hW8.2 hH8.2
    have h2 : 1 * 1 ≤ W * H := Nat.mul_le_mul hW8.1 hH8.1
    omega
  have hNi : (W : Int) * (H : Int) = (N : Int) := by rw [← hN]; simp
  have HN := Lib.hid hN
  clear hN
  go_wp2_with fail
  go_loopw [9] (fun iv wr => ∃ (k : Nat) (o : Nat → Nat) (T : TT), k ≤ N ∧ iv = .int .i64 (k : Int) ∧ Hid (ShO o w wr pt W H d wp T []) ∧ Hid (SetOk W H d T ∧ Att0 W H d T ∧ ∀ m, m < k → (T 0 m).num = (n : Int))) (fun iv _ => N - (intOf iv).toNat)
  case atStart => exact ⟨0, _, T0, by omega, rfl, HA, Lib.hid ⟨SetOk.zero W H d, Att0.zero W H d, fun m hm => absurd hm (by omega)⟩⟩
  case round =>
    obtain ⟨k, o, T, hk, rfl, HX, HS⟩ := hrel
    clear HA
    by_cases hlt : k < N
    · have hkN : (k : Int) < (N : Int) := by omega
      have hkWH : k < W * H := by rw [HN.out]; exact hlt
      go_wp2_with fail
      refine (HX.out.set hkWH n (by omega)).mono ?_
      rintro e u5 ⟨rfl, hA⟩
      have HA5 := Lib.hid hA
      have HS5 : Hid (SetOk W H d (setM T W H d k (n : Int)) ∧ Att0 W H d (setM T W H d k (n : Int)) ∧ ∀ m, m < k + 1 → ((setM T W H d k (n : Int)) 0 m).num = (n : Int)) := Lib.hid (by
        have h := set_ok HS.out.1 hd1 hW8.1 hkWH (n : Int) (by omega)
        refine ⟨h.1, set_att HS.out.2.1 hd1 hW8.1 hkWH _, fun m hm => ?_⟩
        rw [h.2 m]
        split
        · rfl
        · exact HS.out.2.2 m (by omega))
      clear hA HX HS
      go_wp2
      go_roundw
      case rel => exact ⟨k + 1, _, _, by omega, by go_num, HA5, HS5⟩
      case measure => simp [intOf]; omega
    · obtain rfl : k = N := by omega
      have hnlt : ¬ (k : Int) < (k : Int) := by omega
      have HQ0 : Hid (ShQ W H d n 0 T []) := Lib.hid (ShQ.start HS.out.1 HS.out.2.1 (fun m hm => HS.out.2.2 m (by rw [← HN.out]; exact hm)))
      clear hlt HS
      go_wp2_with fail
      go_loopw [10] (fun iv wr => ∃ (t : Nat) (o : Nat → Nat) (T : TT) (bs : List Int), t ≤ 2 ∧ iv = .int .i64 (t : Int) ∧ Hid (ShO o w wr pt W H d wp T bs) ∧ Hid (ShQ W H d n (t * k) T bs)) (fun iv _ => 2 - (intOf iv).toNat)
      case atStart => exact ⟨0, _, T, [], by omega, rfl, HX, by rw [Nat.zero_mul]; exact HQ0⟩
      case round =>
        obtain ⟨t, o3, T3, bs, ht, rfl, HX3, HQ3⟩ := hrel
        clear HX HQ0
        by_cases hlt : t < 2
        · have hti : (t : Int) < 2 := by omega
          go_wp2_with fail
          go_loopw [11] (fun iv wr => ∃ (j : Nat) (o : Nat → Nat) (T : TT) (bs : List Int), j ≤ k ∧ iv = .int .i64 (j : Int) ∧ Hid (ShO o w wr pt W H d wp T bs) ∧ Hid (ShQ W H d n (t * k + j) T bs)) (fun iv _ => k - (intOf iv).toNat)
          case atStart => exact ⟨0, _, _, _, by omega, rfl, HX3, HQ3⟩
          case round =>
            obtain ⟨j, o4, T4, bs4, hj, rfl, HX4, HQ4⟩ := hrel
            clear HX3 HQ3
            by_cases hlt2 : j < k
            · have hjk : (j : Int) < (k : Int) := by omega
              have hjWH : j < W * H := by rw [HN.out]; exact hlt2
              have hbl := HQ4.out.len hW8 hH8 hd8 hn8
              have CE := Lib.hid (HX4.out.enc hjWH ((n : Int) + 1) (by omega) hd8 (by omega))
              have HQ5 : Hid (ShQ W H d n (t * k + (j + 1)) (encB ((n : Int) + 1) W d j bs4 T4).2.1 (encB ((n : Int) + 1) W d j bs4 T4).1) := Lib.hid (by
                rw [← Nat.add_assoc]
                refine HQ4.out.next hd1 hW8.1 hjWH ?_ HTOP.out
                rcases (by omega : t = 0 ∨ t = 1) with rfl | rfl
                · left; omega
                · right; rw [HN.out]; omega)
              clear hbl
              go_wp2_with fail
              refine CE.out.mono ?_
              rintro e u6 ⟨rfl, hA⟩
              have HA6 := Lib.hid hA
              clear hA HX4 HQ4 CE
              go_wp2
              go_roundw
              case rel => exact ⟨j + 1, _, _, _, by omega, by go_num, HA6, HQ5⟩
              case measure => simp [intOf]; omega
            · have HQ5 : Hid (ShQ W H d n ((t + 1) * k) T4 bs4) := Lib.hid (by
                rw [Nat.succ_mul]
                rw [show t * k + k = t * k + j by omega]
                exact HQ4.out)
              have hjk : ¬ (j : Int) < (k : Int) := by omega
              clear HQ4 hlt2
              go_wp2
              go_roundw
              case rel => exact ⟨t + 1, _, _, _, by omega, by go_num, HX4, HQ5⟩
              case measure => simp [intOf]; omega
        · obtain rfl : t = 2 := by omega
          have hall := HQ3.out.all hW8.1 (by omega) (by rw [HN.out]; omega)
          have hbl := HQ3.out.len hW8 hH8 hd8 hn8
          have HALL := Lib.hid hall
          clear hlt HQ3 hall
          go_wp2_with fail
          go_loopw [12, 13, 14] (fun nv av bv wr => ∃ (i c a b : Nat), i + 1 ≤ d ∧ nv = .int .i64 (c : Int) ∧ av = .int .i64 (a : Int) ∧ bv = .int .i64 (b : Int) ∧ Hid (c = 1 + cntA W H i ∧ a = dimF W i ∧ b = dimF H i) ∧ Hid (ShO o3 w wr pt W H d wp T3 bs)) (fun nv _ _ _ => 1000 - (intOf nv).toNat)
          case atStart => exact ⟨0, 1, W, H, by omega, rfl, rfl, rfl, Lib.hid ⟨rfl, rfl, rfl⟩, HX3⟩
          case round =>
            obtain ⟨i, c, a, b, hi, rfl, rfl, rfl, HE, HX5⟩ := hrel
            clear HX3
            have hbd := lev_bd hW8 hH8 hd8 hi HE.out.1 HE.out.2.1 HE.out.2.2
            obtain ⟨ab, hab⟩ : ∃ ab, a * b = ab := ⟨_, rfl⟩
            have habI : (a : Int) * (b : Int) = (ab : Int) := by rw [← hab]; simp
            by_cases hlt : i + 1 < d
            · have hab1 : 1 < ab := by
                rw [← hab]
                rcases HMID.out i hlt with h | h
                · rw [← HE.out.2.1] at h
                  exact Nat.lt_of_lt_of_le h (Nat.le_mul_of_pos_right a hbd.2.2.1)
                · rw [← HE.out.2.2] at h
                  exact Nat.lt_of_lt_of_le h (Nat.le_mul_of_pos_left b hbd.1)
              have h1 : (1 : Int) < (ab : Int) := by omega
              have hab64 : ab ≤ 64 := by omega
              have HAB := Lib.hid hab
              obtain ⟨a9, ha9⟩ : ∃ a9, (a + 1) / 2 = a9 := ⟨_, rfl⟩
              obtain ⟨b9, hb9⟩ : ∃ b9, (b + 1) / 2 = b9 := ⟨_, rfl⟩
              have hta : ((a : Int) + 1).tdiv 2 = (a9 : Int) := by rw [← ha9]; rfl
              have htb : ((b : Int) + 1).tdiv 2 = (b9 : Int) := by rw [← hb9]; rfl
              have ha98 : a9 ≤ 8 := by omega
              have hb98 : b9 ≤ 8 := by omega
              have HA9 := Lib.hid ha9
              have HB9 := Lib.hid hb9
              clear hab ha9 hb9
              go_wp2
              clear hta htb habI
              go_roundw
              case rel => exact ⟨i + 1, c + ab, a9, b9, by omega, by go_num, rfl, rfl, Lib.hid ⟨by rw [cntA, HE.out.1, ← HAB.out, HE.out.2.1, HE.out.2.2]; omega, by rw [← HA9.out, HE.out.2.1]; rfl, by rw [← HB9.out, HE.out.2.2]; rfl⟩, HX5⟩
              case measure => simp [intOf]; omega
            · have hid : i = d - 1 := by omega
              have hab1 : ab = 1 := by rw [← hab, HE.out.2.1, HE.out.2.2, hid, HTOP.out.1, HTOP.out.2]
              have hcM : c = cntA W H d := by
                rw [HE.out.1, show d = (d - 1) + 1 by omega, cntA, HTOP.out.1, HTOP.out.2, hid]
                omega
              have h1 : ¬ (1 : Int) < (ab : Int) := by omega
              have hab64 : ab ≤ 64 := by omega
              have HC := Lib.hid hcM
              clear hab hid hcM hlt hab1 HE
              go_wp2_with fail
              have hwl : (wrun bs).1.length ≤ bs.length := by
                have := wfold_len (s := ([], 0)) (by simpa [wrun] using wrun_ok []) bs
                simpa [wrun, wfold] using this
              have CBy := Lib.hid (HX5.out.bytes (by omega))
              refine CBy.out.mono ?_
              rintro e v1 ⟨v, rfl, hv, hx1⟩
              have HX1 := Lib.hid hx1
              obtain ⟨F, hF⟩ : ∃ F, bytesF (wrun bs).1 = F := ⟨_, rfl⟩
              have hok := (bytes_ok bs).1
              have hFl : F.length ≤ 521 := by rw [← hF]; unfold bytesF; split <;> (try simp) <;> omega
              rw [hF] at hv hok
              have HF := Lib.hid hF
              have HOK := Lib.hid hok
              obtain ⟨A, cap, rfl, hA, hcl, hcm⟩ := own_any hv
              have hL := Lst.own hv
              have CR := Lib.hid (brnew_any (n := F.length) rfl hA hL (by omega))
              clear hv hx1 hL hF hok CBy hwl HX5
              go_wp2_with fail
              refine CR.out.mono ?_
              rintro e v2 ⟨q, rfl, hq, hb2⟩
              have HR : Hid (ShR (onew o3 v1 3) w v2 wp bs q F (bat (preB n 0))) := Lib.hid (by
                have h := HX1.out.rd hb2 hq
                rw [show preB n 0 = [] by simp [preB]]
                exact h)
              clear hq hb2 CR HX1 hA
              obtain ⟨o5, ho5⟩ : ∃ o5, onew o3 v1 3 = o5 := ⟨_, rfl⟩
              rw [ho5] at HR
              clear ho5
              have hcn : c + n ≤ 457 := by omega
              go_wp2_with fail
              go_loopw [16, 17, 18] (fun zv ov iv wr => ∃ (m z o : Nat), m ≤ c + n ∧ iv = .int .i64 (m : Int) ∧ zv = .int .i64 (z : Int) ∧ ov = .int .i64 (o : Int) ∧ Hid (z = min m n ∧ o = m - n) ∧ Hid (ShR o5 w wr wp bs q F (bat (preB n m)))) (fun _ _ iv _ => c + n - (intOf iv).toNat)
              case atStart => exact ⟨0, 0, 0, by omega, rfl, rfl, rfl, Lib.hid (by omega), HR⟩
              case round =>
                obtain ⟨m, z, o, hm, rfl, rfl, rfl, HZO, HRm⟩ := hrel
                have hzb : z ≤ 457 ∧ o ≤ 457 := by have := HZO.out; omega
                clear HR
                have hsr := bat_rng (preB n m)
                have hsn : (bat (preB n m)).n ≤ 80000 := by
                  have := hsr.2
                  unfold preB at this
                  rw [List.length_append, List.length_replicate, List.length_replicate] at this
                  unfold preB
                  omega
                by_cases hlt : m < c + n
                · have hmi : (m : Int) < (c : Int) + (n : Int) := by omega
                  obtain ⟨t9, e1, e2⟩ := preB_next (n := n) (M := c) (i := m) (by omega)
                  have hrb := read_bit (a := preB n m) (b := if m < n then (0 : Int) else 1) (t := t9)
                  rw [← e1, ← e2] at hrb
                  rw [HC.out, ← HALL.out, HF.out] at hrb
                  have CB := HRm.out.bit (by omega) hsn hsr.1 HOK.out
                  rw [hrb.1, hrb.2] at CB
                  clear hrb e1 e2 hsr hsn
                  by_cases hin : m < n
                  · rw [if_pos hin] at CB
                    have CB := Lib.hid CB
                    go_wp2_with fail
                    refine CB.out.mono ?_
                    rintro e v3 ⟨rfl, hq⟩
                    have HR3 := Lib.hid hq
                    clear hq CB HRm
                    go_wp2
                    go_roundw
                    case rel => exact ⟨m + 1, z + 1, o, by omega, by go_num, by go_num, rfl, Lib.hid (by have := HZO.out; omega), HR3⟩
                    case measure => simp [intOf]; omega
                  · rw [if_neg hin] at CB
                    have CB := Lib.hid CB
                    go_wp2_with fail
                    refine CB.out.mono ?_
                    rintro e v3 ⟨rfl, hq⟩
                    have HR3 := Lib.hid hq
                    clear hq CB HRm
                    go_wp2
                    go_roundw
                    case rel => exact ⟨m + 1, z, o + 1, by omega, by go_num, rfl, by go_num, Lib.hid (by have := HZO.out; omega), HR3⟩
                    case measure => simp [intOf]; omega
                · obtain rfl : m = c + n := by omega
                  have hmi : ¬ ((c + n : Nat) : Int) < (c : Int) + (n : Int) := by omega
                  have hend := end_at bs
                  have hpb : preB n (c + n) = bs := by rw [Nat.add_comm, preB_all, HC.out, ← HALL.out]
                  rw [HF.out] at hend
                  rw [hpb] at hsn HRm hsr
                  have CE := HRm.out.fin (by omega) (by omega)
                  rw [hend.1, hend.2] at CE
                  have CE := Lib.hid CE
                  obtain ⟨rfl, rfl⟩ : z = n ∧ o = c := by have := HZO.out; omega
                  clear HZO
                  clear hend hsn hsr hpb hlt
                  go_wp2_with fail
                  refine CE.out.mono ?_
                  rintro e v3 ⟨rfl, hc3⟩
                  have hwl : (wrun bs).1.length ≤ bs.length := by
                    have := wfold_len (s := ([], 0)) (by simpa [wrun] using wrun_ok []) bs
                    simpa [wrun, wfold] using this
                  have CBy := Lib.hid (hc3.bytes (by omega))
                  clear hc3 CE HRm hwl
                  go_wp2_with fail
                  refine CBy.out.mono ?_
                  rintro e v4 ⟨v, rfl, hv, hb4⟩
                  rw [HF.out] at hv
                  obtain ⟨A', cap', rfl, hA', hcl', hcm'⟩ := own_any hv
                  have HBf := Lib.hid hb4
                  clear hv hb4 CBy
                  go_wp2
                  go_ret
                  exact ⟨rfl, HBf.out⟩
end Go.Proofs.Ythgbnkcbcepjdaa
