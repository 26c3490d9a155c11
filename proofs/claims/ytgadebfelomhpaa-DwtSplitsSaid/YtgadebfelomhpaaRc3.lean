/- columns of waveletref10, by its contract. -/
import Derived.Test.YtgadebfelomhpaaRc
set_option linter.unusedVariables false
set_option linter.unusedSimpArgs false
namespace Go.Proofs.Ytgadebfelomhpaa
open Go.RowKit

attribute [local go_sem ↓] appSem_eq slcSem_eq in
set_option maxHeartbeats 4000000 in
set_option maxRecDepth 100000 in
theorem rcols_any {A : Option Addr} {c : Nat} (W H N : Nat) (a : Int) (e : Nat) (P : Nat → Nat → Int) (K : Int) (w : World) (hWH : W ≤ 300 ∧ H ≤ 300) (ha : 0 ≤ a) (he : a % 2 = e) (hK : 0 ≤ K ∧ K ≤ 1073741824) (hbd : Bd K W H P) (hN : W * H = N) (hN1 : N ≤ 1000) (h : RowI w A N c (flat W H P)) :
    Calls Try.prog 27 #[.int .i64 (W : Int), .int .i64 (H : Int), .int .i64 a, .slice A N c, .bool false] w fun e' w' => ∃ A' c', e' = .returned (.slice A' N c') ∧ RowO w.heap.size w' A' N c' (flat W H (colsF e H P)) ∧ Below w.heap.size w w' := by
  obtain ⟨i0, hi, hz0, hz1, hz2⟩ := info_parts Try.info3
  have e1 : e ≤ 1 := by omega
  have H1 := Lib.hid h
  have HN := Lib.hid hN
  have HBD := Lib.hid hbd
  have hmk := fun u => hmkn u N hN1
  clear h hN hbd
  have hcm : c ≤ 9223372036854775807 := by have := H1.out.2.2.1; unfold maxLen at this; omega
  go_enter Try.func27, Try.ntmps27
  go_wp2
  obtain ⟨g, hg⟩ : ∃ g, w.heap.size = g := ⟨_, rfl⟩
  have hO := made_ranged w N hN1
  have hB0 : Below w.heap.size w (w.alloc (Obj.cells (madeCells #[Value.int IntKind.i64 0] N) 3)) := (Below.refl _ _).alloc (Nat.le_refl _) _
  rw [hg] at hO ⊢
  have HO := Lib.hid hO
  have HB0 := Lib.hid hB0
  have HG := Lib.hid hg
  clear hO hB0 hg hmk
  generalize (w.alloc (Obj.cells (madeCells #[Value.int IntKind.i64 0] N) 3)) = W0 at *
  go_loopw [13, 12] (fun _ iv wr => ∃ x : Nat, x ≤ W ∧ iv = .int .i64 (x : Int) ∧ Hid (wr.ownsRow g 3 1 (.slice (some ⟨g, 0, none⟩) N N) N ((ranged (fun m => if m % W < x then colsF e H P (m % W) (m / W) else 0) N).map (Value.int .i64)) ∧ Below w.heap.size w wr)) (fun _ iv _ => W - (intOf iv).toNat)
  case atStart => exact ⟨0, by omega, rfl, Lib.hid ⟨own_map HO.out (fun i _ => by rw [if_neg (by omega)]), HB0.out⟩⟩
  case round =>
    obtain ⟨x, hx, rfl, S⟩ := hrel
    clear HO HB0
    by_cases cx : x < W
    · have cx' : (x : Int) < (W : Int) := by omega
      go_wp2
      go_loopw [13, 14] (fun vv iv wr => ∃ (j : Nat) (A1 : Option Addr) (c1 : Nat), j ≤ H ∧ vv = .slice A1 j c1 ∧ iv = .int .i64 (j : Int) ∧ Hid (wr.ownsRow w.heap.size 3 1 (.slice A1 j c1) j ((ranged (fun y => P x y) j).map (Value.int .i64)) ∧ (Value.slice A1 j c1).ownBlock ≠ some g ∧ wr.ownsRow g 3 1 (.slice (some ⟨g, 0, none⟩) N N) N ((ranged (fun m => if m % W < x then colsF e H P (m % W) (m / W) else 0) N).map (Value.int .i64)) ∧ Below w.heap.size w wr)) (fun _ iv _ => H - (intOf iv).toNat)
      case atStart => exact ⟨0, none, 0, by omega, rfl, rfl, Lib.hid ⟨by simpa [ranged] using World.ownsRow_nil _ _ _ _, by simp [Value.ownBlock], S.out.1, S.out.2⟩⟩
      case round =>
        obtain ⟨j, A1, c1, hj, rfl, rfl, S1⟩ := hrel
        clear S
        by_cases cj : j < H
        · have cj' : (j : Int) < (H : Int) := by omega
          obtain ⟨m1, hm1⟩ : ∃ m1, j * W = m1 := ⟨_, rfl⟩
          obtain ⟨m, hm⟩ : ∃ m, m1 + x = m := ⟨_, rfl⟩
          have Q1 : Hid (wrap64 ((j : Int) * (W : Int)) = (m1 : Int)) := Lib.hid (by rw [← hm1]; exact wr_mul _ _ (by omega) (by omega))
          have q2 : (m1 : Int) + (x : Int) = (m : Int) := by omega
          have hmN : m < N := by rw [← hm, ← hm1, ← HN.out]; exact spot_lt cx cj
          have hmN' : (m : Int) < (N : Int) := by omega
          have hmd : m % W = x ∧ m / W = j := by rw [← hm, ← hm1]; exact ⟨spot_mod j cx, spot_div j cx⟩
          obtain ⟨b, o, hA', hbl, f1⟩ := (H1.out.keep S1.out.2.2.2 (Nat.le_refl _)).cell hmN
          have hfg : (flat W H P).getD m 0 = P x j := by rw [← hm, ← hm1]; exact flat_getD P cx cj
          rw [hfg] at f1
          obtain ⟨_, _, hV, hA1, hc1, hc1m⟩ := own_any S1.out.1
          cases hV
          have h1 := S1.out.1
          have hlast : ranged (fun y => P x y) (j + 1) = (ranged (fun y => P x y) j) ++ [P x j] := by
            unfold ranged
            rw [List.range_succ, List.map_append]
            rfl
          have HL := Lib.hid hlast
          clear hlast hfg
          generalize P x j = u at *
          have HS := Lib.hid S1.out.2
          have hsz := S1.out.2.2.2.size
          subst hA'
          clear S1 hA1 hc1m hm1 hm hmd
          have q1 := Q1.out
          go_wp2_with (at_builtin; refine wpList_append_own_at _ rfl _ _ 24 rfl w.heap.size 3 i0 (.int .i64 0) 1 8 Try.underlying24 hi hz0 hz1 hz2 rfl (by decide) _ _ _ rfl (h1.alloc _) ⟨wr.heap.size, 0, none⟩ 1 1 [.int .i64 u] rfl rfl (cell_one_new _ _ _) ?k2 ?k3 ?k4 ?k5 ?_)
          case k2 => intro u hu; simp at hu; subst hu; rfl
          case k3 => clear q1; unfold maxLen; omega
          case k4 => clear q1; omega
          case k5 => clear q1; simp; omega
          intro v2 w2 hown2 hg2 _ hat
          clear q1
          have hgl' : g < wr.heap.size := (own_lt HS.out.2.1 rfl).2
          obtain ⟨A2, c2, rfl, _, _, _⟩ := own_any hown2
          have S2 : Hid (w2.ownsRow w.heap.size 3 1 (.slice A2 (j + 1) c2) (j + 1) ((ranged (fun y => P x y) (j + 1)).map (Value.int .i64)) ∧ (Value.slice A2 (j + 1) c2).ownBlock ≠ some g ∧ w2.ownsRow g 3 1 (.slice (some ⟨g, 0, none⟩) N N) N ((ranged (fun m => if m % W < x then colsF e H P (m % W) (m / W) else 0) N).map (Value.int .i64)) ∧ Below w.heap.size w w2) := Lib.hid (by
            refine ⟨?_, ?_, ?_, ?_⟩
            · rw [HL.out]
              simpa [Nat.add_assoc] using hown2
            · rcases hat with e | e
              · intro h; exact HS.out.1 (by rw [← h]; exact e.symm)
              · intro h
                have h2 := e.symm.trans h
                simp at h2; omega
            · exact (HS.out.2.1.alloc _).kept hg2 (Or.inr (by
                intro h; exact HS.out.1 (by rw [← h]; rfl)))
            · exact (HS.out.2.2.alloc hsz _).grown hg2 (by simp; omega) (fun k hk => (h1.lt k hk).1))
          clear hg2 hown2 hat h1 HS HL
          go_wp2
          go_roundw
          case rel => exact ⟨j + 1, A2, c2, by omega, by first | rfl | go_num, by go_num, S2⟩
          case measure => simp [intOf]; omega
        · obtain rfl : j = H := by omega
          have HC := Lib.hid (rs9_all a e (w := wr) (RowO.row S1.out.1) ha he (by omega) (fun i => by have := ranged_bdK (f := fun y => P x y) (n := j) hK.1 (fun i hi => HBD.out x i cx hi) i; omega))
          go_wp2_with fail
          refine HC.out.mono ?_
          rintro e' w2 ⟨A3, c3, rfl, hrw, hB2⟩
          have hgl' : g < wr.heap.size := (own_lt S1.out.2.2.1 rfl).2
          have hA3 : ∀ b o, A3 = some ⟨b, o, none⟩ → b ≠ g := fun b o e => by
            rintro rfl
            subst e
            rcases hrw.2 with ⟨hv, _⟩ | ⟨g', cap, cur, hv, hg', _⟩
            · injection hv with hv; cases hv
            · injection hv with hv; injection hv with hv; injection hv with hv
              omega
          have HA3 := Lib.hid hA3
          have S3 : Hid (w2.ownsRow g 3 1 (.slice (some ⟨g, 0, none⟩) N N) N ((ranged (fun m => if m % W < x ∨ m % W = x ∧ m / W < 0 then colsF e j P (m % W) (m / W) else 0) N).map (Value.int .i64)) ∧ RowI w2 A3 j c3 (ranged (fun y => colsF e j P x y) j) ∧ Below w.heap.size w w2) := Lib.hid ⟨own_map (ownsRow_keep S1.out.2.2.1 hB2.size (fun k hk => hB2.block k (own_lt S1.out.2.2.1 hk).2)) (fun m _ => by
              by_cases c1 : m % W < x
              · rw [if_pos c1, if_pos (Or.inl c1)]
              · rw [if_neg c1, if_neg (fun h => h.elim c1 (fun h => Nat.not_lt_zero _ h.2))]), by
              have e5 : SP e j (ranged (fun y => P x y) j) = ranged (fun y => colsF e j P x y) j := (ranged_of _ _ (sp_len e1 (ranged_len _ _))).symm
              rw [← e5]; exact hrw.row, S1.out.2.2.2.trans (hB2.mono S1.out.2.2.2.size)⟩
          clear S1 hrw hB2 HC hA3 cj
          go_wp2
          go_loopw [15] (fun iv wr => ∃ y : Nat, y ≤ j ∧ iv = .int .i64 (y : Int) ∧ Hid (wr.ownsRow g 3 1 (.slice (some ⟨g, 0, none⟩) N N) N ((ranged (fun m => if m % W < x ∨ m % W = x ∧ m / W < y then colsF e j P (m % W) (m / W) else 0) N).map (Value.int .i64)) ∧ RowI wr A3 j c3 (ranged (fun y => colsF e j P x y) j) ∧ Below w.heap.size w wr)) (fun iv _ => j - (intOf iv).toNat)
          case atStart => exact ⟨0, by omega, rfl, S3⟩
          case round =>
            obtain ⟨y, hy, rfl, S4⟩ := hrel
            clear S3
            by_cases cy : y < j
            · have cy' : (y : Int) < (j : Int) := by omega
              obtain ⟨m1, hm1⟩ : ∃ m1, y * W = m1 := ⟨_, rfl⟩
              obtain ⟨m, hm⟩ : ∃ m, m1 + x = m := ⟨_, rfl⟩
              have Q1 : Hid (wrap64 ((y : Int) * (W : Int)) = (m1 : Int)) := Lib.hid (by rw [← hm1]; exact wr_mul _ _ (by omega) (by omega))
              have q2 : (m1 : Int) + (x : Int) = (m : Int) := by omega
              have hmN : m < N := by rw [← hm, ← hm1, ← HN.out]; exact spot_lt cx cy
              have hmN' : (m : Int) < (N : Int) := by omega
              have hmd : m % W = x ∧ m / W = y := by rw [← hm, ← hm1]; exact ⟨spot_mod y cx, spot_div y cx⟩
              obtain ⟨b, o, hA', hbl, f1⟩ := S4.out.2.1.cell cy
              rw [ranged_getD _ cy] at f1
              have hbg := HA3.out b o hA'
              obtain ⟨v0, f2⟩ : ∃ v0, wr.cell? ⟨g, m, none⟩ = some (.int .i64 v0) := ⟨_, own_cell S4.out.1 hmN⟩
              have f3 := S4.out.1.frozenAt m
              have hst := own_set (s := fun m => if m % W < x ∨ m % W = x ∧ m / W < y + 1 then colsF e j P (m % W) (m / W) else 0) S4.out.1 (colsF e j P x y) hmN (fun t htn => by
                by_cases c1 : t = m
                · subst c1; rw [if_pos rfl, if_pos (Or.inr ⟨hmd.1, by omega⟩), hmd.1, hmd.2]
                · rw [if_neg c1]
                  have hu : ¬ (t % W = x ∧ t / W = y) := fun hu => c1 (by
                    have := Nat.div_add_mod t W
                    rw [hu.1, hu.2, Nat.mul_comm, hm1, hm] at this
                    exact this.symm)
                  generalize t / W = t1 at *
                  generalize t % W = t2 at *
                  by_cases c2 : t2 < x ∨ t2 = x ∧ t1 < y
                  · rw [if_pos c2, if_pos (by omega)]
                  · rw [if_neg c2, if_neg (by omega)])
              have S5 : Hid ((wr.setCell ⟨g, m, none⟩ (.int .i64 (colsF e j P x y))).ownsRow g 3 1 (.slice (some ⟨g, 0, none⟩) N N) N ((ranged (fun m => if m % W < x ∨ m % W = x ∧ m / W < y + 1 then colsF e j P (m % W) (m / W) else 0) N).map (Value.int .i64)) ∧ RowI (wr.setCell ⟨g, m, none⟩ (.int .i64 (colsF e j P x y))) A3 j c3 (ranged (fun y => colsF e j P x y) j) ∧ Below w.heap.size w (wr.setCell ⟨g, m, none⟩ (.int .i64 (colsF e j P x y)))) := Lib.hid ⟨hst.1, row_other S4.out.2.1 hst.2 (fun b' o' e => HA3.out b' o' e), S4.out.2.2.setCell (p := ⟨g, m, none⟩) (Nat.le_of_eq HG.out) _⟩
              subst hA'
              generalize colsF e j P x y = u at *
              clear hst S4 hm1 hm hmd
              have q1 := Q1.out
              go_wp2
              clear q1
              go_roundw
              case rel => exact ⟨y + 1, by omega, by go_num, S5⟩
              case measure => simp [intOf]; omega
            · obtain rfl : y = j := by omega
              have S5 : Hid (wr.ownsRow g 3 1 (.slice (some ⟨g, 0, none⟩) N N) N ((ranged (fun m => if m % W < x + 1 then colsF e y P (m % W) (m / W) else 0) N).map (Value.int .i64)) ∧ Below w.heap.size w wr) := Lib.hid ⟨own_map S4.out.1 (fun m hm => by
                have hd : m / W < y := Nat.div_lt_of_lt_mul (by rw [HN.out]; exact hm)
                generalize m / W = t1 at *
                generalize m % W = t2 at *
                by_cases c1 : t2 < x + 1
                · rw [if_pos c1, if_pos (by omega)]
                · rw [if_neg c1, if_neg (by omega)]), S4.out.2.2⟩
              clear S4
              go_wp2
              go_roundw
              case rel => exact ⟨x + 1, by omega, by go_num, S5⟩
              case measure => simp [intOf]; omega
    · obtain rfl : x = W := by omega
      have hrow : RowO w.heap.size wr (some ⟨g, 0, none⟩) N N (flat x H (colsF e H P)) := by
        have h := own_map (s := fun m => colsF e H P (m % x) (m / x)) S.out.1 (fun m hm => by
          have hw0 : 0 < x := by
            rcases Nat.eq_zero_or_pos x with e | e
            · exfalso; have := HN.out; rw [e, Nat.zero_mul] at this; omega
            · exact e
          rw [if_pos (Nat.mod_lt _ hw0)])
        unfold flat
        rw [HN.out]
        rw [← HG.out] at h ⊢
        exact h
      have hB := S.out.2
      clear S
      go_wp2
      go_ret
      exact ⟨_, _, rfl, hrow, hB⟩
end Go.Proofs.Ytgadebfelomhpaa
