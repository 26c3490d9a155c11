/- LiftBounds, walked. -/
import Derived.Test.YtbhkmckeplcdfaaLiftFlat
set_option linter.unusedVariables false
namespace Go.Proofs.Ytbhkmckeplcdfaa
open Go.RowKit

theorem lo_back {n p : Nat} (hn : 2 ≤ n) (hp : p < n) : loI (loI p) = p ∨ hiI n (loI p) = p := by
  unfold loI hiI; split <;> split <;> (try split) <;> omega
theorem hi_back {n p : Nat} (hn : 2 ≤ n) (hp : p < n) : loI (hiI n p) = p ∨ hiI n (hiI n p) = p := by
  unfold loI hiI; split <;> split <;> (try split) <;> omega
theorem lo_lt' {n p : Nat} (hn : 2 ≤ n) (hp : p < n) : loI p < n := by unfold loI; split <;> omega
theorem hi_lt' {n p : Nat} (hn : 2 ≤ n) (hp : p < n) : hiI n p < n := by unfold hiI; split <;> omega
theorem even_bd {M x a b y z : Int} (hx : -M ≤ x ∧ x ≤ M) (ha : -M ≤ a ∧ a ≤ M) (hb : -M ≤ b ∧ b ≤ M) (hy : -M ≤ y ∧ y ≤ M) (hz : -M ≤ z ∧ z ≤ M) :
    -(M + (M + 1) / 2 + 1) ≤ hU x (hP a (x + y) + hP b (x + z)) ∧ hU x (hP a (x + y) + hP b (x + z)) ≤ M + (M + 1) / 2 + 1 := by
  unfold hU hP; omega
theorem odd_bd {M x a b : Int} (hx : -M ≤ x ∧ x ≤ M) (ha : -M ≤ a ∧ a ≤ M) (hb : -M ≤ b ∧ b ≤ M) : -(2 * M + 1) ≤ hP x (a + b) ∧ hP x (a + b) ≤ 2 * M + 1 := by
  unfold hP; omega
theorem low_even_bd {e n p : Nat} {f : Nat → Int} {M : Int} (he : e ≤ 1) (hn : 2 ≤ n) (hp : p < n) (hpe : p % 2 = e) (hf : ∀ i, i < n → -M ≤ f i ∧ f i ≤ M) :
    -(M + (M + 1) / 2 + 1) ≤ lowF e n f p ∧ lowF e n f p ≤ M + (M + 1) / 2 + 1 := by
  rw [low_even he hn hp hpe]
  have l1 := lo_lt' hn hp
  have l2 := hi_lt' hn hp
  have f0 := hf p hp
  have fa := hf _ l1
  have fb := hf _ l2
  have f1 := hf _ (lo_lt' hn l1)
  have f2 := hf _ (hi_lt' hn l1)
  have f3 := hf _ (lo_lt' hn l2)
  have f4 := hf _ (hi_lt' hn l2)
  rcases lo_back hn hp with h1 | h1 <;> rcases hi_back hn hp with h2 | h2 <;> rw [h1, h2]
  · exact even_bd f0 fa fb f2 f4
  · rw [Int.add_comm (f (loI (hiI n p))) (f p)]; exact even_bd f0 fa fb f2 f3
  · rw [Int.add_comm (f (loI (loI p))) (f p)]; exact even_bd f0 fa fb f1 f4
  · rw [Int.add_comm (f (loI (loI p))) (f p), Int.add_comm (f (loI (hiI n p))) (f p)]; exact even_bd f0 fa fb f1 f3
theorem bd_get {e n i : Nat} {f : Nat → Int} {M : Int} (he : e ≤ 1) (hM : 1 ≤ M) (hi : i < n) (hf : ∀ i, i < n → -M ≤ f i ∧ f i ≤ M) :
    (-(2 * M + 1) ≤ (SP e n (ranged f n)).getD i 0 ∧ (SP e n (ranged f n)).getD i 0 ≤ 2 * M + 1) ∧
    (i < (n + 1 - e) / 2 → 1 < n → -(M + (M + 1) / 2 + 1) ≤ (SP e n (ranged f n)).getD i 0 ∧ (SP e n (ranged f n)).getD i 0 ≤ M + (M + 1) / 2 + 1) := by
  by_cases h1 : n = 1
  · subst h1
    obtain rfl : i = 0 := by omega
    have f0 := hf 0 (by omega)
    refine ⟨?_, fun _ h => absurd h (by omega)⟩
    rcases Nat.lt_or_ge e 1 with h0 | h0
    · obtain rfl : e = 0 := by omega
      show -(2 * M + 1) ≤ f 0 ∧ f 0 ≤ 2 * M + 1
      omega
    · obtain rfl : e = 1 := by omega
      show -(2 * M + 1) ≤ 2 * f 0 ∧ 2 * f 0 ≤ 2 * M + 1
      omega
  · have hn : 2 ≤ n := by omega
    rw [sp_get he hn hi]
    by_cases h2 : i < (n + 1 - e) / 2
    · rw [if_pos h2]
      have := low_even_bd (f := f) (M := M) he hn (p := e + 2 * i) (by omega) (by omega) hf
      exact ⟨by omega, fun _ _ => this⟩
    · rw [if_neg h2]
      refine ⟨?_, fun h => absurd h h2⟩
      rw [low_odd he (by omega)]
      exact odd_bd (hf _ (by omega)) (hf _ (lo_lt' hn (by omega))) (hf _ (hi_lt' hn (by omega)))

def bF (M : Int) (l : List Int) : List Int := (l.take 60).map fun x => x % (2 * M + 1) - M
theorem bF_rng {M : Int} (hM : 1 ≤ M) {l : List Int} : ∀ i, -M ≤ (bF M l).getD i 0 ∧ (bF M l).getD i 0 ≤ M := fun i => by
  rw [List.getD_eq_getElem?_getD]
  rcases Nat.lt_or_ge i (bF M l).length with hi | hi
  · rw [List.getElem?_eq_getElem hi]
    obtain ⟨y, _, hy⟩ := List.mem_map.1 (List.getElem_mem hi)
    simp only [Option.getD_some]
    rw [← hy]
    have r0 := Int.emod_nonneg y (show 2 * M + 1 ≠ 0 by omega)
    have r1 := Int.emod_lt_of_pos y (show 0 < 2 * M + 1 by omega)
    omega
  · rw [List.getElem?_eq_none hi]; simp; omega

set_option maxHeartbeats 4000000 in
set_option maxRecDepth 100000 in
theorem walk_liftBounds (a0 : Int) (a1 : Option Addr) (len1 cap1 : Nat) (z1 : List Int) (a2 : Int) (w : World) (w0 : (Lit.int .i64 a0).wf = true) (w1 : IsRow .i64 w a1 len1 cap1 z1) (w2 : (Lit.int .i64 a2).wf = true) :
    Calls Try.prog 7 #[.int .i64 a0, .slice a1 len1 cap1, .int .i64 a2] w fun e w' => e = .returned (.bool true) ∧ Below w.heap.size w w' := by
  obtain ⟨i0, hi, hz0, hz1, hz2⟩ := info_parts Try.info3
  have hrow1 := rowI_is w1
  have hlen := hrow1.1
  have hlc := hrow1.2.1
  have hcm := hrow1.2.2.1
  unfold maxLen at hcm
  have H1 := Lib.hid hrow1
  obtain ⟨l, hl⟩ : ∃ l, z1.take len1 = l := ⟨_, rfl⟩
  rw [hl] at H1 hlen
  clear w0 w1 w2 hrow1 hl
  obtain ⟨M, hM⟩ : ∃ M, 1 + a2 % 65536 = M := ⟨_, rfl⟩
  have hMb : 1 ≤ M ∧ M ≤ 65536 := by omega
  have q1 : IntKind.i64.wrap (1 + a2 % 65536) = M := by rw [hM]; exact IntWalk.i64_in _ (by omega)
  go_enter Try.func7, Try.ntmps7
  go_wp2_with fail
  refine (known9 _).mono ?_
  rintro e w1 ⟨rfl, b1⟩
  go_wp2_with fail
  refine (within9 _ _ _ (by omega) (by omega)).mono ?_
  rintro e w' ⟨rfl, rfl⟩
  have ha : 0 ≤ a0 % 1000 := by omega
  generalize a0 % 1000 = a at *
  obtain ⟨e0, he⟩ : ∃ e0 : Nat, a % 2 = e0 := ⟨(a % 2).toNat, by omega⟩
  have he1 : e0 ≤ 1 := by omega
  have ht : a.tmod 2 = (e0 : Int) := by rw [Int.tmod_eq_emod_of_nonneg ha, he]
  go_wp2_with fail
  refine (within9 _ _ _ (by omega) (by omega)).mono ?_
  rintro e w' ⟨rfl, rfl⟩
  have hs1 := b1.size
  go_wp2
  go_loopw [7, 8] (fun v i wr => ∃ k : Nat, k ≤ len1 ∧ k ≤ 60 ∧ i = .int .i64 k ∧ wr.ownsRow w.heap.size 3 1 v k (((l.take k).map fun x => x % (2 * M + 1) - M).map (Value.int .i64)) ∧ Below w.heap.size w wr) (fun _ i _ => 60 - (intOf i).toNat)
  case atStart => exact ⟨0, by omega, by omega, rfl, by simpa using World.ownsRow_nil _ _ _ _, b1⟩
  case round =>
    obtain ⟨k, k0, k1, rfl, hown, hb⟩ := hrel
    by_cases c12 : k < len1 ∧ k < 60
    · obtain ⟨c1, c2⟩ := c12
      obtain ⟨b, o, rfl, hbb, hc⟩ := (H1.out.keep hb (Nat.le_refl _)).cell c1
      have htk := take_succ_get (l := l) (k := k) (by omega)
      have HT := Lib.hid htk
      clear htk
      have hsz := hb.size
      generalize l.getD k 0 = x at *
      go_wp2_with fail
      refine (within9 _ _ _ (by omega) (by omega)).mono ?_
      rintro e w' ⟨rfl, rfl⟩
      have HI := Lib.hid (show (l.take (k + 1)).map (fun x => x % (2 * M + 1) - M) = (l.take k).map (fun x => x % (2 * M + 1) - M) ++ [x % (2 * M + 1) - M] from by rw [HT.out, List.map_append]; rfl)
      have r0 := Int.emod_nonneg x (show 2 * M + 1 ≠ 0 by omega)
      have r1 := Int.emod_lt_of_pos x (show 0 < 2 * M + 1 by omega)
      generalize x % (2 * M + 1) = u at *
      go_wp2_with (at_builtin; refine wpList_append_own _ rfl _ _ 22 rfl w.heap.size 3 i0 (.int .i64 0) 1 8 Try.underlying22 hi hz0 hz1 hz2 rfl (by decide) _ _ _ rfl (hown.alloc _) ⟨wr.heap.size, 0, none⟩ 1 1 [.int .i64 (u - M)] rfl rfl (cell_one_new _ _ _) ?k2 ?k3 ?k4 ?k5 ?_)
      case k2 => intro u hu; simp at hu; subst hu; rfl
      case k3 => unfold maxLen; omega
      case k4 => omega
      case k5 => simp; omega
      intro v2 w2 hown2 hg2 _
      have hb2 : Below w.heap.size w w2 := (hb.alloc hsz _).grown hg2 (by simp; omega) (fun g hg => (hown.lt g hg).1)
      clear hg2 hown
      go_wp2
      go_roundw
      case rel =>
        refine ⟨k + 1, by omega, by omega, by go_num, ?_, hb2⟩
        rw [HI.out, List.map_append]
        simpa [List.map_take] using hown2
      case measure => simp [intOf] <;> omega
    · have hkn : k = min len1 60 := by omega
      have ebf : (l.take k).map (fun x => x % (2 * M + 1) - M) = bF M l := by
        unfold bF
        by_cases h60 : len1 ≤ 60
        · rw [List.take_of_length_le (by omega), List.take_of_length_le (by omega)]
        · rw [show k = 60 from by omega]
      rw [ebf] at hown
      obtain ⟨A, cA, rfl, hrow⟩ := rowI_own hown
      have hbr := bF_rng hMb.1 (l := l)
      have hbl := hrow.1
      clear hown ebf hi hz0 hz1 hz2 hkn
      generalize bF M l = v at *
      have HR := Lib.hid hbr
      have HW := Lib.hid hrow
      have hc0 : (k < len1 → ¬ k < 60) := by omega
      clear hbr hrow c12 H1
      obtain ⟨L, hL⟩ : ∃ L, (k + 1 - e0) / 2 = L := ⟨_, rfl⟩
      have hq : ((k : Int) + 1 - (e0 : Int)).tdiv 2 = (L : Int) := by rw [Int.tdiv_eq_ediv_of_nonneg (by omega)]; omega
      obtain ⟨M2, hM2⟩ : ∃ M2, (M + 1) / 2 = M2 := ⟨_, rfl⟩
      have hq2 : (M + 1).tdiv 2 = M2 := by rw [Int.tdiv_eq_ediv_of_nonneg (by omega), hM2]
      have hM2b : 0 ≤ M2 ∧ M2 ≤ 40000 := by omega
      have hLb : L ≤ 61 := by omega
      obtain ⟨f, hf⟩ : ∃ f : Nat → Int, (fun i => v.getD i 0) = f := ⟨_, rfl⟩
      have hv : v = ranged f k := by rw [← hf]; exact (ranged_of v k hbl).symm
      have HV := Lib.hid hv
      have HF : Hid (∀ i, i < k → -M ≤ f i ∧ f i ≤ M) := fun i _ => by rw [← hf]; exact HR.out i
      have HL := Lib.hid hL
      have HM2 := Lib.hid hM2
      clear hf hv hL hM2
      have tail : ∀ w3 A3 c3, RowI w3 A3 k c3 (SP e0 k (ranged f k)) → ∀ j, j < k → ∃ p o x, A3 = some ⟨p, o, none⟩ ∧ w3.cell? ⟨p, o + j, none⟩ = some (.int .i64 x) ∧ (-(2 * M + 1) ≤ x ∧ x ≤ 2 * M + 1) ∧ (j < L → 1 < k → -(M + M2 + 1) ≤ x ∧ x ≤ M + M2 + 1) := fun w3 A3 c3 h3 j hj => by
        obtain ⟨p, o, h1, _, h2⟩ := h3.cell hj
        have := bd_get (f := f) (M := M) he1 hMb.1 hj HF.out
        rw [HL.out, HM2.out] at this
        exact ⟨p, o, _, h1, h2, this⟩
      have HT := Lib.hid tail
      clear tail
      by_cases k2 : k < len1
      · have k3 : ¬ k < 60 := hc0 k2
        clear hc0
        go_wp2_with fail
        refine (split_all a e0 HW.out ha he (by omega) (fun i => by have := HR.out i; omega)).mono ?_
        rintro e w3 ⟨A3, c3, rfl, h3, b3⟩
        rw [HV.out] at h3
        have b3 := hb.trans (b3.mono hb.size)
        have H3 := Lib.hid h3
        clear hb h3 HW HV HF HL HM2
        go_wp2
        go_loopw [11] (fun i wr => ∃ j : Nat, j ≤ k ∧ i = .int .i64 (j : Int) ∧ Drew w3 wr) (fun i _ => k - (intOf i).toNat)
        case atStart => exact ⟨0, by omega, rfl, Drew.refl _⟩
        case round =>
          obtain ⟨j, j0, rfl, d⟩ := hrel
          by_cases c2 : j < k
          · obtain ⟨p3, o3, x, rfl, f3, x1, x2⟩ := HT.out wr A3 c3 (H3.out.drew d) j c2
            have X2 := Lib.hid x2
            clear x2
            have hjk : (j : Int) < (k : Int) := by omega
            have nx : IntKind.i64.wrap (0 - x) = -x := by rw [Int.zero_sub]; exact IntWalk.i64_in _ (by omega)
            have nx' : IntKind.i64.wrap (-x) = -x := IntWalk.i64_in _ (by omega)
            obtain ⟨m, hm⟩ : ∃ m, (if x < -x then -x else x) = m := ⟨_, rfl⟩
            have m1 : m ≤ 2 * M + 1 := by rw [← hm]; split <;> omega
            by_cases c4 : j < L ∧ 1 < k
            · obtain ⟨c5, c6⟩ := c4
              have x3 := X2.out c5 c6
              have m2 : m ≤ M + M2 + 1 := by rw [← hm]; split <;> omega
              have c7 : (j : Int) < (L : Int) := by omega
              have c8 : (1 : Int) < (k : Int) := by omega
              go_wp2
              go_quiet (fail)
              go_wp2
              all_goals
                go_roundw
                case rel => exact ⟨j + 1, by omega, by go_num, d.trans (Drew.mk _ _)⟩
                case measure => simp [intOf] <;> omega
            · by_cases c5 : j < L
              · have c6 : ¬ 1 < k := by omega
                have c7 : (j : Int) < (L : Int) := by omega
                have c8 : ¬ (1 : Int) < (k : Int) := by omega
                clear c4
                go_wp2
                go_quiet (fail)
                go_wp2
                all_goals
                  go_roundw
                  case rel => exact ⟨j + 1, by omega, by go_num, d.trans (Drew.mk _ _)⟩
                  case measure => simp [intOf] <;> omega
              · have c7 : ¬ (j : Int) < (L : Int) := by omega
                clear c4
                go_wp2
                go_quiet (fail)
                go_wp2
                all_goals
                  go_roundw
                  case rel => exact ⟨j + 1, by omega, by go_num, d.trans (Drew.mk _ _)⟩
                  case measure => simp [intOf] <;> omega
          · obtain rfl : j = k := by omega
            go_wp2
            go_ret
            exact ⟨rfl, Drew.to b3 d⟩
      · clear hc0
        go_wp2_with fail
        refine (split_all a e0 HW.out ha he (by omega) (fun i => by have := HR.out i; omega)).mono ?_
        rintro e w3 ⟨A3, c3, rfl, h3, b3⟩
        rw [HV.out] at h3
        have b3 := hb.trans (b3.mono hb.size)
        have H3 := Lib.hid h3
        clear hb h3 HW HV HF HL HM2
        go_wp2
        go_loopw [11] (fun i wr => ∃ j : Nat, j ≤ k ∧ i = .int .i64 (j : Int) ∧ Drew w3 wr) (fun i _ => k - (intOf i).toNat)
        case atStart => exact ⟨0, by omega, rfl, Drew.refl _⟩
        case round =>
          obtain ⟨j, j0, rfl, d⟩ := hrel
          by_cases c2 : j < k
          · obtain ⟨p3, o3, x, rfl, f3, x1, x2⟩ := HT.out wr A3 c3 (H3.out.drew d) j c2
            have X2 := Lib.hid x2
            clear x2
            have hjk : (j : Int) < (k : Int) := by omega
            have nx : IntKind.i64.wrap (0 - x) = -x := by rw [Int.zero_sub]; exact IntWalk.i64_in _ (by omega)
            have nx' : IntKind.i64.wrap (-x) = -x := IntWalk.i64_in _ (by omega)
            obtain ⟨m, hm⟩ : ∃ m, (if x < -x then -x else x) = m := ⟨_, rfl⟩
            have m1 : m ≤ 2 * M + 1 := by rw [← hm]; split <;> omega
            by_cases c4 : j < L ∧ 1 < k
            · obtain ⟨c5, c6⟩ := c4
              have x3 := X2.out c5 c6
              have m2 : m ≤ M + M2 + 1 := by rw [← hm]; split <;> omega
              have c7 : (j : Int) < (L : Int) := by omega
              have c8 : (1 : Int) < (k : Int) := by omega
              go_wp2
              go_quiet (fail)
              go_wp2
              all_goals
                go_roundw
                case rel => exact ⟨j + 1, by omega, by go_num, d.trans (Drew.mk _ _)⟩
                case measure => simp [intOf] <;> omega
            · by_cases c5 : j < L
              · have c6 : ¬ 1 < k := by omega
                have c7 : (j : Int) < (L : Int) := by omega
                have c8 : ¬ (1 : Int) < (k : Int) := by omega
                clear c4
                go_wp2
                go_quiet (fail)
                go_wp2
                all_goals
                  go_roundw
                  case rel => exact ⟨j + 1, by omega, by go_num, d.trans (Drew.mk _ _)⟩
                  case measure => simp [intOf] <;> omega
              · have c7 : ¬ (j : Int) < (L : Int) := by omega
                clear c4
                go_wp2
                go_quiet (fail)
                go_wp2
                all_goals
                  go_roundw
                  case rel => exact ⟨j + 1, by omega, by go_num, d.trans (Drew.mk _ _)⟩
                  case measure => simp [intOf] <;> omega
          · obtain rfl : j = k := by omega
            go_wp2
            go_ret
            exact ⟨rfl, Drew.to b3 d⟩
end Go.Proofs.Ytbhkmckeplcdfaa
