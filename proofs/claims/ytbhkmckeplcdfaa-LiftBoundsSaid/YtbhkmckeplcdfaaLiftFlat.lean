/- LiftFlat, LiftSums, walked. -/
import Derived.Test.YtbhkmckeplcdfaaLiftLaws
set_option linter.unusedVariables false
namespace Go.Proofs.Ytbhkmckeplcdfaa
open Go.RowKit

theorem rowI_of_own {w : World} {lo g n cap : Nat} {l : List Int} (h : w.ownsRow lo 3 1 (.slice (some ⟨g, 0, none⟩) n cap) n (l.map (Value.int .i64))) : RowI w (some ⟨g, 0, none⟩) n cap l := by
  obtain ⟨A', c', hv, hr⟩ := rowI_own h
  injection hv with h1 _ h3
  subst h1 h3
  exact hr
theorem made_row (w : World) (n : Nat) (hn : n ≤ 1000) : (w.alloc (Obj.cells (madeCells #[Value.int IntKind.i64 0] n) 3)).ownsRow w.heap.size 3 1 (.slice (some ⟨w.heap.size, 0, none⟩) n n) n ((ranged (fun _ => 0) n).map (Value.int .i64)) := by
  have h := World.ownsRow_lit (base := w.heap.size) (e := 3) (size := 1) w (madeCells #[Value.int IntKind.i64 0] n) n (Nat.le_refl _) (by unfold maxLen; omega) (by rw [size_madeCells]; omega)
  rw [toList_madeCells_one] at h
  have e : List.replicate n (Value.int .i64 0) = (ranged (fun _ => (0 : Int)) n).map (Value.int .i64) := by
    unfold ranged; rw [List.map_map]
    apply List.ext_getElem?
    intro i
    rw [List.getElem?_map]
    rcases Nat.lt_or_ge i n with hi | hi
    · rw [List.getElem?_replicate_of_lt hi, List.getElem?_range hi]; rfl
    · rw [List.getElem?_eq_none (by simpa using hi), List.getElem?_eq_none (by simpa using hi)]; rfl
  rw [e] at h
  exact h
/-- A row that is being laid, place by place. -/
def laid (f : Nat → Int) (n k : Nat) : List Int := ranged (fun i => if i < k then f i else 0) n
theorem laid_zero (f : Nat → Int) (n : Nat) : laid f n 0 = ranged (fun _ => 0) n := ranged_congr fun i _ => if_neg (by omega)
theorem laid_full (f : Nat → Int) (n : Nat) : laid f n n = ranged f n := ranged_congr fun i hi => if_pos hi
theorem laid_step {w : World} {lo g n cap k : Nat} {f : Nat → Int} (h : w.ownsRow lo 3 1 (.slice (some ⟨g, 0, none⟩) n cap) n ((laid f n k).map (Value.int .i64))) (hk : k < n) :
    (w.setCell ⟨g, k, none⟩ (.int .i64 (f k))).ownsRow lo 3 1 (.slice (some ⟨g, 0, none⟩) n cap) n ((laid f n (k + 1)).map (Value.int .i64)) := by
  have S := (h.stored k (.int .i64 (f k))).1
  rw [← List.map_set] at S
  have e : (laid f n k).set k (f k) = laid f n (k + 1) := by
    unfold laid
    rw [ranged_set _ _ _ _ hk]
    refine ranged_congr fun i hi => ?_
    by_cases e : i = k
    · subst e; rw [if_pos rfl, if_pos (by omega)]
    · rw [if_neg e]
      by_cases c : i < k
      · rw [if_pos c, if_pos (by omega)]
      · rw [if_neg c, if_neg (by omega)]
  rw [e] at S
  exact S
theorem laid_cell {w : World} {lo g n cap k : Nat} {f : Nat → Int} (h : w.ownsRow lo 3 1 (.slice (some ⟨g, 0, none⟩) n cap) n ((laid f n k).map (Value.int .i64))) (hk : k < n) : w.cell? ⟨g, k, none⟩ = some (.int .i64 0) := by
  rw [h.cellAt k (by omega), List.getElem?_map]
  unfold laid
  rw [ranged_get _ _ _ hk, if_neg (by omega)]; rfl
theorem ranged_bd {f : Nat → Int} {n : Nat} {K : Int} (h0 : 0 ≤ K) (h : ∀ i, i < n → -K ≤ f i ∧ f i ≤ K) : ∀ i, -K ≤ (ranged f n).getD i 0 ∧ (ranged f n).getD i 0 ≤ K := fun i => by
  rcases Nat.lt_or_ge i n with hi | hi
  · rw [ranged_getD _ hi]; exact h i hi
  · rw [List.getD_eq_getElem?_getD, List.getElem?_eq_none (by rw [ranged_len]; exact hi)]; simp; omega

/-- The halves of a split row of two samples or more. -/
theorem sp_get {e n i : Nat} {f : Nat → Int} (he : e ≤ 1) (hn : 2 ≤ n) (hi : i < n) :
    (SP e n (ranged f n)).getD i 0 = if i < (n + 1 - e) / 2 then lowF e n f (e + 2 * i) else lowF e n f (1 - e + 2 * (i - (n + 1 - e) / 2)) := by
  unfold SP
  rw [if_neg (by omega)]
  have hc : ∀ j, j < n → lowF e n (fun i => (ranged f n).getD i 0) j = lowF e n f j := fun j hj =>
    pass_congr hn (fun i hi => pass_congr hn (fun i hi => ranged_getD f hi) i hi) j hj
  by_cases h1 : i < (n + 1 - e) / 2
  · rw [if_pos h1, split_low h1, hc _ (by omega)]
  · rw [if_neg h1]
    obtain ⟨j, rfl⟩ : ∃ j, i = (n + 1 - e) / 2 + j := ⟨i - (n + 1 - e) / 2, by omega⟩
    rw [split_high (by omega), hc _ (by omega), show (n + 1 - e) / 2 + j - (n + 1 - e) / 2 = j from by omega]
theorem low_even {e n p : Nat} {f : Nat → Int} (he : e ≤ 1) (hn : 2 ≤ n) (hp : p < n) (hpe : p % 2 = e) :
    lowF e n f p = hU (f p) (hP (f (loI p)) (f (loI (loI p)) + f (hiI n (loI p))) + hP (f (hiI n p)) (f (loI (hiI n p)) + f (hiI n (hiI n p)))) := by
  have h1 := lo_par hn hpe hp
  have h2 := hi_par hn hpe hp
  show (if p % 2 = e then _ else _) = _
  rw [if_pos hpe, show passF hP (1 - e) n f p = f p from if_neg (by omega), show passF hP (1 - e) n f (loI p) = hP (f (loI p)) (f (loI (loI p)) + f (hiI n (loI p))) from if_pos (by omega),
    show passF hP (1 - e) n f (hiI n p) = hP (f (hiI n p)) (f (loI (hiI n p)) + f (hiI n (hiI n p))) from if_pos (by omega)]
theorem low_odd {e n p : Nat} {f : Nat → Int} (he : e ≤ 1) (hpe : p % 2 ≠ e) : lowF e n f p = hP (f p) (f (loI p) + f (hiI n p)) := by
  show (if p % 2 = e then _ else _) = _
  rw [if_neg hpe]
  exact if_pos (by omega)

theorem flat_get {e n i : Nat} {c : Int} (he : e ≤ 1) (hn : 2 ≤ n) (hi : i < n) : (SP e n (ranged (fun _ => c) n)).getD i 0 = if i < (n + 1 - e) / 2 then c else 0 := by
  rw [sp_get he hn hi]
  by_cases h1 : i < (n + 1 - e) / 2
  · rw [if_pos h1, if_pos h1, low_even he hn (by omega) (by omega)]
    unfold hU hP; omega
  · rw [if_neg h1, if_neg h1, low_odd he (by omega)]
    unfold hP; omega

set_option maxHeartbeats 4000000 in
theorem walk_liftFlat (a0 : Int) (a1 : Int) (a2 : Int) (w : World) (w0 : (Lit.int .i64 a0).wf = true) (w1 : (Lit.int .i64 a1).wf = true) (w2 : (Lit.int .i64 a2).wf = true) :
    Calls Try.prog 4 #[.int .i64 a0, .int .i64 a1, .int .i64 a2] w fun e w' => e = .returned (.bool true) ∧ Below w.heap.size w w' := by
  clear w0 w1 w2
  obtain ⟨c, hc⟩ : ∃ c, a2 % 1048576 - 524288 = c := ⟨_, rfl⟩
  have hcb : -524288 ≤ c ∧ c ≤ 524288 := by omega
  have q1 : IntKind.i64.wrap (a2 % 1048576 - 524288) = c := by rw [hc]; exact IntWalk.i64_in _ (by omega)
  go_enter Try.func4, Try.ntmps4
  go_wp2_with fail
  refine (known9 _).mono ?_
  rintro e w1 ⟨rfl, b1⟩
  go_wp2_with fail
  refine (within9 _ _ _ (by omega) (by omega)).mono ?_
  rintro e w' ⟨rfl, rfl⟩
  have ha : 0 ≤ a0 % 1000 := by omega
  generalize a0 % 1000 = a at *
  obtain ⟨e0, he⟩ : ∃ e0 : Nat, a % 2 = e0 := ⟨(a % 2).toNat, by omega⟩
  have he1 : e0 ≤ 1 := by omega
  have ht : a.tmod 2 = (e0 : Int) := by rw [Int.tmod_eq_emod_of_nonneg ha, he]
  go_wp2_with fail
  refine (within9 _ _ _ (by omega) (by omega)).mono ?_
  rintro e w' ⟨rfl, rfl⟩
  obtain ⟨n, hn⟩ : ∃ n : Nat, a1 % 40 = n := ⟨(a1 % 40).toNat, by omega⟩
  have hn40 : n < 40 := by omega
  rw [hn]
  clear hn
  go_wp2_with fail
  refine (within9 _ _ _ (by omega) (by omega)).mono ?_
  rintro e w' ⟨rfl, rfl⟩
  have hmk := fun u => hmkn u n (by omega)
  go_wp2_with fail
  have hB2 : Below w.heap.size w (w1.alloc (Obj.cells (madeCells #[Value.int IntKind.i64 0] n) 3)) := b1.alloc b1.size _
  have hR2 := made_row w1 n (by omega)
  have hs1 : w.heap.size ≤ w1.heap.size := b1.size
  clear hmk q1 hc b1
  generalize (w1.alloc (Obj.cells (madeCells #[Value.int IntKind.i64 0] n) 3)) = w2 at *
  generalize w1.heap.size = g at *
  go_loopw [8] (fun i wr => ∃ k : Nat, k ≤ n ∧ i = .int .i64 (k : Int) ∧ wr.ownsRow g 3 1 (.slice (some ⟨g, 0, none⟩) n n) n ((laid (fun _ => c) n k).map (Value.int .i64)) ∧ Below w.heap.size w wr) (fun i _ => n - (intOf i).toNat)
  case atStart => exact ⟨0, by omega, rfl, by rw [laid_zero]; exact hR2, hB2⟩
  case round =>
    obtain ⟨k, k0, rfl, hown, hb⟩ := hrel
    clear hR2 hB2
    by_cases c1 : k < n
    · have f1 := laid_cell hown c1
      have f2 := hown.frozenAt k
      have HS := Lib.hid (laid_step (f := fun _ => c) hown c1)
      have HB := Lib.hid (hb.setCell (p := ⟨g, k, none⟩) hs1 (.int .i64 c))
      clear hown hb
      go_wp2
      go_roundw
      case rel => exact ⟨k + 1, by omega, by go_num, HS.out, HB.out⟩
      case measure => simp [intOf]; omega
    · obtain rfl : k = n := by omega
      rw [laid_full] at hown
      have hrow := rowI_of_own hown
      clear hown
      go_wp2_with fail
      refine (split_all a e0 hrow ha he (by omega) (ranged_bd (by omega) (fun i _ => by omega))).mono ?_
      rintro e w3 ⟨A3, c3, rfl, h3, b3⟩
      have b3 := hb.trans (b3.mono hb.size)
      clear hb hrow
      by_cases hn1 : k = 1
      · subst hn1
        obtain ⟨p3, o3, rfl, _, f3⟩ := h3.cell (k := 0) (by omega)
        rcases Nat.lt_or_ge e0 1 with h0 | h0
        · obtain rfl : e0 = 0 := by omega
          change w3.cell? ⟨p3, o3, none⟩ = some (.int .i64 c) at f3
          have hbx : (c == c) = true := beq_self_eq_true _
          clear h3
          go_wp2
          go_ret
          exact ⟨rfl, b3⟩
        · obtain rfl : e0 = 1 := by omega
          change w3.cell? ⟨p3, o3, none⟩ = some (.int .i64 (2 * c)) at f3
          have hbx : (2 * c == 2 * c) = true := beq_self_eq_true _
          clear h3
          go_wp2
          go_ret
          exact ⟨rfl, b3⟩
      · have hnb : ((k : Int) == 1) = false := by simp; omega
        obtain ⟨L, hL⟩ : ∃ L, (k + 1 - e0) / 2 = L := ⟨_, rfl⟩
        have hq : ((k : Int) + 1 - (e0 : Int)).tdiv 2 = (L : Int) := by rw [Int.tdiv_eq_ediv_of_nonneg (by omega)]; omega
        have hLk : L ≤ k := by omega
        have H3 := Lib.hid h3
        clear h3
        go_wp2
        go_loopw [11] (fun i wr => ∃ j : Nat, j ≤ k ∧ i = .int .i64 (j : Int) ∧ w3 = wr) (fun i _ => k - (intOf i).toNat)
        case atStart => exact ⟨0, by omega, rfl, rfl⟩
        case round =>
          obtain ⟨j, j0, rfl, rfl⟩ := hrel
          by_cases c2 : j < k
          · obtain ⟨p3, o3, rfl, _, f3⟩ := H3.out.cell c2
            rw [flat_get he1 (by omega) c2, hL] at f3
            by_cases c4 : j < L
            · rw [if_pos c4] at f3
              have hbx : (c == c) = true := beq_self_eq_true _
              have c5 : (j : Int) < (L : Int) := by omega
              go_wp2
              go_roundw
              case rel => exact ⟨j + 1, by omega, by go_num, by simp⟩
              case measure => simp [intOf]; omega
            · rw [if_neg c4] at f3
              have c5 : ¬ (j : Int) < (L : Int) := by omega
              go_wp2
              go_roundw
              case rel => exact ⟨j + 1, by omega, by go_num, by simp⟩
              case measure => simp [intOf]; omega
          · obtain rfl : j = k := by omega
            go_wp2
            go_ret
            exact ⟨rfl, b3⟩
end Go.Proofs.Ytbhkmckeplcdfaa
