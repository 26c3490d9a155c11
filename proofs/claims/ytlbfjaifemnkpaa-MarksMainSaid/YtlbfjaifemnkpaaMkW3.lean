/- marks: slices.Repeat of few elements. -/
import Derived.Test.YtlbfjaifemnkpaaMkW2
import Derived.Laws.CopyRow
import Derived.Laws.IdiomCopy
import Derived.Deep.LoopGhost
set_option linter.unusedVariables false
set_option linter.unusedSimpArgs false
namespace Go.Proofs.Ytlbfjaifemnkpaa
open Go.RowKit Go.Shelf
def cpySem (ts : Array TypeId) (ty : TypeId) (args : Array Value) : Sem Value := Builtin.copy_ ts ty args
theorem cpySem_eq {ts : Array TypeId} {ty : TypeId} {args : Array Value} : Builtin.copy_ ts ty args = cpySem ts ty args := rfl
attribute [local go_sem ↓] cpySem_eq
set_option maxRecDepth 100000
set_option maxHeartbeats 8000000 in
theorem mul_small (x y : Nat) (hx : x ≤ 3) (hy : y ≤ 6) (w : World) : Calls Try.prog 73 #[.int .u64 (x : Int), .int .u64 (y : Int)] w fun e w' => e = .returned (.tuple #[.int .u64 0, .int .u64 ((x * y : Nat) : Int)]) ∧ w' = w := by
  have key : Calls Try.prog 82 #[.int .u64 (x : Int), .int .u64 (y : Int)] w fun e w' => e = .returned (.tuple #[.int .u64 0, .int .u64 ((x * y : Nat) : Int)]) ∧ w' = w := by
    rcases (by omega : x = 0 ∨ x = 1 ∨ x = 2 ∨ x = 3) with rfl | rfl | rfl | rfl <;> rcases (by omega : y = 0 ∨ y = 1 ∨ y = 2 ∨ y = 3 ∨ y = 4 ∨ y = 5 ∨ y = 6) with rfl | rfl | rfl | rfl | rfl | rfl | rfl <;> (go_enter Try.func82, Try.ntmps82; go_wp2; go_ret2; exact ⟨rfl, rfl⟩)
  go_enter Try.func73, Try.ntmps73
  go_wp2_with fail
  refine key.mono ?_
  rintro e w' ⟨rfl, rfl⟩
  go_wp2
  go_ret2
  exact ⟨rfl, rfl⟩
def repC (z : Value) (pat : Nat → Value) (K n : Nat) : List Value := (List.range K).map fun i => if i < n then pat i else z
theorem repC_len (z : Value) (pat : Nat → Value) (K n : Nat) : (repC z pat K n).length = K := by simp [repC]
theorem repC_get {z : Value} {pat : Nat → Value} {K n i : Nat} (h : i < K) : (repC z pat K n)[i]? = some (if i < n then pat i else z) := by simp [repC, List.getElem?_range h]
theorem rep_step (z : Value) (pat : Nat → Value) (K n d : Nat) (hd : n + d ≤ K) (hp : ∀ j, j < d → pat (n + j) = pat j) : (repC z pat K n).take n ++ (List.range d).map pat ++ (repC z pat K n).drop (n + d) = repC z pat K (n + d) := by
  apply List.ext_getElem?
  intro i
  have l1 : ((repC z pat K n).take n).length = n := by rw [List.length_take, repC_len]; omega
  have l2 : ((List.range d).map pat).length = d := by simp
  by_cases h1 : i < n
  · rw [List.append_assoc, List.getElem?_append_left (by rw [l1]; exact h1), List.getElem?_take_of_lt h1, repC_get (by omega), repC_get (by omega), if_pos h1, if_pos (by omega)]
  · rw [List.append_assoc, List.getElem?_append_right (by rw [l1]; omega), l1]
    by_cases h2 : i < n + d
    · rw [List.getElem?_append_left (by rw [l2]; omega), List.getElem?_map, List.getElem?_range (by omega), repC_get (by omega), if_pos h2]
      have := hp (i - n) (by omega)
      rw [show n + (i - n) = i by omega] at this
      rw [this]
      rfl
    · rw [List.getElem?_append_right (by rw [l2]; omega), l2, List.getElem?_drop, show n + d + (i - n - d) = i by omega]
      by_cases h3 : i < K
      · rw [repC_get h3, repC_get h3, if_neg h1, if_neg h2]
      · rw [List.getElem?_eq_none (by rw [repC_len]; omega), List.getElem?_eq_none (by rw [repC_len]; omega)]
theorem u64_of (x : Int) (h : 0 ≤ x ∧ x ≤ 100) : IntKind.u64.wrap x = x := IntWalk.u64_in _ (by omega)
theorem hmk8 (u : World) (q : Nat) (hq : q ≤ 5000) : (Instr.makeSlice 25 (.int .i64 (q : Int)) (.int .i64 (q : Int))).run Try.prog u = .ok (.slice (some ⟨u.heap.size, 0, none⟩) q q) (u.alloc (.cells (repC (.int .u8 0) (fun _ => .int .u8 0) q 0).toArray 5)) := by
  obtain ⟨i, hi, hzz⟩ := Option.map_eq_some_iff.1 Try.info5
  simp only [Prod.mk.injEq] at hzz
  obtain ⟨hz, hs, hb⟩ := hzz
  have hr := run_make (P := Try.prog) u 25 5 i (.int .u8 0) (by kernel_rfl) hi hz .i64 .i64 q q (by omega) (Int.le_refl _) (by rw [hb]; omega) (by omega)
  simp only [Int.toNat_natCast, hs, Nat.mul_one] at hr
  rw [hr]
  have e : ∀ n, madeCells #[.int .u8 0] n = (repC (.int .u8 0) (fun _ => .int .u8 0) n 0).toArray := fun n => by
    unfold madeCells repC
    apply Array.ext
    · simp
    · intro j h1 h2
      simp [Nat.mod_one]
  rw [show (.int .u8 0 : Value).cells = #[.int .u8 0] from rfl, e]
/-- What a repetition has at a place. -/
def pat_u8 (L : List Int) (i : Nat) : Value := .int .u8 (L.getD (i % L.length) 0)
set_option maxHeartbeats 8000000 in
theorem repeat_u8 (m k c : Nat) (A : Option Addr) (L : List Int) (w : World) (hl : L.length = m) (hm : 1 ≤ m ∧ m ≤ 3) (hk : k ≤ 6) (hL : Lst w w.heap.size A (L.map (Value.int .u8))) :
    Calls Try.prog 52 #[.slice A m c, .int .i64 (k : Int)] w fun e w' => ∃ g, e = .returned (.slice (some ⟨g, 0, none⟩) (m * k) (m * k)) ∧ w'.heap[g]? = some (.cells (repC (.int .u8 0) (pat_u8 L) (m * k) (m * k)).toArray 5 (0, 0)) ∧ w.heap.size ≤ g ∧ Below w.heap.size w w' := by
  obtain ⟨K, hK⟩ : ∃ K, m * k = K := ⟨_, rfl⟩
  have hK18 : K ≤ 18 := by rw [← hK]; exact Nat.mul_le_mul hm.2 hk
  have hKm : K % m = 0 := by rw [← hK]; exact Nat.mul_mod_right m k
  have hK0 : K = 0 ∨ m ≤ K := by
    rcases Nat.eq_zero_or_pos k with h | h
    · left; rw [← hK, h, Nat.mul_zero]
    · right; rw [← hK]; exact Nat.le_mul_of_pos_right m h
  have MU : Hid (∀ u, Calls Try.prog 73 #[.int .u64 (m : Int), .int .u64 (k : Int)] u fun e w' => e = .returned (.tuple #[.int .u64 0, .int .u64 (K : Int)]) ∧ w' = u) := Lib.hid fun u => by
    have := mul_small m k hm.2 hk u
    rw [hK] at this
    exact this
  rw [hK]
  obtain ⟨b, o, rfl, hb0⟩ : ∃ b o, A = some ⟨b, o, none⟩ ∧ b < w.heap.size := by
    obtain ⟨b, o, h1, h2, _⟩ := hL 0 (Value.int .u8 (L.getD 0 0)) (by rw [List.getElem?_map, List.getElem?_eq_getElem (by omega)]; simp [List.getD, List.getElem?_eq_getElem (show 0 < L.length by omega)])
    exact ⟨b, o, h1, h2⟩
  have hadd := hL.add rfl
  have HL := Lib.hid (And.intro hl (And.intro hadd hb0))
  have HK := Lib.hid (And.intro hKm hK0)
  clear hL hl hK hKm hK0 hadd hb0
  obtain ⟨g, hg⟩ : ∃ g, w.heap.size = g := ⟨_, rfl⟩
  have hmk := hmk8 w K (by omega)
  obtain ⟨w1, hw1⟩ : ∃ w1, w.alloc (.cells (repC (.int .u8 0) (fun _ => .int .u8 0) K 0).toArray 5) = w1 := ⟨_, rfl⟩
  have H1 : Hid (w1.heap[g]? = some (.cells (repC (.int .u8 0) (pat_u8 L) K 0).toArray 5 (0, 0)) ∧ Below w.heap.size w w1 ∧ w.heap.size ≤ g) := Lib.hid ⟨by rw [← hw1, ← hg]; have h := World.alloc_heap_new w (.cells (repC (.int .u8 0) (fun _ => .int .u8 0) K 0).toArray 5); rw [h]; simp [repC], by rw [← hw1]; exact (Below.refl _ _).alloc (Nat.le_refl _) _, by omega⟩
  rw [hw1, hg] at hmk
  have HG := Lib.hid hg
  clear hw1 hg
  have hinf : (Try.prog.info? 5).map (·.size) = some 1 := by
    obtain ⟨i0, hi, hz0, hz1, hz2⟩ := info_parts Try.info5
    rw [hi]; simp [hz1]
  have HI := Lib.hid hinf
  clear hinf
  have hkI : (0 : Int) ≤ (k : Int) ∧ ¬ (k : Int) < 0 := by omega
  have u1 : IntKind.u64.wrap (m : Int) = (m : Int) := u64_of _ (by omega)
  have u2 : IntKind.u64.wrap (k : Int) = (k : Int) := u64_of _ (by omega)
  go_enter Try.func52, Try.ntmps52
  go_wp2_with fail
  refine (MU.out _).mono ?_
  rintro e wx ⟨rfl, hwx⟩
  have hwx := hwx.symm
  subst hwx
  clear u1 u2
  obtain ⟨n0, w2, hr, hw2, hn0, hn1, hn2, hb2⟩ : ∃ n0 w2, (cpySem #[25, 25] 3 #[.slice (some ⟨g, 0, none⟩) K K, .slice (some ⟨b, o, none⟩) m c]).run Try.prog w1 = .ok (.int .i64 ((n0 : Nat) : Int)) w2 ∧ w2.heap[g]? = some (.cells (repC (.int .u8 0) (pat_u8 L) K n0).toArray 5 (0, 0)) ∧ n0 % m = 0 ∧ n0 ≤ K ∧ (0 < K → 0 < n0) ∧ Below w.heap.size w w2 := by
    rcases HK.out.2 with h0 | h0
    · subst h0
      refine ⟨0, w1, ?_, H1.out.1, by simp, by omega, by omega, H1.out.2.1⟩
      exact run_copy_none (P := Try.prog) w1 25 25 3 5 (some ⟨g, 0, none⟩) (some ⟨b, o, none⟩) 0 0 m c Try.underlying25 HI.out (Nat.min_zero _)
    · refine ⟨m, w1.setRow g (repC (.int .u8 0) (pat_u8 L) K m).toArray, ?_, setRow_heap _ _ _ _ _ _ H1.out.1, Nat.mod_self m, h0, by omega, below_setRow H1.out.2.1 H1.out.2.2 _⟩
      have hr := run_copy_row (P := Try.prog) w1 25 25 3 5 g 0 K K ⟨b, o, none⟩ m c _ _ (L.map (Value.int .u8)) Try.underlying25 HI.out H1.out.1 (by rw [List.length_map, HL.out.1]; exact (Nat.min_eq_left h0).symm) (fun j v hv => by
        rw [← HL.out.2.1 j v hv]
        exact H1.out.2.1.cell (by unfold Addr.add; split <;> exact HL.out.2.2)) (by rw [List.length_map, HL.out.1]; simp [repC_len]; exact h0) (ints_oneCell .u8 L)
      rw [List.length_map, HL.out.1] at hr
      have e := rep_step (.int .u8 0) (pat_u8 L) K 0 m (by omega) (fun j _ => by rw [Nat.zero_add])
      have e2 : (List.range m).map (pat_u8 L) = L.map (Value.int .u8) := by
        apply List.ext_getElem?
        intro j
        by_cases hj : j < m
        · rw [List.getElem?_map, List.getElem?_range hj, List.getElem?_map, List.getElem?_eq_getElem (show j < L.length by rw [HL.out.1]; exact hj)]
          simp [pat_u8, HL.out.1, Nat.mod_eq_of_lt hj, List.getD, List.getElem?_eq_getElem (show j < L.length by rw [HL.out.1]; exact hj)]
        · rw [List.getElem?_eq_none (by simp; omega), List.getElem?_eq_none (by simp; rw [HL.out.1]; omega)]
      rw [e2] at e
      rw [Nat.zero_add] at e hr
      simp only [List.toList_toArray] at hr
      rw [e] at hr
      exact hr
  have H2 := Lib.hid (And.intro hw2 (And.intro hn0 (And.intro hn1 (And.intro hn2 hb2))))
  clear hw2 hn0 hn1 hn2 hb2
  go_wp2_with fail
  clear hr hmk
  go_loopg [8] (K - n0) (fun gh v wr => ∃ n : Nat, n + gh = K ∧ v = .int .i64 (n : Int) ∧ Hid (wr.heap[g]? = some (.cells (repC (.int .u8 0) (pat_u8 L) K n).toArray 5 (0, 0)) ∧ n % m = 0 ∧ (0 < K → 0 < n) ∧ Below w.heap.size w wr))
  case atStart => exact ⟨n0, by have := H2.out.2.2.1; omega, rfl, Lib.hid ⟨H2.out.1, H2.out.2.1, H2.out.2.2.2⟩⟩
  case round =>
    obtain ⟨n, hng, rfl, HN⟩ := hrel
    obtain ⟨wa, hwa⟩ : ∃ wa, wa = wr := ⟨wr, rfl⟩
    subst hwa
    by_cases hn : n < K
    · have hn0 : 0 < n := HN.out.2.2.1 (by omega)
      obtain ⟨d, hd⟩ : ∃ d, Nat.min n (K - n) = d := ⟨_, rfl⟩
      have hdb : 1 ≤ d ∧ n + d ≤ K ∧ d ≤ n := by
        have h1 : d ≤ n := by rw [← hd]; exact Nat.min_le_left n (K - n)
        have h2 : d ≤ K - n := by rw [← hd]; exact Nat.min_le_right n (K - n)
        have h3 : 1 ≤ d := by rw [← hd]; exact Nat.le_min.2 ⟨hn0, by omega⟩
        exact ⟨h3, by omega, h1⟩
      have hdm : (n + d) % m = 0 := by
        rcases Nat.le_total n (K - n) with h | h
        · have e : d = n := by rw [← hd]; exact Nat.min_eq_left h
          rw [e, Nat.add_mod, HN.out.2.1]; simp
        · have e : d = K - n := by rw [← hd]; exact Nat.min_eq_right h
          rw [e, Nat.add_sub_cancel' (by omega)]; exact HK.out.1
      have hpt : ∀ j, j < d → pat_u8 L (n + j) = pat_u8 L j := fun j _ => by unfold pat_u8; rw [HL.out.1, show (n + j) % m = j % m from by rw [Nat.add_mod, HN.out.2.1, Nat.zero_add, Nat.mod_mod]]
      have HD := Lib.hid (And.intro hd (And.intro hdm hpt))
      have hnI : (n : Int) < (K : Int) ∧ (0 : Int) ≤ (n : Int) ∧ (n : Int) ≤ (K : Int) := by omega
      clear hd hdm hpt
      obtain ⟨wb, hwb⟩ : ∃ wb, wa.drew = wb := ⟨_, rfl⟩
      have HB : Hid (wb.heap[g]? = some (.cells (repC (.int .u8 0) (pat_u8 L) K n).toArray 5 (0, 0)) ∧ Below w.heap.size w wb) := Lib.hid ⟨by rw [← hwb]; exact HN.out.1, by rw [← hwb]; exact HN.out.2.2.2.drew⟩
      obtain ⟨w3, hr2, hw3⟩ : ∃ w3, (cpySem #[25, 25] 3 #[.slice (some ⟨g, n, none⟩) (K - n) (K - n), .slice (some ⟨g, 0, none⟩) n K]).run Try.prog wb = .ok (.int .i64 ((d : Nat) : Int)) w3 ∧ w3.heap[g]? = some (.cells (repC (.int .u8 0) (pat_u8 L) K (n + d)).toArray 5 (0, 0)) ∧ Below w.heap.size w w3 := by
        refine ⟨wb.setRow g (repC (.int .u8 0) (pat_u8 L) K (n + d)).toArray, ?_, setRow_heap _ _ _ _ _ _ HB.out.1, below_setRow HB.out.2 H1.out.2.2 _⟩
        have l0 : ((List.range d).map (pat_u8 L)).length = d := by simp
        have hr := run_copy_row (P := Try.prog) wb 25 25 3 5 g n (K - n) (K - n) ⟨g, 0, none⟩ n K _ _ ((List.range d).map (pat_u8 L)) Try.underlying25 HI.out HB.out.1 (by rw [l0]; exact HD.out.1.symm) (fun j v hv => by
          have hj : j < d := by
            rcases Nat.lt_or_ge j d with h | h
            · exact h
            · rw [List.getElem?_eq_none (by rw [l0]; exact h)] at hv; cases hv
          rw [List.getElem?_map, List.getElem?_range hj, Option.map_some, Option.some.injEq] at hv
          have hc : wb.cell? ⟨g, j, none⟩ = some (pat_u8 L j) := by
            rw [rb_cell HB.out.1 j, List.getElem?_toArray, repC_get (by omega), if_pos (by omega)]
          rw [← hv, ← hc]
          unfold Addr.add
          split
          · next h => subst h; rfl
          · rw [Nat.zero_add]) (by rw [l0]; simp [repC_len]; exact hdb.2.1) (fun v hv => by
            rw [List.mem_map] at hv
            obtain ⟨j, _, rfl⟩ := hv
            rfl)
        rw [l0] at hr
        simp only [List.toList_toArray] at hr
        rw [rep_step (.int .u8 0) (pat_u8 L) K n d hdb.2.1 HD.out.2.2] at hr
        exact hr
      have H3 := Lib.hid (And.intro hw3 hdb)
      clear hw3
      have HRR := Lib.hid hr2
      clear hr2
      have hsum : IntKind.i64.wrap ((n : Int) + (d : Int)) = ((n + d : Nat) : Int) := by rw [IntWalk.i64_in _ (by omega)]; omega
      have HS := Lib.hid hsum
      have hnz : ¬ n = 0 := by omega
      have hkn : ¬ K = n := by omega
      have hnK : n ≤ K := by omega
      clear hsum hdb
      go_upto_region 9 with fail
      obtain ⟨VL, hVL⟩ : ∃ VL : Unit → List (Nat × Nat × Value), VL = fun z => [(0, 38, .int .i64 (n : Int)), (1, 39, .slice (some ⟨g, 0, none⟩) K K), (2, 40, .int .i64 (n : Int)), (3, 41, .slice (some ⟨g, n, none⟩) (K - n) (K - n)), (4, 42, .slice (some ⟨g, 0, none⟩) K K), (5, 43, .int .i64 (n : Int)), (6, 44, .slice (some ⟨g, 0, none⟩) n K), (7, 45, .int .i64 (d : Int)), (8, 46, .int .i64 ((n + d : Nat) : Int)), (9, 8, .int .i64 ((n + d : Nat) : Int))] := ⟨_, rfl⟩
      have hok : ∀ z, manyOk 48 (VL z) := fun z => by rw [hVL]; exact okB_ok rfl
      have HVL := Lib.hid hVL
      have hvi : ∀ z, ∀ x ∈ VL z, x.1 < 10 := fun z => by rw [hVL]; exact ltB_ok rfl
      have HOK := Lib.hid hok
      have HVI := Lib.hid hvi
      clear hVL hok hvi
      refine (wpIn_wide (n := 9)).1 (regionIn_many (N := 48) (w := _) VL (fun L z w' => (bif L 7 then (Hid (w' = w3)) else w' = wb)) [(7, .slice (some ⟨g, 0, none⟩) K K), (8, .int .i64 (n : Int))] (by kernel_rfl) (by kernel_rfl) rfl (by simp only [List.forall_mem_cons, List.not_mem_nil, false_imp_iff, implies_true, and_true]; exact ⟨rfl, rfl⟩) HVI.out () ?start ?step ?fin)
      case start => exact hwb
      case step =>
        intro gg_ hgN hgF ii_ hii_ L z w' hph hs hu
        have hF7 := hgF (7, .slice (some ⟨g, 0, none⟩) K K) (by simp)
        have hF8 := hgF (8, .int .i64 (n : Int)) (by simp)
        have hL := hu.1
        have hii_ : ii_ < 10 := hii_
        clear hgF
        obtain rfl | rfl | rfl | rfl | rfl | rfl | rfl | rfl | rfl | rfl := (by omega : ii_ = 0 ∨ ii_ = 1 ∨ ii_ = 2 ∨ ii_ = 3 ∨ ii_ = 4 ∨ ii_ = 5 ∨ ii_ = 6 ∨ ii_ = 7 ∨ ii_ = 8 ∨ ii_ = 9)
        · skip
          have n9 : L 9 = false := not_yet hL fun h => shut_at hs 9 0 (by kernel_rfl) (h)
          try simp only [n9, hL, cond_true, cond_false] at hph
          have e8 : (many gg_ L (VL z))[8]?.getD undef = .int .i64 (n : Int) := many_out3' hgN (HOK.out z) (by rw [HVL.out]; rfl) (by assumption) hF8
          refine opIn_run (v := .int .i64 (n : Int)) (w' := w') rfl rfl (fun c h => by cases h) (fun _ => trivial) ?_ ⟨z, by exact many_put3 (HOK.out _) (by rw [HVL.out]; rfl) hL, by simp only [upd, n9, hL, Nat.reduceBEq, cond_true, cond_false]; exact hph⟩
          go_simp
        · skip
          have n7 : L 7 = false := not_yet hL fun h => shut_at hs 3 1 (by kernel_rfl) (shut_at hs 7 3 (by kernel_rfl) (h))
          have n9 : L 9 = false := not_yet hL fun h => shut_at hs 9 1 (by kernel_rfl) (h)
          try simp only [n7, n9, hL, cond_true, cond_false] at hph
          have e7 : (many gg_ L (VL z))[7]?.getD undef = .slice (some ⟨g, 0, none⟩) K K := many_out3 hgN (HOK.out z) (by rw [HVL.out]; rfl) hF7
          refine opIn_run (v := .slice (some ⟨g, 0, none⟩) K K) (w' := w') rfl rfl (fun c h => by cases h) (fun _ => trivial) ?_ ⟨z, by exact many_put3 (HOK.out _) (by rw [HVL.out]; rfl) hL, by simp only [upd, n7, n9, hL, Nat.reduceBEq, cond_true, cond_false]; exact hph⟩
          go_simp
        · skip
          have n7 : L 7 = false := not_yet hL fun h => shut_at hs 3 2 (by kernel_rfl) (shut_at hs 7 3 (by kernel_rfl) (h))
          have n9 : L 9 = false := not_yet hL fun h => shut_at hs 9 2 (by kernel_rfl) (h)
          try simp only [n7, n9, hL, cond_true, cond_false] at hph
          have e8 : (many gg_ L (VL z))[8]?.getD undef = .int .i64 (n : Int) := many_out3' hgN (HOK.out z) (by rw [HVL.out]; rfl) (by assumption) hF8
          refine opIn_run (v := .int .i64 (n : Int)) (w' := w') rfl rfl (fun c h => by cases h) (fun _ => trivial) ?_ ⟨z, by exact many_put3 (HOK.out _) (by rw [HVL.out]; rfl) hL, by simp only [upd, n7, n9, hL, Nat.reduceBEq, cond_true, cond_false]; exact hph⟩
          go_simp
        · skip
          have y1 : L 1 = true := up_at hu 1 (by kernel_rfl)
          have y2 : L 2 = true := up_at hu 2 (by kernel_rfl)
          have n7 : L 7 = false := not_yet hL fun h => shut_at hs 7 3 (by kernel_rfl) (h)
          have n9 : L 9 = false := not_yet hL fun h => shut_at hs 9 3 (by kernel_rfl) (h)
          try simp only [y1, y2, n7, n9, hL, cond_true, cond_false] at hph
          have e39 : (many gg_ L (VL z))[39]?.getD undef = .slice (some ⟨g, 0, none⟩) K K := many_eval3 hgN (HOK.out z) (by rw [HVL.out]; rfl) y1
          have e40 : (many gg_ L (VL z))[40]?.getD undef = .int .i64 (n : Int) := many_eval3 hgN (HOK.out z) (by rw [HVL.out]; rfl) y2
          refine opIn_run (v := .slice (some ⟨g, n, none⟩) (K - n) (K - n)) (w' := w') rfl rfl (fun c h => by cases h) (fun _ => trivial) ?_ ⟨z, by exact many_put3 (HOK.out _) (by rw [HVL.out]; rfl) hL, by simp only [upd, y1, y2, n7, n9, hL, Nat.reduceBEq, cond_true, cond_false]; exact hph⟩
          go_simp
        · skip
          have n7 : L 7 = false := not_yet hL fun h => shut_at hs 6 4 (by kernel_rfl) (shut_at hs 7 6 (by kernel_rfl) (h))
          have n9 : L 9 = false := not_yet hL fun h => shut_at hs 9 4 (by kernel_rfl) (h)
          try simp only [n7, n9, hL, cond_true, cond_false] at hph
          have e7 : (many gg_ L (VL z))[7]?.getD undef = .slice (some ⟨g, 0, none⟩) K K := many_out3 hgN (HOK.out z) (by rw [HVL.out]; rfl) hF7
          refine opIn_run (v := .slice (some ⟨g, 0, none⟩) K K) (w' := w') rfl rfl (fun c h => by cases h) (fun _ => trivial) ?_ ⟨z, by exact many_put3 (HOK.out _) (by rw [HVL.out]; rfl) hL, by simp only [upd, n7, n9, hL, Nat.reduceBEq, cond_true, cond_false]; exact hph⟩
          go_simp
        · skip
          have n7 : L 7 = false := not_yet hL fun h => shut_at hs 6 5 (by kernel_rfl) (shut_at hs 7 6 (by kernel_rfl) (h))
          have n9 : L 9 = false := not_yet hL fun h => shut_at hs 9 5 (by kernel_rfl) (h)
          try simp only [n7, n9, hL, cond_true, cond_false] at hph
          have e8 : (many gg_ L (VL z))[8]?.getD undef = .int .i64 (n : Int) := many_out3' hgN (HOK.out z) (by rw [HVL.out]; rfl) (by assumption) hF8
          refine opIn_run (v := .int .i64 (n : Int)) (w' := w') rfl rfl (fun c h => by cases h) (fun _ => trivial) ?_ ⟨z, by exact many_put3 (HOK.out _) (by rw [HVL.out]; rfl) hL, by simp only [upd, n7, n9, hL, Nat.reduceBEq, cond_true, cond_false]; exact hph⟩
          go_simp
        · skip
          have y4 : L 4 = true := up_at hu 4 (by kernel_rfl)
          have y5 : L 5 = true := up_at hu 5 (by kernel_rfl)
          have n7 : L 7 = false := not_yet hL fun h => shut_at hs 7 6 (by kernel_rfl) (h)
          have n9 : L 9 = false := not_yet hL fun h => shut_at hs 9 6 (by kernel_rfl) (h)
          try simp only [y4, y5, n7, n9, hL, cond_true, cond_false] at hph
          have e42 : (many gg_ L (VL z))[42]?.getD undef = .slice (some ⟨g, 0, none⟩) K K := many_eval3 hgN (HOK.out z) (by rw [HVL.out]; rfl) y4
          have e43 : (many gg_ L (VL z))[43]?.getD undef = .int .i64 (n : Int) := many_eval3 hgN (HOK.out z) (by rw [HVL.out]; rfl) y5
          refine opIn_run (v := .slice (some ⟨g, 0, none⟩) n K) (w' := w') rfl rfl (fun c h => by cases h) (fun _ => trivial) ?_ ⟨z, by exact many_put3 (HOK.out _) (by rw [HVL.out]; rfl) hL, by simp only [upd, y4, y5, n7, n9, hL, Nat.reduceBEq, cond_true, cond_false]; exact hph⟩
          go_simp
        · skip
          have y3 : L 3 = true := up_at hu 3 (by kernel_rfl)
          have y6 : L 6 = true := up_at hu 6 (by kernel_rfl)
          have n9 : L 9 = false := not_yet hL fun h => shut_at hs 9 7 (by kernel_rfl) (h)
          try simp only [y3, y6, n9, hL, cond_true, cond_false] at hph
          subst hph
          have e41 : (many gg_ L (VL z))[41]?.getD undef = .slice (some ⟨g, n, none⟩) (K - n) (K - n) := many_eval3 hgN (HOK.out z) (by rw [HVL.out]; rfl) y3
          have e44 : (many gg_ L (VL z))[44]?.getD undef = .slice (some ⟨g, 0, none⟩) n K := many_eval3 hgN (HOK.out z) (by rw [HVL.out]; rfl) y6
          refine opIn_run (v := .int .i64 (d : Int)) (w' := w3) rfl rfl (fun c h => by cases h) (fun _ => trivial) ?_ ⟨z, by exact many_put3 (HOK.out _) (by rw [HVL.out]; rfl) hL, by simp only [upd, y3, y6, n9, hL, Nat.reduceBEq, cond_true, cond_false]; exact Lib.hid (by first | trivial | rfl)⟩
          have q2 := HRR.out
          go_simp
        · skip
          have y0 : L 0 = true := up_at hu 0 (by kernel_rfl)
          have y7 : L 7 = true := up_at hu 7 (by kernel_rfl)
          have n9 : L 9 = false := not_yet hL fun h => shut_at hs 9 8 (by kernel_rfl) (h)
          try simp only [y0, y7, n9, hL, cond_true, cond_false] at hph
          have q1 := HS.out
          have e38 : (many gg_ L (VL z))[38]?.getD undef = .int .i64 (n : Int) := many_eval3 hgN (HOK.out z) (by rw [HVL.out]; rfl) y0
          have e45 : (many gg_ L (VL z))[45]?.getD undef = .int .i64 (d : Int) := many_eval3 hgN (HOK.out z) (by rw [HVL.out]; rfl) y7
          refine opIn_run (v := .int .i64 ((n + d : Nat) : Int)) (w' := w') rfl rfl (fun c h => by cases h) (fun _ => trivial) ?_ ⟨z, by exact many_put3 (HOK.out _) (by rw [HVL.out]; rfl) hL, by simp only [upd, y0, y7, n9, hL, Nat.reduceBEq, cond_true, cond_false]; exact hph⟩
          go_simp
        · skip
          have y0 : L 0 = true := up_at hu 0 (by kernel_rfl)
          have y1 : L 1 = true := up_at hu 1 (by kernel_rfl)
          have y2 : L 2 = true := up_at hu 2 (by kernel_rfl)
          have y3 : L 3 = true := up_at hu 3 (by kernel_rfl)
          have y4 : L 4 = true := up_at hu 4 (by kernel_rfl)
          have y5 : L 5 = true := up_at hu 5 (by kernel_rfl)
          have y6 : L 6 = true := up_at hu 6 (by kernel_rfl)
          have y7 : L 7 = true := up_at hu 7 (by kernel_rfl)
          have y8 : L 8 = true := up_at hu 8 (by kernel_rfl)
          try simp only [y0, y1, y2, y3, y4, y5, y6, y7, y8, hL, cond_true, cond_false] at hph
          have e46 : (many gg_ L (VL z))[46]?.getD undef = .int .i64 ((n + d : Nat) : Int) := many_eval3 hgN (HOK.out z) (by rw [HVL.out]; rfl) y8
          refine opIn_run (v := .int .i64 ((n + d : Nat) : Int)) (w' := w') rfl rfl (fun c h => by cases h) (fun _ => trivial) ?_ ⟨z, by exact many_put3 (HOK.out _) (by rw [HVL.out]; rfl) hL, by simp only [upd, y0, y1, y2, y3, y4, y5, y6, y7, y8, hL, Nat.reduceBEq, cond_true, cond_false]; exact hph⟩
          go_simp
      case fin =>
        intro L z w' hall hph
        have l7 := hall 7 (by decide)
        simp only [l7, cond_true] at hph
        clear l7
        rw [HVL.out]
        dsimp only [manyL, List.set_cons_zero, List.set_cons_succ]
        clear hall HVL HOK HVI
        have hph := hph.out
        subst hph
        go_wp2
        go_roundg (K - (n + d))
        · refine ⟨n + d, by have := H3.out.2.2.1; omega, rfl, Lib.hid ⟨H3.out.1.1, HD.out.2.1, fun _ => by omega, H3.out.1.2⟩⟩
        · have := H3.out.2
          omega
    · obtain rfl : n = K := by omega
      have hlc : ¬ (n : Int) < (n : Int) := by omega
      go_wp2
      go_ret
      exact ⟨g, rfl, HN.out.1, H1.out.2.2, HN.out.2.2.2⟩
theorem hmki (u : World) (q : Nat) (hq : q ≤ 5000) : (Instr.makeSlice 22 (.int .i64 (q : Int)) (.int .i64 (q : Int))).run Try.prog u = .ok (.slice (some ⟨u.heap.size, 0, none⟩) q q) (u.alloc (.cells (repC (.int .i64 0) (fun _ => .int .i64 0) q 0).toArray 3)) := by
  obtain ⟨i, hi, hzz⟩ := Option.map_eq_some_iff.1 Try.info3
  simp only [Prod.mk.injEq] at hzz
  obtain ⟨hz, hs, hb⟩ := hzz
  have hr := run_make (P := Try.prog) u 22 3 i (.int .i64 0) (by kernel_rfl) hi hz .i64 .i64 q q (by omega) (Int.le_refl _) (by rw [hb]; omega) (by omega)
  simp only [Int.toNat_natCast, hs, Nat.mul_one] at hr
  rw [hr]
  have e : ∀ n, madeCells #[.int .i64 0] n = (repC (.int .i64 0) (fun _ => .int .i64 0) n 0).toArray := fun n => by
    unfold madeCells repC
    apply Array.ext
    · simp
    · intro j h1 h2
      simp [Nat.mod_one]
  rw [show (.int .i64 0 : Value).cells = #[.int .i64 0] from rfl, e]
/-- What a repetition has at a place. -/
def pat_int (L : List Int) (i : Nat) : Value := .int .i64 (L.getD (i % L.length) 0)
set_option maxHeartbeats 8000000 in
theorem repeat_int (m k c : Nat) (A : Option Addr) (L : List Int) (w : World) (hl : L.length = m) (hm : 1 ≤ m ∧ m ≤ 3) (hk : k ≤ 6) (hL : Lst w w.heap.size A (L.map (Value.int .i64))) :
    Calls Try.prog 53 #[.slice A m c, .int .i64 (k : Int)] w fun e w' => ∃ g, e = .returned (.slice (some ⟨g, 0, none⟩) (m * k) (m * k)) ∧ w'.heap[g]? = some (.cells (repC (.int .i64 0) (pat_int L) (m * k) (m * k)).toArray 3 (0, 0)) ∧ w.heap.size ≤ g ∧ Below w.heap.size w w' := by
  obtain ⟨K, hK⟩ : ∃ K, m * k = K := ⟨_, rfl⟩
  have hK18 : K ≤ 18 := by rw [← hK]; exact Nat.mul_le_mul hm.2 hk
  have hKm : K % m = 0 := by rw [← hK]; exact Nat.mul_mod_right m k
  have hK0 : K = 0 ∨ m ≤ K := by
    rcases Nat.eq_zero_or_pos k with h | h
    · left; rw [← hK, h, Nat.mul_zero]
    · right; rw [← hK]; exact Nat.le_mul_of_pos_right m h
  have MU : Hid (∀ u, Calls Try.prog 73 #[.int .u64 (m : Int), .int .u64 (k : Int)] u fun e w' => e = .returned (.tuple #[.int .u64 0, .int .u64 (K : Int)]) ∧ w' = u) := Lib.hid fun u => by
    have := mul_small m k hm.2 hk u
    rw [hK] at this
    exact this
  rw [hK]
  obtain ⟨b, o, rfl, hb0⟩ : ∃ b o, A = some ⟨b, o, none⟩ ∧ b < w.heap.size := by
    obtain ⟨b, o, h1, h2, _⟩ := hL 0 (Value.int .i64 (L.getD 0 0)) (by rw [List.getElem?_map, List.getElem?_eq_getElem (by omega)]; simp [List.getD, List.getElem?_eq_getElem (show 0 < L.length by omega)])
    exact ⟨b, o, h1, h2⟩
  have hadd := hL.add rfl
  have HL := Lib.hid (And.intro hl (And.intro hadd hb0))
  have HK := Lib.hid (And.intro hKm hK0)
  clear hL hl hK hKm hK0 hadd hb0
  obtain ⟨g, hg⟩ : ∃ g, w.heap.size = g := ⟨_, rfl⟩
  have hmk := hmki w K (by omega)
  obtain ⟨w1, hw1⟩ : ∃ w1, w.alloc (.cells (repC (.int .i64 0) (fun _ => .int .i64 0) K 0).toArray 3) = w1 := ⟨_, rfl⟩
  have H1 : Hid (w1.heap[g]? = some (.cells (repC (.int .i64 0) (pat_int L) K 0).toArray 3 (0, 0)) ∧ Below w.heap.size w w1 ∧ w.heap.size ≤ g) := Lib.hid ⟨by rw [← hw1, ← hg]; have h := World.alloc_heap_new w (.cells (repC (.int .i64 0) (fun _ => .int .i64 0) K 0).toArray 3); rw [h]; simp [repC], by rw [← hw1]; exact (Below.refl _ _).alloc (Nat.le_refl _) _, by omega⟩
  rw [hw1, hg] at hmk
  have HG := Lib.hid hg
  clear hw1 hg
  have hinf : (Try.prog.info? 3).map (·.size) = some 1 := by
    obtain ⟨i0, hi, hz0, hz1, hz2⟩ := info_parts Try.info3
    rw [hi]; simp [hz1]
  have HI := Lib.hid hinf
  clear hinf
  have hkI : (0 : Int) ≤ (k : Int) ∧ ¬ (k : Int) < 0 := by omega
  have u1 : IntKind.u64.wrap (m : Int) = (m : Int) := u64_of _ (by omega)
  have u2 : IntKind.u64.wrap (k : Int) = (k : Int) := u64_of _ (by omega)
  go_enter Try.func53, Try.ntmps53
  go_wp2_with fail
  refine (MU.out _).mono ?_
  rintro e wx ⟨rfl, hwx⟩
  have hwx := hwx.symm
  subst hwx
  clear u1 u2
  obtain ⟨n0, w2, hr, hw2, hn0, hn1, hn2, hb2⟩ : ∃ n0 w2, (cpySem #[22, 22] 3 #[.slice (some ⟨g, 0, none⟩) K K, .slice (some ⟨b, o, none⟩) m c]).run Try.prog w1 = .ok (.int .i64 ((n0 : Nat) : Int)) w2 ∧ w2.heap[g]? = some (.cells (repC (.int .i64 0) (pat_int L) K n0).toArray 3 (0, 0)) ∧ n0 % m = 0 ∧ n0 ≤ K ∧ (0 < K → 0 < n0) ∧ Below w.heap.size w w2 := by
    rcases HK.out.2 with h0 | h0
    · subst h0
      refine ⟨0, w1, ?_, H1.out.1, by simp, by omega, by omega, H1.out.2.1⟩
      exact run_copy_none (P := Try.prog) w1 22 22 3 3 (some ⟨g, 0, none⟩) (some ⟨b, o, none⟩) 0 0 m c Try.underlying22 HI.out (Nat.min_zero _)
    · refine ⟨m, w1.setRow g (repC (.int .i64 0) (pat_int L) K m).toArray, ?_, setRow_heap _ _ _ _ _ _ H1.out.1, Nat.mod_self m, h0, by omega, below_setRow H1.out.2.1 H1.out.2.2 _⟩
      have hr := run_copy_row (P := Try.prog) w1 22 22 3 3 g 0 K K ⟨b, o, none⟩ m c _ _ (L.map (Value.int .i64)) Try.underlying22 HI.out H1.out.1 (by rw [List.length_map, HL.out.1]; exact (Nat.min_eq_left h0).symm) (fun j v hv => by
        rw [← HL.out.2.1 j v hv]
        exact H1.out.2.1.cell (by unfold Addr.add; split <;> exact HL.out.2.2)) (by rw [List.length_map, HL.out.1]; simp [repC_len]; exact h0) (ints_oneCell .i64 L)
      rw [List.length_map, HL.out.1] at hr
      have e := rep_step (.int .i64 0) (pat_int L) K 0 m (by omega) (fun j _ => by rw [Nat.zero_add])
      have e2 : (List.range m).map (pat_int L) = L.map (Value.int .i64) := by
        apply List.ext_getElem?
        intro j
        by_cases hj : j < m
        · rw [List.getElem?_map, List.getElem?_range hj, List.getElem?_map, List.getElem?_eq_getElem (show j < L.length by rw [HL.out.1]; exact hj)]
          simp [pat_int, HL.out.1, Nat.mod_eq_of_lt hj, List.getD, List.getElem?_eq_getElem (show j < L.length by rw [HL.out.1]; exact hj)]
        · rw [List.getElem?_eq_none (by simp; omega), List.getElem?_eq_none (by simp; rw [HL.out.1]; omega)]
      rw [e2] at e
      rw [Nat.zero_add] at e hr
      simp only [List.toList_toArray] at hr
      rw [e] at hr
      exact hr
  have H2 := Lib.hid (And.intro hw2 (And.intro hn0 (And.intro hn1 (And.intro hn2 hb2))))
  clear hw2 hn0 hn1 hn2 hb2
  go_wp2_with fail
  clear hr hmk
  go_loopg [8] (K - n0) (fun gh v wr => ∃ n : Nat, n + gh = K ∧ v = .int .i64 (n : Int) ∧ Hid (wr.heap[g]? = some (.cells (repC (.int .i64 0) (pat_int L) K n).toArray 3 (0, 0)) ∧ n % m = 0 ∧ (0 < K → 0 < n) ∧ Below w.heap.size w wr))
  case atStart => exact ⟨n0, by have := H2.out.2.2.1; omega, rfl, Lib.hid ⟨H2.out.1, H2.out.2.1, H2.out.2.2.2⟩⟩
  case round =>
    obtain ⟨n, hng, rfl, HN⟩ := hrel
    obtain ⟨wa, hwa⟩ : ∃ wa, wa = wr := ⟨wr, rfl⟩
    subst hwa
    by_cases hn : n < K
    · have hn0 : 0 < n := HN.out.2.2.1 (by omega)
      obtain ⟨d, hd⟩ : ∃ d, Nat.min n (K - n) = d := ⟨_, rfl⟩
      have hdb : 1 ≤ d ∧ n + d ≤ K ∧ d ≤ n := by
        have h1 : d ≤ n := by rw [← hd]; exact Nat.min_le_left n (K - n)
        have h2 : d ≤ K - n := by rw [← hd]; exact Nat.min_le_right n (K - n)
        have h3 : 1 ≤ d := by rw [← hd]; exact Nat.le_min.2 ⟨hn0, by omega⟩
        exact ⟨h3, by omega, h1⟩
      have hdm : (n + d) % m = 0 := by
        rcases Nat.le_total n (K - n) with h | h
        · have e : d = n := by rw [← hd]; exact Nat.min_eq_left h
          rw [e, Nat.add_mod, HN.out.2.1]; simp
        · have e : d = K - n := by rw [← hd]; exact Nat.min_eq_right h
          rw [e, Nat.add_sub_cancel' (by omega)]; exact HK.out.1
      have hpt : ∀ j, j < d → pat_int L (n + j) = pat_int L j := fun j _ => by unfold pat_int; rw [HL.out.1, show (n + j) % m = j % m from by rw [Nat.add_mod, HN.out.2.1, Nat.zero_add, Nat.mod_mod]]
      have HD := Lib.hid (And.intro hd (And.intro hdm hpt))
      have hnI : (n : Int) < (K : Int) ∧ (0 : Int) ≤ (n : Int) ∧ (n : Int) ≤ (K : Int) := by omega
      clear hd hdm hpt
      obtain ⟨wb, hwb⟩ : ∃ wb, wa.drew = wb := ⟨_, rfl⟩
      have HB : Hid (wb.heap[g]? = some (.cells (repC (.int .i64 0) (pat_int L) K n).toArray 3 (0, 0)) ∧ Below w.heap.size w wb) := Lib.hid ⟨by rw [← hwb]; exact HN.out.1, by rw [← hwb]; exact HN.out.2.2.2.drew⟩
      obtain ⟨w3, hr2, hw3⟩ : ∃ w3, (cpySem #[22, 22] 3 #[.slice (some ⟨g, n, none⟩) (K - n) (K - n), .slice (some ⟨g, 0, none⟩) n K]).run Try.prog wb = .ok (.int .i64 ((d : Nat) : Int)) w3 ∧ w3.heap[g]? = some (.cells (repC (.int .i64 0) (pat_int L) K (n + d)).toArray 3 (0, 0)) ∧ Below w.heap.size w w3 := by
        refine ⟨wb.setRow g (repC (.int .i64 0) (pat_int L) K (n + d)).toArray, ?_, setRow_heap _ _ _ _ _ _ HB.out.1, below_setRow HB.out.2 H1.out.2.2 _⟩
        have l0 : ((List.range d).map (pat_int L)).length = d := by simp
        have hr := run_copy_row (P := Try.prog) wb 22 22 3 3 g n (K - n) (K - n) ⟨g, 0, none⟩ n K _ _ ((List.range d).map (pat_int L)) Try.underlying22 HI.out HB.out.1 (by rw [l0]; exact HD.out.1.symm) (fun j v hv => by
          have hj : j < d := by
            rcases Nat.lt_or_ge j d with h | h
            · exact h
            · rw [List.getElem?_eq_none (by rw [l0]; exact h)] at hv; cases hv
          rw [List.getElem?_map, List.getElem?_range hj, Option.map_some, Option.some.injEq] at hv
          have hc : wb.cell? ⟨g, j, none⟩ = some (pat_int L j) := by
            rw [rb_cell HB.out.1 j, List.getElem?_toArray, repC_get (by omega), if_pos (by omega)]
          rw [← hv, ← hc]
          unfold Addr.add
          split
          · next h => subst h; rfl
          · rw [Nat.zero_add]) (by rw [l0]; simp [repC_len]; exact hdb.2.1) (fun v hv => by
            rw [List.mem_map] at hv
            obtain ⟨j, _, rfl⟩ := hv
            rfl)
        rw [l0] at hr
        simp only [List.toList_toArray] at hr
        rw [rep_step (.int .i64 0) (pat_int L) K n d hdb.2.1 HD.out.2.2] at hr
        exact hr
      have H3 := Lib.hid (And.intro hw3 hdb)
      clear hw3
      have HRR := Lib.hid hr2
      clear hr2
      have hsum : IntKind.i64.wrap ((n : Int) + (d : Int)) = ((n + d : Nat) : Int) := by rw [IntWalk.i64_in _ (by omega)]; omega
      have HS := Lib.hid hsum
      have hnz : ¬ n = 0 := by omega
      have hkn : ¬ K = n := by omega
      have hnK : n ≤ K := by omega
      clear hsum hdb
      go_upto_region 9 with fail
      obtain ⟨VL, hVL⟩ : ∃ VL : Unit → List (Nat × Nat × Value), VL = fun z => [(0, 38, .int .i64 (n : Int)), (1, 39, .slice (some ⟨g, 0, none⟩) K K), (2, 40, .int .i64 (n : Int)), (3, 41, .slice (some ⟨g, n, none⟩) (K - n) (K - n)), (4, 42, .slice (some ⟨g, 0, none⟩) K K), (5, 43, .int .i64 (n : Int)), (6, 44, .slice (some ⟨g, 0, none⟩) n K), (7, 45, .int .i64 (d : Int)), (8, 46, .int .i64 ((n + d : Nat) : Int)), (9, 8, .int .i64 ((n + d : Nat) : Int))] := ⟨_, rfl⟩
      have hok : ∀ z, manyOk 48 (VL z) := fun z => by rw [hVL]; exact okB_ok rfl
      have HVL := Lib.hid hVL
      have hvi : ∀ z, ∀ x ∈ VL z, x.1 < 10 := fun z => by rw [hVL]; exact ltB_ok rfl
      have HOK := Lib.hid hok
      have HVI := Lib.hid hvi
      clear hVL hok hvi
      refine (wpIn_wide (n := 9)).1 (regionIn_many (N := 48) (w := _) VL (fun L z w' => (bif L 7 then (Hid (w' = w3)) else w' = wb)) [(7, .slice (some ⟨g, 0, none⟩) K K), (8, .int .i64 (n : Int))] (by kernel_rfl) (by kernel_rfl) rfl (by simp only [List.forall_mem_cons, List.not_mem_nil, false_imp_iff, implies_true, and_true]; exact ⟨rfl, rfl⟩) HVI.out () ?start ?step ?fin)
      case start => exact hwb
      case step =>
        intro gg_ hgN hgF ii_ hii_ L z w' hph hs hu
        have hF7 := hgF (7, .slice (some ⟨g, 0, none⟩) K K) (by simp)
        have hF8 := hgF (8, .int .i64 (n : Int)) (by simp)
        have hL := hu.1
        have hii_ : ii_ < 10 := hii_
        clear hgF
        obtain rfl | rfl | rfl | rfl | rfl | rfl | rfl | rfl | rfl | rfl := (by omega : ii_ = 0 ∨ ii_ = 1 ∨ ii_ = 2 ∨ ii_ = 3 ∨ ii_ = 4 ∨ ii_ = 5 ∨ ii_ = 6 ∨ ii_ = 7 ∨ ii_ = 8 ∨ ii_ = 9)
        · skip
          have n9 : L 9 = false := not_yet hL fun h => shut_at hs 9 0 (by kernel_rfl) (h)
          try simp only [n9, hL, cond_true, cond_false] at hph
          have e8 : (many gg_ L (VL z))[8]?.getD undef = .int .i64 (n : Int) := many_out3' hgN (HOK.out z) (by rw [HVL.out]; rfl) (by assumption) hF8
          refine opIn_run (v := .int .i64 (n : Int)) (w' := w') rfl rfl (fun c h => by cases h) (fun _ => trivial) ?_ ⟨z, by exact many_put3 (HOK.out _) (by rw [HVL.out]; rfl) hL, by simp only [upd, n9, hL, Nat.reduceBEq, cond_true, cond_false]; exact hph⟩
          go_simp
        · skip
          have n7 : L 7 = false := not_yet hL fun h => shut_at hs 3 1 (by kernel_rfl) (shut_at hs 7 3 (by kernel_rfl) (h))
          have n9 : L 9 = false := not_yet hL fun h => shut_at hs 9 1 (by kernel_rfl) (h)
          try simp only [n7, n9, hL, cond_true, cond_false] at hph
          have e7 : (many gg_ L (VL z))[7]?.getD undef = .slice (some ⟨g, 0, none⟩) K K := many_out3 hgN (HOK.out z) (by rw [HVL.out]; rfl) hF7
          refine opIn_run (v := .slice (some ⟨g, 0, none⟩) K K) (w' := w') rfl rfl (fun c h => by cases h) (fun _ => trivial) ?_ ⟨z, by exact many_put3 (HOK.out _) (by rw [HVL.out]; rfl) hL, by simp only [upd, n7, n9, hL, Nat.reduceBEq, cond_true, cond_false]; exact hph⟩
          go_simp
        · skip
          have n7 : L 7 = false := not_yet hL fun h => shut_at hs 3 2 (by kernel_rfl) (shut_at hs 7 3 (by kernel_rfl) (h))
          have n9 : L 9 = false := not_yet hL fun h => shut_at hs 9 2 (by kernel_rfl) (h)
          try simp only [n7, n9, hL, cond_true, cond_false] at hph
          have e8 : (many gg_ L (VL z))[8]?.getD undef = .int .i64 (n : Int) := many_out3' hgN (HOK.out z) (by rw [HVL.out]; rfl) (by assumption) hF8
          refine opIn_run (v := .int .i64 (n : Int)) (w' := w') rfl rfl (fun c h => by cases h) (fun _ => trivial) ?_ ⟨z, by exact many_put3 (HOK.out _) (by rw [HVL.out]; rfl) hL, by simp only [upd, n7, n9, hL, Nat.reduceBEq, cond_true, cond_false]; exact hph⟩
          go_simp
        · skip
          have y1 : L 1 = true := up_at hu 1 (by kernel_rfl)
          have y2 : L 2 = true := up_at hu 2 (by kernel_rfl)
          have n7 : L 7 = false := not_yet hL fun h => shut_at hs 7 3 (by kernel_rfl) (h)
          have n9 : L 9 = false := not_yet hL fun h => shut_at hs 9 3 (by kernel_rfl) (h)
          try simp only [y1, y2, n7, n9, hL, cond_true, cond_false] at hph
          have e39 : (many gg_ L (VL z))[39]?.getD undef = .slice (some ⟨g, 0, none⟩) K K := many_eval3 hgN (HOK.out z) (by rw [HVL.out]; rfl) y1
          have e40 : (many gg_ L (VL z))[40]?.getD undef = .int .i64 (n : Int) := many_eval3 hgN (HOK.out z) (by rw [HVL.out]; rfl) y2
          refine opIn_run (v := .slice (some ⟨g, n, none⟩) (K - n) (K - n)) (w' := w') rfl rfl (fun c h => by cases h) (fun _ => trivial) ?_ ⟨z, by exact many_put3 (HOK.out _) (by rw [HVL.out]; rfl) hL, by simp only [upd, y1, y2, n7, n9, hL, Nat.reduceBEq, cond_true, cond_false]; exact hph⟩
          go_simp
        · skip
          have n7 : L 7 = false := not_yet hL fun h => shut_at hs 6 4 (by kernel_rfl) (shut_at hs 7 6 (by kernel_rfl) (h))
          have n9 : L 9 = false := not_yet hL fun h => shut_at hs 9 4 (by kernel_rfl) (h)
          try simp only [n7, n9, hL, cond_true, cond_false] at hph
          have e7 : (many gg_ L (VL z))[7]?.getD undef = .slice (some ⟨g, 0, none⟩) K K := many_out3 hgN (HOK.out z) (by rw [HVL.out]; rfl) hF7
          refine opIn_run (v := .slice (some ⟨g, 0, none⟩) K K) (w' := w') rfl rfl (fun c h => by cases h) (fun _ => trivial) ?_ ⟨z, by exact many_put3 (HOK.out _) (by rw [HVL.out]; rfl) hL, by simp only [upd, n7, n9, hL, Nat.reduceBEq, cond_true, cond_false]; exact hph⟩
          go_simp
        · skip
          have n7 : L 7 = false := not_yet hL fun h => shut_at hs 6 5 (by kernel_rfl) (shut_at hs 7 6 (by kernel_rfl) (h))
          have n9 : L 9 = false := not_yet hL fun h => shut_at hs 9 5 (by kernel_rfl) (h)
          try simp only [n7, n9, hL, cond_true, cond_false] at hph
          have e8 : (many gg_ L (VL z))[8]?.getD undef = .int .i64 (n : Int) := many_out3' hgN (HOK.out z) (by rw [HVL.out]; rfl) (by assumption) hF8
          refine opIn_run (v := .int .i64 (n : Int)) (w' := w') rfl rfl (fun c h => by cases h) (fun _ => trivial) ?_ ⟨z, by exact many_put3 (HOK.out _) (by rw [HVL.out]; rfl) hL, by simp only [upd, n7, n9, hL, Nat.reduceBEq, cond_true, cond_false]; exact hph⟩
          go_simp
        · skip
          have y4 : L 4 = true := up_at hu 4 (by kernel_rfl)
          have y5 : L 5 = true := up_at hu 5 (by kernel_rfl)
          have n7 : L 7 = false := not_yet hL fun h => shut_at hs 7 6 (by kernel_rfl) (h)
          have n9 : L 9 = false := not_yet hL fun h => shut_at hs 9 6 (by kernel_rfl) (h)
          try simp only [y4, y5, n7, n9, hL, cond_true, cond_false] at hph
          have e42 : (many gg_ L (VL z))[42]?.getD undef = .slice (some ⟨g, 0, none⟩) K K := many_eval3 hgN (HOK.out z) (by rw [HVL.out]; rfl) y4
          have e43 : (many gg_ L (VL z))[43]?.getD undef = .int .i64 (n : Int) := many_eval3 hgN (HOK.out z) (by rw [HVL.out]; rfl) y5
          refine opIn_run (v := .slice (some ⟨g, 0, none⟩) n K) (w' := w') rfl rfl (fun c h => by cases h) (fun _ => trivial) ?_ ⟨z, by exact many_put3 (HOK.out _) (by rw [HVL.out]; rfl) hL, by simp only [upd, y4, y5, n7, n9, hL, Nat.reduceBEq, cond_true, cond_false]; exact hph⟩
          go_simp
        · skip
          have y3 : L 3 = true := up_at hu 3 (by kernel_rfl)
          have y6 : L 6 = true := up_at hu 6 (by kernel_rfl)
          have n9 : L 9 = false := not_yet hL fun h => shut_at hs 9 7 (by kernel_rfl) (h)
          try simp only [y3, y6, n9, hL, cond_true, cond_false] at hph
          subst hph
          have e41 : (many gg_ L (VL z))[41]?.getD undef = .slice (some ⟨g, n, none⟩) (K - n) (K - n) := many_eval3 hgN (HOK.out z) (by rw [HVL.out]; rfl) y3
          have e44 : (many gg_ L (VL z))[44]?.getD undef = .slice (some ⟨g, 0, none⟩) n K := many_eval3 hgN (HOK.out z) (by rw [HVL.out]; rfl) y6
          refine opIn_run (v := .int .i64 (d : Int)) (w' := w3) rfl rfl (fun c h => by cases h) (fun _ => trivial) ?_ ⟨z, by exact many_put3 (HOK.out _) (by rw [HVL.out]; rfl) hL, by simp only [upd, y3, y6, n9, hL, Nat.reduceBEq, cond_true, cond_false]; exact Lib.hid (by first | trivial | rfl)⟩
          have q2 := HRR.out
          go_simp
        · skip
          have y0 : L 0 = true := up_at hu 0 (by kernel_rfl)
          have y7 : L 7 = true := up_at hu 7 (by kernel_rfl)
          have n9 : L 9 = false := not_yet hL fun h => shut_at hs 9 8 (by kernel_rfl) (h)
          try simp only [y0, y7, n9, hL, cond_true, cond_false] at hph
          have q1 := HS.out
          have e38 : (many gg_ L (VL z))[38]?.getD undef = .int .i64 (n : Int) := many_eval3 hgN (HOK.out z) (by rw [HVL.out]; rfl) y0
          have e45 : (many gg_ L (VL z))[45]?.getD undef = .int .i64 (d : Int) := many_eval3 hgN (HOK.out z) (by rw [HVL.out]; rfl) y7
          refine opIn_run (v := .int .i64 ((n + d : Nat) : Int)) (w' := w') rfl rfl (fun c h => by cases h) (fun _ => trivial) ?_ ⟨z, by exact many_put3 (HOK.out _) (by rw [HVL.out]; rfl) hL, by simp only [upd, y0, y7, n9, hL, Nat.reduceBEq, cond_true, cond_false]; exact hph⟩
          go_simp
        · skip
          have y0 : L 0 = true := up_at hu 0 (by kernel_rfl)
          have y1 : L 1 = true := up_at hu 1 (by kernel_rfl)
          have y2 : L 2 = true := up_at hu 2 (by kernel_rfl)
          have y3 : L 3 = true := up_at hu 3 (by kernel_rfl)
          have y4 : L 4 = true := up_at hu 4 (by kernel_rfl)
          have y5 : L 5 = true := up_at hu 5 (by kernel_rfl)
          have y6 : L 6 = true := up_at hu 6 (by kernel_rfl)
          have y7 : L 7 = true := up_at hu 7 (by kernel_rfl)
          have y8 : L 8 = true := up_at hu 8 (by kernel_rfl)
          try simp only [y0, y1, y2, y3, y4, y5, y6, y7, y8, hL, cond_true, cond_false] at hph
          have e46 : (many gg_ L (VL z))[46]?.getD undef = .int .i64 ((n + d : Nat) : Int) := many_eval3 hgN (HOK.out z) (by rw [HVL.out]; rfl) y8
          refine opIn_run (v := .int .i64 ((n + d : Nat) : Int)) (w' := w') rfl rfl (fun c h => by cases h) (fun _ => trivial) ?_ ⟨z, by exact many_put3 (HOK.out _) (by rw [HVL.out]; rfl) hL, by simp only [upd, y0, y1, y2, y3, y4, y5, y6, y7, y8, hL, Nat.reduceBEq, cond_true, cond_false]; exact hph⟩
          go_simp
      case fin =>
        intro L z w' hall hph
        have l7 := hall 7 (by decide)
        simp only [l7, cond_true] at hph
        clear l7
        rw [HVL.out]
        dsimp only [manyL, List.set_cons_zero, List.set_cons_succ]
        clear hall HVL HOK HVI
        have hph := hph.out
        subst hph
        go_wp2
        go_roundg (K - (n + d))
        · refine ⟨n + d, by have := H3.out.2.2.1; omega, rfl, Lib.hid ⟨H3.out.1.1, HD.out.2.1, fun _ => by omega, H3.out.1.2⟩⟩
        · have := H3.out.2
          omega
    · obtain rfl : n = K := by omega
      have hlc : ¬ (n : Int) < (n : Int) := by omega
      go_wp2
      go_ret
      exact ⟨g, rfl, HN.out.1, H1.out.2.2, HN.out.2.2.2⟩
end Go.Proofs.Ytlbfjaifemnkpaa
