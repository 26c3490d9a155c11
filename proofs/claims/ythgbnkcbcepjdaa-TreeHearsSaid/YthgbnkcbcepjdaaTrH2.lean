/- The reference's tree: the way down to a leaf; what is known of it. -/
import Derived.Test.YthgbnkcbcepjdaaTrH1
import Derived.Test.YthgbnkcbcepjdaaTrDc
set_option linter.unusedVariables false
set_option linter.unusedSimpArgs false
namespace Go.Proofs.Ythgbnkcbcepjdaa
open Go.RowKit
attribute [local go_sem ↓] appSem_eq
set_option maxRecDepth 100000
/-- A leaf's node of level i, by its place among all. -/
def wayM (W x y i : Nat) : Nat := y / 2 ^ i * dimF W i + x / 2 ^ i
def wayI (W H x y i : Nat) : Nat := offF W H i + wayM W x y i
def wayL (W H x y : Nat) : Nat → List Int
  | 0 => []
  | j + 1 => (wayI W H x y j : Int) :: wayL W H x y j
theorem wayL_len (W H x y j : Nat) : (wayL W H x y j).length = j := by
  induction j with
  | zero => rfl
  | succ j ih => rw [wayL, List.length_cons, ih]
theorem wayL_get (W H x y : Nat) : ∀ (d i : Nat), i < d → (wayL W H x y d)[i]? = some (wayI W H x y (d - 1 - i) : Int) := by
  intro d
  induction d with
  | zero => intro i h; omega
  | succ d ih =>
    intro i h
    rw [wayL]
    rcases i with _ | i
    · simp
    · rw [List.getElem?_cons_succ, ih i (by omega)]
      congr 3
      omega
theorem wayM_lt {W H x y i : Nat} (hx : x < W) (hy : y < H) : wayM W x y i < cntF W H i := by
  have h1 := dimF_lt W i x hx
  have h2 := dimF_lt H i y hy
  unfold wayM cntF
  have h3 : y / 2 ^ i * dimF W i + dimF W i ≤ dimF W i * dimF H i := by
    rw [← Nat.succ_mul, Nat.mul_comm (dimF W i)]
    exact Nat.mul_le_mul_right _ h2
  omega
theorem way_up {W H d x y i : Nat} (hx : x < W) (hi : i + 1 < d) : upI W H d i (wayM W x y i) = (wayI W H x y (i + 1) : Int) := by
  have h1 := dimF_lt W i x hx
  unfold upI
  rw [if_neg (by omega)]
  unfold wayI wayM
  have hp : 0 < dimF W i := Nat.lt_of_le_of_lt (Nat.zero_le _) h1
  rw [Nat.add_comm (y / 2 ^ i * dimF W i), Nat.add_mul_div_right _ _ hp, Nat.div_eq_of_lt h1, Nat.zero_add, Nat.add_mul_mod_self_right, Nat.mod_eq_of_lt h1, Nat.div_div_eq_div_mul, Nat.div_div_eq_div_mul, ← Nat.pow_succ, Nat.add_assoc]
theorem way_top {W H d x y i : Nat} (hi : i + 1 = d) : upI W H d i (wayM W x y i) = -1 := by
  unfold upI
  rw [if_pos hi]
theorem app_src {w : World} {base n : Nat} {v : Value} {X L : List Int} {S : Option Addr} {m cs : Nat} (hown : w.ownsRow base 3 1 v n (X.map (Value.int .i64))) (hl : L.length = m) (hS : S = none → m = 0 ∧ cs = 0) (hL : Lst w w.heap.size S (L.map (Value.int .i64))) (hb : base ≤ w.heap.size) (hlen : n + m ≤ 100000) :
    ∃ v' w', (appSem #[23, 23] 23 #[v, .slice S m cs]).run Try.prog w = .ok v' w' ∧ w'.ownsRow base 3 1 v' (n + m) ((X ++ L).map (Value.int .i64)) ∧ w.grownBy w' v.ownBlock := by
  have hinfo : (Try.prog.info? 3).map (fun i => (i.zero, i.size, i.bytes)) = some (some (.int .i64 0), 1, 8) := by kernel_rfl
  obtain ⟨i0, hi, hzz⟩ := Option.map_eq_some_iff.1 hinfo
  simp only [Prod.mk.injEq] at hzz
  obtain ⟨hz0, hz1, hz2⟩ := hzz
  cases hSS : S with
  | none =>
    subst hSS
    obtain ⟨rfl, rfl⟩ := hS rfl
    obtain rfl : L = [] := List.eq_nil_of_length_eq_zero hl
    have hrun := run_append_owned_none (P := Try.prog) (w := w) base 23 23 3 i0 1 (by kernel_rfl) hi v n _ hown
    exact ⟨v, w, hrun, by simpa using hown, World.grownBy.refl _ _⟩
  | some a =>
    subst hSS
    obtain ⟨v', w', hr, hown', hg, _, hat⟩ := run_append_own_at (P := Try.prog) w base 23 23 3 i0 (.int .i64 0) 1 8 (by kernel_rfl) hi hz0 hz1 hz2 rfl (by decide) v n _ hown a m cs (L.map (Value.int .i64)) (by rw [List.length_map, hl]; simp)
      (hL.add rfl) (fun u hu => by obtain ⟨x, _, rfl⟩ := List.mem_map.1 hu; rfl) (by unfold maxLen; omega) (by omega) hb
    exact ⟨v', w', hr, by rw [List.map_append]; exact hown', hg⟩
theorem own_new1 (w : World) (x : Int) (base : Nat) (hb : base ≤ w.heap.size) : (w.alloc (Obj.cells #[.int .i64 x] 3)).ownsRow base 3 1 (.slice (some ⟨w.heap.size, 0, none⟩) 1 1) 1 ([x].map (Value.int .i64)) :=
  ⟨rfl, .inr ⟨w.heap.size, 1, _, rfl, hb, World.alloc_heap_new w _, Nat.le_refl _, by unfold maxLen; omega, rfl, rfl⟩⟩
set_option maxHeartbeats 4000000 in
theorem rtway_any {w : World} {q L tot cap W H d k : Nat} {fr : Bool} {T : TT} (h : RTr w q L tot cap W H d fr T) (hW : W ≤ 64 ∧ H ≤ 64) (hd : 1 ≤ d ∧ d ≤ 8) (hk : k < W * H) :
    Calls Try.prog 29 #[.pointer (some ⟨q, 0, none⟩), .int .i64 (k : Int)] w fun e w' => ∃ A c, e = .returned (.slice (some ⟨A, 0, none⟩) d c) ∧ (w.heap.size ≤ A ∧ A < w'.heap.size ∧ d ≤ c) ∧ (∀ i, i < d → w'.cell? ⟨A, i, none⟩ = some (.int .i64 (wayI W H (k % W) (k / W) (d - 1 - i) : Int))) ∧ Below w.heap.size w w' := by
  have hWp : 0 < W := by
    rcases Nat.eq_zero_or_pos W with e | e
    · rw [e, Nat.zero_mul] at hk; omega
    · exact e
  obtain ⟨x, hx⟩ : ∃ x, k % W = x := ⟨_, rfl⟩
  obtain ⟨y, hy⟩ : ∃ y, k / W = y := ⟨_, rfl⟩
  have hxl : x < W := by rw [← hx]; exact Nat.mod_lt _ hWp
  have hyl : y < H := by rw [← hy]; exact Nat.div_lt_of_lt_mul hk
  have hk0 : k = wayI W H x y 0 := by
    unfold wayI wayM
    show k = 0 + (y / 2 ^ 0 * W + x / 2 ^ 0)
    rw [Nat.pow_zero, Nat.div_one, Nat.div_one, ← hx, ← hy, Nat.zero_add, Nat.mul_comm]
    exact (Nat.div_add_mod k W).symm
  rw [hx, hy]
  clear hx hy
  have HT := Lib.hid h
  clear h
  go_enter Try.func29, Try.ntmps29
  go_wp2_with fail
  go_loopg [1, 5] d (fun g v1 v5 wr => ∃ (j : Nat) (V : Value), j + g = d ∧ v1 = .int .i64 (if j < d then (wayI W H x y j : Int) else -1) ∧ v5 = V ∧ wr.ownsRow w.heap.size 3 1 V j ((wayL W H x y j).map (Value.int .i64)) ∧ Below w.heap.size w wr)
  case atStart => exact ⟨0, .slice none 0 0, by omega, by rw [if_pos (by omega), ← hk0], rfl, World.ownsRow_nil _ _ _ _, Below.refl _ _⟩
  case round =>
    obtain ⟨j, V, hjg, rfl, rfl, ho, hb⟩ := hrel
    obtain ⟨A, c, rfl, hA, hc1, hc2⟩ := own_any ho
    have HO := Lib.hid ho
    have HB := Lib.hid hb
    have hbs := hb.size
    clear ho hb
    by_cases hj : j < d
    · rw [if_pos hj]
      obtain ⟨g1, rfl⟩ : ∃ g1, gk = g1 + 1 := ⟨gk - 1, by omega⟩
      obtain ⟨t, ht⟩ : ∃ t : Nat, wayI W H x y j = t := ⟨_, rfl⟩
      have hml := wayM_lt (i := j) hxl hyl
      have hRT := HT.out.below HB.out
      obtain ⟨c0, c1, c2, c3, cf, clt⟩ := hRT.cells hj hml
      obtain ⟨r0, r1⟩ := hRT.root
      have htt : offF W H j + wayM W (x) y j = t := ht
      rw [htt] at c3 clt
      have hA1 := app_src (w := wr.alloc (Obj.cells #[.int .i64 (t : Int)] 3)) (S := A) (m := j) (cs := c) (own_new1 wr (t : Int) w.heap.size hbs) (wayL_len W H x y j) hA (Lst.own (HO.out.alloc _)) (by simp; omega) (by omega)
      obtain ⟨v', w', hr, ho', hg⟩ := hA1
      have HO2 : Hid (w'.ownsRow w.heap.size 3 1 v' (j + 1) ((wayL W H x y (j + 1)).map (Value.int .i64))) := Lib.hid (by
        rw [wayL, ht, Nat.add_comm j 1]
        exact ho')
      have hBB : Below w.heap.size w w' := (HB.out.alloc hbs (Obj.cells #[.int .i64 (t : Int)] 3)).grown hg (by simp; omega) (fun kk e => by
        simp [Value.ownBlock] at e
        omega)
      have HB2 := Lib.hid hBB
      have hRT2 := HT.out.below hBB
      obtain ⟨e0, e1, e2, e3, ef, elt⟩ := hRT2.cells hj hml
      rw [htt] at e3
      obtain ⟨s0, s1⟩ := hRT2.root
      have htb : (0 : Int) ≤ (t : Int) ∧ (t : Int) < (tot : Int) := by omega
      have hnx : upI W H d j (wayM W x y j) = if j + 1 < d then (wayI W H x y (j + 1) : Int) else -1 := by
        rcases Nat.lt_or_ge (j + 1) d with e | e
        · rw [if_pos e]; exact way_up hxl e
        · rw [if_neg (by omega)]; exact way_top (by omega)
      rw [hnx] at e3
      rw [ht]
      obtain ⟨U, hU⟩ : ∃ U : Int, (if j + 1 < d then (wayI W H x y (j + 1) : Int) else -1) = U := ⟨_, rfl⟩
      rw [hU] at e3
      have HU := Lib.hid hU
      clear hg ho' hBB hRT hRT2 hU hnx ht htt c0 c1 c2 c3 cf e0 e1 e2 ef r0 r1 s1 hml hA
      go_wp2_with fail
      go_roundg g1
      case rel => exact ⟨j + 1, _, by omega, by rw [HU.out], rfl, HO2.out, HB2.out⟩
      case measure => omega
    · obtain rfl : j = d := by omega
      rw [if_neg hj]
      obtain ⟨gb, cc, hv, hg1, hg2, hg3, _⟩ := own_form HO.out (by omega)
      cases hv
      have HL : Hid (∀ i, i < j → wr.cell? ⟨gb, i, none⟩ = some (.int .i64 (wayI W H x y (j - 1 - i) : Int))) := Lib.hid fun i hi => by
        have h1 := HO.out.cellAt i (by omega)
        rw [h1, List.getElem?_map, wayL_get W H x y j i hi]
        rfl
      clear hjg hA
      go_wp2_with fail
      exact bodyPost_ret (v := .slice (some ⟨gb, 0, none⟩) j c) (by simp [results, Try.results29, go_sem]) rfl ⟨gb, c, rfl, ⟨hg1, hg2, hg3⟩, HL.out, HB.out⟩
set_option maxHeartbeats 4000000 in
theorem rtknown_any {w : World} {q L tot cap W H d k : Nat} {fr : Bool} {T : TT} (h : RTr w q L tot cap W H d fr T) (hd : 1 ≤ d) (hk : k < W * H) (hWH : W * H ≤ 4096) :
    Calls Try.prog 17 #[.pointer (some ⟨q, 0, none⟩), .int .i64 (k : Int)] w fun e w' => e = .returned (.int .i64 (knF T k)) ∧ w = w' := by
  obtain ⟨r0, r1⟩ := h.root
  obtain ⟨c0, c1, c2, c3, cf, clt⟩ := h.cells (i := 0) (m := k) (by omega) hk
  have h0 : offF W H 0 + k = k := Nat.zero_add k
  rw [h0] at c0 c2 clt
  obtain ⟨N, hN⟩ : ∃ N, W * H = N := ⟨_, rfl⟩
  rw [hN] at r1 hk
  unfold knF
  generalize (T 0 k).num = tn at *
  generalize (T 0 k).said = ts at *
  have hlt : (k : Int) < (tot : Int) := by omega
  have e0 : decide ((k : Int) < 0) = false := by simp
  have e1 : ¬ (N : Int) ≤ (k : Int) := by omega
  have e2 : decide ((N : Int) ≤ (k : Int)) = false := by simp; omega
  clear c1 c3 h0 h
  cases ts with
  | true =>
    go_enter Try.func17, Try.ntmps17
    go_wp2
    go_ret
    exact ⟨rfl, rfl⟩
  | false =>
    go_enter Try.func17, Try.ntmps17
    go_wp2
    go_ret
    exact ⟨rfl, rfl⟩
set_option maxHeartbeats 4000000 in
theorem rtknown_no {w : World} {q n : Nat} {V : Value} {fr : Bool} {k : Int} (h : w.heap[q]? = some (.cells #[V, .int .i64 (n : Int), .bool fr] 64 (0, 0))) (hk : k < 0 ∨ (n : Int) ≤ k) :
    Calls Try.prog 17 #[.pointer (some ⟨q, 0, none⟩), .int .i64 k] w fun e w' => e = .returned (.int .i64 (-1)) ∧ w = w' := by
  have r1 : w.cell? ⟨q, 1, none⟩ = some (.int .i64 (n : Int)) := by simp [World.cell?, h]
  clear h
  by_cases c : k < 0
  · have e0 : decide (k < 0) = true := by simp [c]
    clear hk
    go_enter Try.func17, Try.ntmps17
    go_wp2
    go_ret
    exact ⟨rfl, rfl⟩
  · have e0 : decide (k < 0) = false := by simp; omega
    have e1 : (n : Int) ≤ k := by omega
    have e2 : decide ((n : Int) ≤ k) = true := by simp [e1]
    clear hk
    go_enter Try.func17, Try.ntmps17
    go_wp2
    go_ret
    exact ⟨rfl, rfl⟩
set_option maxHeartbeats 4000000 in
theorem rtdecode_no {w : World} {q n : Nat} {V : Value} {fr : Bool} {k b : Int} {P : Value} (h : w.heap[q]? = some (.cells #[V, .int .i64 (n : Int), .bool fr] 64 (0, 0))) (hk : k < 0 ∨ (n : Int) ≤ k) :
    Calls Try.prog 15 #[.pointer (some ⟨q, 0, none⟩), P, .int .i64 k, .int .i64 b] w fun e w' => e = .returned (.bool false) ∧ w = w' := by
  have r1 : w.cell? ⟨q, 1, none⟩ = some (.int .i64 (n : Int)) := by simp [World.cell?, h]
  clear h
  by_cases c : k < 0
  · have e0 : decide (k < 0) = true := by simp [c]
    clear hk
    go_enter Try.func15, Try.ntmps15
    go_wp2
    go_ret
    exact ⟨rfl, rfl⟩
  · have e0 : decide (k < 0) = false := by simp; omega
    have e1 : (n : Int) ≤ k := by omega
    have e2 : decide ((n : Int) ≤ k) = true := by simp [e1]
    clear hk
    go_enter Try.func15, Try.ntmps15
    go_wp2
    go_ret
    exact ⟨rfl, rfl⟩
end Go.Proofs.Ythgbnkcbcepjdaa
