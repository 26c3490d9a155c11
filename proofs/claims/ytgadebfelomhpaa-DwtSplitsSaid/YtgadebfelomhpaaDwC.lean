/- What lines is handed, and lines without places; slices of rows, and rows appended to rows. -/
import Derived.Test.YtgadebfelomhpaaDwL
import Derived.Test.YtgadebfelomhpaaApps
import Derived.Maps.AppendAt
import Derived.Laws.OwnMore
set_option linter.unusedVariables false
set_option linter.unusedSimpArgs false
namespace Go.Proofs.Ytgadebfelomhpaa
open Go.RowKit

def BdL (l : List Int) : Prop := ∀ i, -1073741824 ≤ l.getD i 0 ∧ l.getD i 0 ≤ 1073741824
set_option maxHeartbeats 1000000 in
theorem sp1_any {A : Option Addr} {n c b : Nat} {l : List Int} {w : World} {g : Geo} (hr : RC w b g) (h : RowI w A n c l) (hn : n ≤ 1000) (hb : BdL l) :
    Calls Try.prog 36 #[.slice A n c, .pointer (some ⟨b, 0, none⟩)] w fun e w' => ∃ A' c', e = .returned (.slice A' n c') ∧ RowO w.heap.size w' A' n c' (SP (g.y % 2) n l) ∧ Below w.heap.size w w' := by
  have H := Lib.hid (split_all (g.y : Int) (g.y % 2) h (by omega) (by omega) hn hb)
  obtain ⟨f0, f1, f2, f3⟩ := hr
  clear h hb
  go_enter Try.func36, Try.ntmps36
  go_wp2_with fail
  refine H.out.mono ?_
  rintro e w1 ⟨A', c', rfl, hrow, hB⟩
  have HR := Lib.hid hrow
  clear hrow
  go_wp2
  go_ret
  exact ⟨_, _, rfl, HR.out, hB⟩
set_option maxHeartbeats 1000000 in
theorem sp2_any {A : Option Addr} {n c b : Nat} {l : List Int} {w : World} {g : Geo} (hr : RC w b g) (h : RowI w A n c l) (hn : n ≤ 1000) (hb : BdL l) :
    Calls Try.prog 38 #[.slice A n c, .pointer (some ⟨b, 0, none⟩)] w fun e w' => ∃ A' c', e = .returned (.slice A' n c') ∧ RowO w.heap.size w' A' n c' (SP (g.x % 2) n l) ∧ Below w.heap.size w w' := by
  have H := Lib.hid (split_all (g.x : Int) (g.x % 2) h (by omega) (by omega) hn hb)
  obtain ⟨f0, f1, f2, f3⟩ := hr
  clear h hb
  go_enter Try.func38, Try.ntmps38
  go_wp2_with fail
  refine H.out.mono ?_
  rintro e w1 ⟨A', c', rfl, hrow, hB⟩
  have HR := Lib.hid hrow
  clear hrow
  go_wp2
  go_ret
  exact ⟨_, _, rfl, HR.out, hB⟩
set_option maxHeartbeats 1000000 in
theorem jn1_any {A : Option Addr} {n c b : Nat} {l : List Int} {w : World} {g : Geo} (hr : RC w b g) (h : RowI w A n c l) (hn : n ≤ 1000) (hb : BdL l) :
    Calls Try.prog 42 #[.slice A n c, .pointer (some ⟨b, 0, none⟩)] w fun e w' => ∃ A' c', e = .returned (.slice A' n c') ∧ RowO w.heap.size w' A' n c' (JN (g.x % 2) n l) ∧ Below w.heap.size w w' := by
  have H := Lib.hid (join_all (g.x : Int) (g.x % 2) h (by omega) (by omega) hn hb)
  obtain ⟨f0, f1, f2, f3⟩ := hr
  clear h hb
  go_enter Try.func42, Try.ntmps42
  go_wp2_with fail
  refine H.out.mono ?_
  rintro e w1 ⟨A', c', rfl, hrow, hB⟩
  have HR := Lib.hid hrow
  clear hrow
  go_wp2
  go_ret
  exact ⟨_, _, rfl, HR.out, hB⟩
set_option maxHeartbeats 1000000 in
theorem jn2_any {A : Option Addr} {n c b : Nat} {l : List Int} {w : World} {g : Geo} (hr : RC w b g) (h : RowI w A n c l) (hn : n ≤ 1000) (hb : BdL l) :
    Calls Try.prog 44 #[.slice A n c, .pointer (some ⟨b, 0, none⟩)] w fun e w' => ∃ A' c', e = .returned (.slice A' n c') ∧ RowO w.heap.size w' A' n c' (JN (g.y % 2) n l) ∧ Below w.heap.size w w' := by
  have H := Lib.hid (join_all (g.y : Int) (g.y % 2) h (by omega) (by omega) hn hb)
  obtain ⟨f0, f1, f2, f3⟩ := hr
  clear h hb
  go_enter Try.func44, Try.ntmps44
  go_wp2_with fail
  refine H.out.mono ?_
  rintro e w1 ⟨A', c', rfl, hrow, hB⟩
  have HR := Lib.hid hrow
  clear hrow
  go_wp2
  go_ret
  exact ⟨_, _, rfl, HR.out, hB⟩
theorem enters36 : Enters Try.prog 36 := enters_of Try.func36 (by kernel_rfl) rfl
theorem enters38 : Enters Try.prog 38 := enters_of Try.func38 (by kernel_rfl) rfl
theorem enters42 : Enters Try.prog 42 := enters_of Try.func42 (by kernel_rfl) rfl
theorem enters44 : Enters Try.prog 44 := enters_of Try.func44 (by kernel_rfl) rfl

set_option maxHeartbeats 2000000 in
theorem lines_none (k : Nat) (fr : Array Value) (hk : Enters Try.prog k) (V : Value) (count apart length stride : Nat) (w : World)
    (h1 : count ≤ 1000) (h3 : length ≤ 1000) (h0 : count = 0 ∨ length = 0)
    (hF : ∀ A cc w1, Below w.heap.size w w1 → RowI w1 A length cc [] →
      Calls Try.prog k (#[.slice A length cc] ++ fr) w1 fun e w2 => ∃ A' c', e = .returned (.slice A' length c') ∧ Below w1.heap.size w1 w2) :
    Calls Try.prog 35 #[V, .int .i64 (count : Int), .int .i64 (apart : Int), .int .i64 (length : Int), .int .i64 (stride : Int), .func (.func k) #[] fr] w fun e w' => e = .returned (.tuple #[]) ∧ Below w.heap.size w w' := by
  have HF := Lib.hid hF
  have hmk := fun u => hmkn u length h3
  clear hF
  go_enter Try.func35, Try.ntmps35
  go_wp2
  obtain ⟨z, hz⟩ : ∃ z, w.heap.size = z := ⟨_, rfl⟩
  have hgr0 : Below w.heap.size w (w.alloc (Obj.cells (madeCells #[Value.int IntKind.i64 0] length) 3)) := (Below.refl _ _).alloc (Nat.le_refl _) _
  have S0 := Lib.hid hgr0
  rw [hz]
  have HZ := Lib.hid hz
  clear hgr0 hz hmk
  generalize (w.alloc (Obj.cells (madeCells #[Value.int IntKind.i64 0] length) 3)) = W0 at *
  go_loopw [20] (fun iv wr => ∃ i : Nat, i ≤ count ∧ iv = .int .i64 (i : Int) ∧ Hid (Below w.heap.size w wr)) (fun iv _ => count - (intOf iv).toNat)
  case atStart => exact ⟨0, by omega, rfl, S0⟩
  case round =>
    obtain ⟨i, hi, rfl, S⟩ := hrel
    by_cases ci : i < count
    · have ci' : (i : Int) < (count : Int) := by omega
      have hl0 : length ≤ 0 := by omega
      have hl1 : ¬ (0 : Int) < (length : Int) := by omega
      obtain ⟨wo, rfl⟩ : ∃ wo : World, wo = wr := ⟨_, rfl⟩
      go_wp2
      go_loopw [24] (fun jv wr => jv = .int .i64 0 ∧ wo = wr) (fun jv _ => 0)
      case atStart => exact ⟨rfl, rfl⟩
      case round =>
        obtain ⟨rfl, rfl⟩ := hrel
        have C := Lib.hid (HF.out (some ⟨z, 0, none⟩) length wo S.out ⟨by simp; omega, Nat.le_refl _, by unfold maxLen; omega, by simp, Lst.nil⟩)
        go_wp2_with fail
        rw [hk, Oper.upon_enter]
        refine C.out.mono ?_
        rintro e w2 ⟨A', c', rfl, hb⟩
        have S2 : Hid (Below w.heap.size w w2) := Lib.hid (S.out.trans (hb.mono S.out.size))
        clear C S hb
        go_wp2
        go_loopw [45] (fun jv wr => jv = .int .i64 0 ∧ w2 = wr) (fun jv _ => 0)
        case atStart => exact ⟨rfl, rfl⟩
        case round =>
          obtain ⟨rfl, rfl⟩ := hrel
          go_wp2
          go_roundw
          case rel => exact ⟨i + 1, by omega, by go_num, S2⟩
          case measure => simp [intOf]; omega
    · obtain rfl : count = i := by omega
      go_wp2
      go_end0
      exact ⟨rfl, S.out⟩

/-- What a slice expression comes to, as one word. -/
def slcSem (t : TypeId) (v : Value) (lo hi mx : Option Value) : Sem Value := Instr.slice t v lo hi mx
theorem slcSem_eq {t : TypeId} {v : Value} {lo hi mx : Option Value} : Instr.slice t v lo hi mx = slcSem t v lo hi mx := rfl
/-- A slice of a row. -/
theorem slice_row {w : World} {A : Option Addr} {n c : Nat} {l : List Int} (h : RowI w A n c l) (lo hi : Nat) (h1 : lo ≤ hi) (h2 : hi ≤ n) (a b : Int) (ha : a = (lo : Int)) (hb : b = (hi : Int)) :
    ∃ S cs, (∀ W, (slcSem 24 (.slice A n c) (some (.int .i64 a)) (some (.int .i64 b)) none).run Try.prog W = .ok (.slice S (hi - lo) cs) W) ∧ RowI w S (hi - lo) cs ((l.drop lo).take (hi - lo)) := by
  subst ha hb
  obtain ⟨i0, hi0, hz0, hz1, hz2⟩ := info_parts Try.info3
  have hl := h.1
  have hnc := h.2.1
  refine ⟨if c = lo then A else A.map (·.add lo), c - lo, fun W => ?_, ?_⟩
  · unfold slcSem
    rw [run_slice_lh W 24 A n c (by exact Try.underlying24) .i64 .i64 (lo : Int) (hi : Int) (by omega) (by omega) (by omega)]
    have hs : (sizeOf (Try.prog.elem 24)).run Try.prog W = .ok 1 W := by
      have he : Try.prog.elem 24 = 3 := by kernel_rfl
      rw [he]
      simp [sizeOf, typeInfo, hi0, hz1]
    rw [hs]
    simp [Result.andThen, sliced]
  · refine ⟨by rw [List.length_take, List.length_drop]; omega, by omega, by have := h.2.2.1; omega, fun e => ?_, ?_⟩
    · by_cases hc : c = lo
      · omega
      · rw [if_neg hc] at e
        have hA : A = none := by cases A with
          | none => rfl
          | some a => simp at e
        have := h.2.2.2.1 hA
        omega
    · intro i u hu
      rw [List.getElem?_map, List.getElem?_take] at hu
      split at hu
      · rename_i hi2
        rw [List.getElem?_drop, ← List.getElem?_map] at hu
        obtain ⟨b, o, e, hb, hc⟩ := h.2.2.2.2 _ u hu
        subst e
        rw [if_neg (by omega)]
        refine ⟨b, o + lo, ?_, hb, by rw [Nat.add_assoc]; exact hc⟩
        simp only [Option.map_some, Addr.add]
        split
        · rename_i h0; subst h0; rfl
        · rfl
      · simp at hu
/-- A row appended to one of the caller's own. -/
theorem app_row {w : World} {base n : Nat} {v : Value} {X L : List Int} {S : Option Addr} {m cs : Nat} (hown : w.ownsRow base 3 1 v n (X.map (Value.int .i64))) (h : RowI w S m cs L) (hb : base ≤ w.heap.size) (hlen : n + m ≤ 1000000) :
    ∃ v' w', (appSem #[24, 24] 24 #[v, .slice S m cs]).run Try.prog w = .ok v' w' ∧ w'.ownsRow base 3 1 v' (n + m) ((X ++ L).map (Value.int .i64)) ∧ w.grownBy w' v.ownBlock ∧ (v'.ownBlock = v.ownBlock ∨ v'.ownBlock = some w.heap.size) := by
  obtain ⟨i0, hi, hz0, hz1, hz2⟩ := info_parts Try.info3
  cases hS : S with
  | none =>
    subst hS
    obtain ⟨rfl, rfl⟩ := h.2.2.2.1 rfl
    obtain rfl : L = [] := List.eq_nil_of_length_eq_zero h.1
    have hrun := run_append_owned_none (P := Try.prog) (w := w) base 24 24 3 i0 1 Try.underlying24 hi v n _ hown
    exact ⟨v, w, hrun, by simpa using hown, World.grownBy.refl _ _, Or.inl rfl⟩
  | some a =>
    subst hS
    obtain ⟨v', w', hr, hown', hg, _, hat⟩ := run_append_own_at (P := Try.prog) w base 24 24 3 i0 (.int .i64 0) 1 8 Try.underlying24 hi hz0 hz1 hz2 rfl (by decide) v n _ hown a m cs (L.map (Value.int .i64)) (by rw [List.length_map, h.1]; simp)
      (h.2.2.2.2.add rfl) (ints_oneCell .i64 L) (by unfold maxLen; omega) (by omega) hb
    exact ⟨v', w', hr, by rw [List.map_append]; exact hown', hg, hat⟩
end Go.Proofs.Ytgadebfelomhpaa
