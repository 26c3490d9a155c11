/- Shift and Unshift of the reference; ColorShifts, walked. -/
import Derived.Test.YtgplaikcahpiiaaColBack
set_option linter.unusedVariables false
namespace Go.Proofs.Ytgplaikcahpiiaa
open Go.RowKit

/-- A row of which the first k places have been turned. -/
def part (f : Int → Int) (l : List Int) (n k : Nat) : List Int := (List.range n).map fun i => if i < k then f (l.getD i 0) else l.getD i 0
theorem part_zero (f : Int → Int) (l : List Int) (n : Nat) (h : l.length = n) : part f l n 0 = l := ranged_eq _ _ _ h fun i hi => by simp
theorem part_full (f : Int → Int) (l : List Int) (n : Nat) : part f l n n = map1 f l n := by
  unfold part map1
  apply List.map_congr_left
  intro i hi
  rw [if_pos (by simpa using hi)]
theorem part_get (f : Int → Int) (l : List Int) (n k : Nat) (h : k < n) : (part f l n k)[k]? = some (l.getD k 0) := by
  unfold part
  rw [List.getElem?_map, List.getElem?_range h]
  show some (if k < k then _ else _) = _
  rw [if_neg (by omega)]
theorem part_step (f : Int → Int) (l : List Int) (n k : Nat) (h : k < n) : (part f l n k).set k (f (l.getD k 0)) = part f l n (k + 1) := by
  apply List.ext_getElem?
  intro i
  by_cases hik : k = i
  · subst hik
    rw [List.getElem?_set_self (by unfold part; simpa using h)]
    unfold part
    rw [List.getElem?_map, List.getElem?_range h]
    show some _ = some (if k < k + 1 then _ else _)
    rw [if_pos (by omega)]
  · rw [List.getElem?_set_ne hik]
    unfold part
    rw [List.getElem?_map, List.getElem?_map]
    rcases Nat.lt_or_ge i n with hi | hi
    · rw [List.getElem?_range hi]
      show some (if i < k then _ else _) = some (if i < k + 1 then _ else _)
      by_cases h1 : i < k
      · rw [if_pos h1, if_pos (by omega)]
      · rw [if_neg h1, if_neg (by omega)]
    · rw [List.getElem?_eq_none (by simpa using hi)]; rfl
theorem half_at (q : Nat) (h : q < 16) : wrap64 (2 ^ q) = 2 ^ q := by
  have := half_is (1 + q) (by omega) (by omega)
  rwa [show 1 + q - 1 = q from by omega] at this

/-- append([]int{}, v...): a row of its own with v's numbers. -/
theorem wpList_clone {w : World} {ops : Array Oper} {rest : List Oper} {o : Oper} {a : Act} {Q : Exit → Act → World → Prop} (hgd : o.guard = none) (s x : Operand)
    (ho : o.op = .call { callee := .builtin .append, args := #[s, x], argTypes := #[22, 22] }) {A : Option Addr} {n c : Nat} {l : List Int}
    (hs : a.eval s = .slice (some ⟨w.heap.size, 0, none⟩) 0 0) (hx : a.eval x = .slice A n c) (h : RowI w A n c l) (hn : n ≤ 1000)
    (hK : ∀ V cv w1, w1.ownsRow w.heap.size 3 1 (.slice V n cv) n (l.map (Value.int .i64)) → Below w.heap.size w w1 → wpList Try.prog ops Q rest (a.put o.dst (.slice V n cv)) w1) :
    wpList Try.prog ops Q (o :: rest) a (w.alloc (Obj.cells #[] 3)) := by
  obtain ⟨i0, hi, hz0, hz1, hz2⟩ := info_parts Try.info3
  have hb0 : Below w.heap.size w (w.alloc (Obj.cells #[] 3)) := (Below.refl _ _).alloc (Nat.le_refl _) _
  rcases A with _ | A
  · obtain ⟨rfl, rfl⟩ := h.2.2.2.1 rfl
    obtain rfl : l = [] := List.eq_nil_of_length_eq_zero h.1
    refine wpList_append_own_none hgd s x 22 ho w.heap.size 3 i0 1 Try.underlying22 hi (.slice (some ⟨w.heap.size, 0, none⟩) 0 0) 0 [] hs (World.ownsRow_made w #[] 0 (Nat.le_refl _) (by unfold maxLen; omega) rfl) hx ?_
    exact hK _ _ _ (World.ownsRow_made w #[] 0 (Nat.le_refl _) (by unfold maxLen; omega) rfl) hb0
  · have hcells := h.2.2.2.2.add rfl
    have hln := h.1
    refine wpList_append_own _ hgd s x 22 ho w.heap.size 3 i0 (.int .i64 0) 1 8 Try.underlying22 hi hz0 hz1 hz2 rfl (by decide) (.slice (some ⟨w.heap.size, 0, none⟩) 0 0) 0 [] hs (World.ownsRow_made w #[] 0 (Nat.le_refl _) (by unfold maxLen; omega) rfl) A n c (l.map (Value.int .i64)) hx (by simp [hln]) (fun j u hu => (World.cell?_alloc_lt w _ _ (World.block_lt_of_cell? w _ (hcells j u hu))).trans (hcells j u hu)) (ints_oneCell .i64 l) (by unfold maxLen; omega) (by omega) (by simp) ?_
    intro v1 w1 hown hg _
    have hb1 : Below w.heap.size w w1 := hb0.grown hg (by simp) (by simp [Value.ownBlock])
    rw [Nat.zero_add, List.nil_append] at hown
    obtain ⟨V, cv, rfl, _⟩ := own_any hown
    exact hK _ _ _ hown hb1

set_option maxHeartbeats 4000000 in
theorem rshift_any {A : Option Addr} {n c : Nat} {l : List Int} {w : World} (D : Int) (q : Nat) (s : Bool) (hD : D = 1 + (q : Int)) (hq : q < 16) (h : RowI w A n c l) (hn : n ≤ 1000) (hr : Rng 1073741824 l) :
    Calls Try.prog 16 #[.int .i64 D, .bool s, .slice A n c] w fun e w' => ∃ A' c', e = .returned (.slice A' n c') ∧ RowI w' A' n c' (map1 (· - levelF (1 + q) s) l n) ∧ Below w.heap.size w w' := by
  subst hD
  have H := Lib.hid h
  have HR := Lib.hid hr
  have hln := h.1
  have hp := pow_in (1 + q) (by omega) (by omega)
  have HW := Lib.hid (half_at q hq)
  have hlf : Hid (levelF (1 + q) false = 2 ^ q) := by
    show (2 : Int) ^ (1 + q - 1) = 2 ^ q
    rw [show 1 + q - 1 = q from by omega]
  have hpp : 0 ≤ (2 : Int) ^ q ∧ (2 : Int) ^ q ≤ 32768 := by
    rw [show 1 + q - 1 = q from by omega] at hp
    omega
  obtain ⟨hf, hhf⟩ : ∃ hf, wrap64 (2 ^ q) = hf := ⟨_, rfl⟩
  rw [← HW.out, hhf] at hpp hlf
  have HF := Lib.hid hhf
  clear hp hhf h hr HW
  cases s
  · rw [hlf.out]
    go_enter Try.func16, Try.ntmps16
    go_wp2_with (at_builtin; refine wpList_clone rfl _ _ rfl rfl rfl H.out hn ?_)
    intro V cv w1 hown hb1
    go_wp2
    go_loopw [8] (fun i wr => ∃ k : Nat, k ≤ n ∧ i = .int .i64 k ∧ wr.ownsRow w.heap.size 3 1 (.slice V n cv) n ((part (· - hf) l n k).map (Value.int .i64)) ∧ Below w.heap.size w wr) (fun i _ => n - (intOf i).toNat)
    case atStart => exact ⟨0, by omega, rfl, by rw [part_zero _ _ _ hln]; exact hown, hb1⟩
    case round =>
      obtain ⟨k, k0, rfl, hown2, hb2⟩ := hrel
      clear hown hb1
      by_cases c1 : k < n
      · obtain ⟨g, cap, hv, hg1, hg2, _⟩ := own_form hown2 (by omega)
        injection hv with hv1 _ hv2
        subst hv1 hv2
        have f4 := hown2.cellAt k (by omega)
        rw [List.getElem?_map, part_get _ _ _ _ c1] at f4
        change wr.cell? _ = some (.int .i64 (l.getD k 0)) at f4
        have f5 := hown2.frozenAt k
        have hlr := HR.out k
        have S := hown2.stored k (.int .i64 (l.getD k 0 - hf))
        have hs : ((part (· - hf) l n k).map (Value.int .i64)).set k (.int .i64 (l.getD k 0 - hf)) = (part (· - hf) l n (k + 1)).map (Value.int .i64) := by
          rw [← List.map_set, ← part_step _ _ _ _ c1]
        rw [hs] at S
        have hB := hb2.setCell (p := ⟨g, k, none⟩) hg1 (.int .i64 (l.getD k 0 - hf))
        have HS := Lib.hid S.1
        have HB := Lib.hid hB
        clear S hB hs hown2 hb2
        generalize l.getD k 0 = x at *
        have hw2 : wrap64 (x - hf) = x - hf := IntWalk.wrap64_in _ (by omega)
        have HW2 := Lib.hid hw2
        clear hw2
        go_wp2_with fail
        rw [HF.out]
        go_wp2_with fail
        rw [HW2.out]
        exact ⟨⟨k + 1, by omega, by go_num, HS.out, HB.out⟩, by simp [intOf]; omega⟩
      · obtain rfl : n = k := by omega
        go_wp2
        go_ret
        rw [part_full] at hown2
        obtain ⟨V', cv', hv, hr⟩ := rowI_own hown2
        injection hv with h1 _ h3
        subst h1 h3
        exact ⟨_, _, rfl, hr, hb2⟩
  · have h0 : map1 (· - levelF (1 + q) true) l n = l := ranged_eq _ _ _ hln fun i hi => by
      show l.getD i 0 - 0 = _
      omega
    rw [h0]
    go_enter Try.func16, Try.ntmps16
    go_wp2_with (at_builtin; refine wpList_clone rfl _ _ rfl rfl rfl H.out hn ?_)
    intro V cv w1 hown hb1
    go_wp2
    go_loopw [8] (fun i wr => i = .int .i64 0 ∧ w1 = wr) (fun i _ => 0)
    case atStart => exact ⟨rfl, rfl⟩
    case round =>
      obtain ⟨rfl, rfl⟩ := hrel
      by_cases c1 : (0 : Int) < (n : Int)
      all_goals
        go_wp2
        go_ret
        obtain ⟨V', cv', hv, hr⟩ := rowI_own hown
        injection hv with h1 _ h3
        subst h1 h3
        exact ⟨_, _, rfl, hr, hb1⟩

theorem clip_is (lo hh m : Int) : (if lo < (if m < hh then m else hh) then (if m < hh then m else hh) else lo) = max lo (min hh m) := by
  by_cases h1 : m < hh
  · rw [if_pos h1]; split <;> omega
  · rw [if_neg h1]; split <;> omega
theorem unF_rng {d : Nat} {s : Bool} {x : Int} (hd : 1 ≤ d) (hd2 : d ≤ 16) : -65536 ≤ unF d s x ∧ unF d s x ≤ 65536 := by
  have := bd_rng d s hd hd2
  rw [un_is]
  omega
set_option maxHeartbeats 8000000 in
theorem runshift_any {A : Option Addr} {n c : Nat} {l : List Int} {w : World} (D : Int) (q : Nat) (s : Bool) (hD : D = 1 + (q : Int)) (hq : q < 16) (h : RowI w A n c l) (hn : n ≤ 1000) (hr : Rng 1073741824 l) :
    Calls Try.prog 18 #[.int .i64 D, .bool s, .slice A n c] w fun e w' => ∃ A' c', e = .returned (.slice A' n c') ∧ RowI w' A' n c' (map1 (unF (1 + q) s) l n) ∧ Below w.heap.size w w' := by
  subst hD
  have H := Lib.hid h
  have HR := Lib.hid hr
  have hln := h.1
  have hp := pow_in (1 + q) (by omega) (by omega)
  have HW := Lib.hid (half_at q hq)
  have hbr := bd_rng (1 + q) s (by omega) (by omega)
  have hlf : Hid (levelF (1 + q) s = if s then 0 else 2 ^ q) := by
    show (if s then (0 : Int) else 2 ^ (1 + q - 1)) = if s then 0 else 2 ^ q
    rw [show 1 + q - 1 = q from by omega]
  have hpp : 0 ≤ (2 : Int) ^ q ∧ (2 : Int) ^ q ≤ 32768 := by
    rw [show 1 + q - 1 = q from by omega] at hp
    omega
  obtain ⟨hf, hhf⟩ : ∃ hf, wrap64 (2 ^ q) = hf := ⟨_, rfl⟩
  rw [← HW.out, hhf] at hpp hlf
  have HF := Lib.hid hhf
  obtain ⟨f, hfe⟩ : ∃ f, unF (1 + q) s = f := ⟨_, rfl⟩
  have HFE : Hid (∀ x, f x = max (loF (1 + q) s) (min (hiF (1 + q) s) (x + levelF (1 + q) s))) := by
    intro x; rw [← hfe]; rfl
  rw [hfe]
  clear hp hhf h hr HW hfe
  go_enter Try.func18, Try.ntmps18
  go_wp2_with (at_builtin; refine wpList_clone rfl _ _ rfl rfl rfl H.out hn ?_)
  intro V cv w1 hown hb1
  go_wp2_with fail
  refine (bounds_at _ (1 + q) s _ (by omega) (by omega) (by omega)).mono ?_
  rintro e w' ⟨rfl, rfl⟩
  rw [hlf.out] at HFE
  generalize loF (1 + q) s = lo at *
  generalize hiF (1 + q) s = hh at *
  clear hlf
  go_wp2
  go_loopw [10] (fun i wr => ∃ k : Nat, k ≤ n ∧ i = .int .i64 k ∧ wr.ownsRow w.heap.size 3 1 (.slice V n cv) n ((part f l n k).map (Value.int .i64)) ∧ Below w.heap.size w wr) (fun i _ => n - (intOf i).toNat)
  case atStart => exact ⟨0, by omega, rfl, by rw [part_zero _ _ _ hln]; exact hown, hb1⟩
  case round =>
    obtain ⟨k, k0, rfl, hown2, hb2⟩ := hrel
    clear hown hb1
    by_cases c1 : k < n
    · obtain ⟨g, cap, hv, hg1, hg2, _⟩ := own_form hown2 (by omega)
      injection hv with hv1 _ hv2
      subst hv1 hv2
      have f4 := hown2.cellAt k (by omega)
      rw [List.getElem?_map, part_get _ _ _ _ c1] at f4
      change wr.cell? _ = some (.int .i64 (l.getD k 0)) at f4
      have f5 := hown2.frozenAt k
      have hlr := HR.out k
      have hfx := HFE.out (l.getD k 0)
      have hs : ∀ u, (((part f l n k).map (Value.int .i64)).set k (.int .i64 u)).set k (.int .i64 (f (l.getD k 0))) = (part f l n (k + 1)).map (Value.int .i64) := fun u => by
        rw [List.set_set, ← List.map_set, ← part_step _ _ _ _ c1]
      have hs1 : ((part f l n k).map (Value.int .i64)).set k (.int .i64 (f (l.getD k 0))) = (part f l n (k + 1)).map (Value.int .i64) := by
        rw [← List.map_set, ← part_step _ _ _ _ c1]
      have HS1 := Lib.hid hs1
      have HS := Lib.hid hs
      have HO := Lib.hid hown2
      have HB := Lib.hid hb2
      clear hs hs1 hown2 hb2
      generalize hz : f (l.getD k 0) = z at *
      generalize l.getD k 0 = x at *
      clear hz
      cases s
      · have hfx : z = max lo (min hh (x + hf)) := hfx
        have hw2 : wrap64 (x + hf) = x + hf := IntWalk.wrap64_in _ (by omega)
        have HW2 := Lib.hid hw2
        have HZ := Lib.hid hfx
        clear hw2 hfx
        go_wp2_with fail
        rw [HF.out]
        go_wp2_with fail
        rw [HW2.out]
        generalize x + hf = m at *
        go_wp2_with fail
        rw [clip_is, ← HZ.out]
        have S1 := HO.out.stored k (.int .i64 m)
        have S2 := S1.1.stored k (.int .i64 z)
        rw [HS.out] at S2
        exact ⟨⟨k + 1, by omega, by go_num, S2.1, (HB.out.setCell (p := ⟨g, k, none⟩) hg1 _).setCell (p := ⟨g, k, none⟩) hg1 _⟩, by simp [intOf]; omega⟩
      · have hfx : z = max lo (min hh x) := by simpa using hfx
        have HZ := Lib.hid hfx
        clear hfx
        go_wp2_with fail
        rw [clip_is, ← HZ.out]
        have S2 := HO.out.stored k (.int .i64 z)
        rw [HS1.out] at S2
        exact ⟨⟨k + 1, by omega, by go_num, S2.1, (HB.out.setCell (p := ⟨g, k, none⟩) hg1 _)⟩, by simp [intOf]; omega⟩
    · obtain rfl : n = k := by omega
      go_wp2
      go_ret
      rw [part_full] at hown2
      obtain ⟨V', cv', hv, hr⟩ := rowI_own hown2
      injection hv with h1 _ h3
      subst h1 h3
      exact ⟨_, _, rfl, hr, hb2⟩

theorem rowF_rng30 (l : List Int) : Rng 1073741824 (rowF l) := rng_of (by omega) fun x hx => by have := rowF_rng x hx; omega

set_option maxHeartbeats 4000000 in
theorem walk_colorShifts (a0 : Int) (a1 : Bool) (a2 : Option Addr) (len2 cap2 : Nat) (z2 : List Int) (w : World) (w0 : (Lit.int .i64 a0).wf = true) (w2 : IsRow .i64 w a2 len2 cap2 z2) :
    Calls Try.prog 3 #[.int .i64 a0, .bool a1, .slice a2 len2 cap2] w fun e w' => e = .returned (.bool true) ∧ Below w.heap.size w w' := by
  obtain ⟨q, hq⟩ : ∃ q : Nat, a0 % 16 = q := ⟨(a0 % 16).toNat, by omega⟩
  have hq16 : q < 16 := by omega
  have HQ := Lib.hid hq
  have d0 : 1 ≤ 1 + q := by omega
  have d1 : 1 + q ≤ 16 := by omega
  have H2 := Lib.hid (rowI_is w2)
  clear w0 w2 hq
  go_enter Try.func3, Try.ntmps3
  go_wp2_with fail
  refine (known11 _).mono ?_
  rintro e w1 ⟨rfl, b1⟩
  go_wp2_with fail
  refine (within11 _ _ _ (by omega) (by omega)).mono ?_
  rintro e w' ⟨rfl, rfl⟩
  rw [HQ.out]
  go_wp2_with fail
  refine (row9 (H2.out.keep b1 (Nat.le_refl _))).mono ?_
  rintro e w2 ⟨A, c, rfl, h, b2⟩
  have b2 := b1.trans (b2.mono b1.size)
  have hr := rowF_rng30 (z2.take len2)
  have hn : min 60 len2 ≤ 1000 := by omega
  clear b1 H2
  generalize min 60 len2 = n at *
  generalize rowF (z2.take len2) = l at *
  have HH := Lib.hid h
  go_wp2_with (at_builtin; refine wpList_clone rfl _ _ rfl rfl rfl HH.out hn ?_)
  intro V cv w3 hown b3
  have hw : RowI w3 V n cv l := by
    obtain ⟨V', cv', hv, hr⟩ := rowI_own hown
    injection hv with h1 _ h3
    subst h1 h3
    exact hr
  have h := h.keep b3 (Nat.le_refl _)
  have b3 := b2.trans (b3.mono b2.size)
  clear HH hown b2
  go_wp2_with fail
  refine (shift_at _ (1 + q) a1 (by omega) d0 d1 h hn hr).mono ?_
  rintro e w4 ⟨S, cs, rfl, hs, b4⟩
  have h := h.keep b4 (Nat.le_refl _)
  have hw := hw.keep b4 (Nat.le_refl _)
  have b4 := b3.trans (b4.mono b3.size)
  clear b3
  go_wp2_with fail
  refine (rshift_any _ q a1 (by omega) hq16 hw hn hr).mono ?_
  rintro e w5 ⟨T, ct, rfl, ht, b5⟩
  have h := h.keep b5 (Nat.le_refl _)
  have hw := hw.keep b5 (Nat.le_refl _)
  have hs := hs.keep b5 (Nat.le_refl _)
  have b5 := b4.trans (b5.mono b4.size)
  clear b4
  go_wp2_with fail
  refine (ints_yes hs ht).mono ?_
  rintro e w6 ⟨rfl, d6⟩
  have h := h.drew d6
  have hw := hw.drew d6
  have b6 := Drew.to b5 d6
  clear b5 hs ht
  go_wp2_with fail
  refine (unshift_at _ (1 + q) a1 (by omega) d0 d1 h hn hr).mono ?_
  rintro e w7 ⟨S2, cs2, rfl, hs, b7⟩
  have h := h.keep b7 (Nat.le_refl _)
  have hw := hw.keep b7 (Nat.le_refl _)
  have b7 := b6.trans (b7.mono b6.size)
  clear b6
  go_wp2_with fail
  refine (runshift_any _ q a1 (by omega) hq16 hw hn hr).mono ?_
  rintro e w8 ⟨T2, ct2, rfl, ht, b8⟩
  have h := h.keep b8 (Nat.le_refl _)
  have hw := hw.keep b8 (Nat.le_refl _)
  have hs := hs.keep b8 (Nat.le_refl _)
  have b8 := b7.trans (b8.mono b7.size)
  clear b7
  go_wp2_with fail
  refine (ints_yes hs ht).mono ?_
  rintro e w9 ⟨rfl, d9⟩
  have h := h.drew d9
  have hw := hw.drew d9
  have b9 := Drew.to b8 d9
  clear b8 hs ht
  go_wp2_with fail
  refine (ints_yes h hw).mono ?_
  rintro e w10 ⟨rfl, d10⟩
  have b10 := Drew.to b9 d10
  go_wp2
  go_ret
  exact ⟨rfl, b10⟩
end Go.Proofs.Ytgplaikcahpiiaa
