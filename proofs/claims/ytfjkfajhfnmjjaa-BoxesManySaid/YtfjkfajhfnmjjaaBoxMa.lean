/- Package boxes: BoxesMany, walked. -/
import Derived.Test.YtfjkfajhfnmjjaaBoxK
set_option linter.unusedVariables false
set_option linter.unusedSimpArgs false
namespace Go.Proofs.Ytfjkfajhfnmjjaa
open Go.RowKit Go.Shelf
attribute [local go_sem ↓] appSem_eq
def mkL (k : Nat) : List (List Int × List Int) := (List.range k).map fun (j : Nat) => ([102, 114, 101, 101], [(j : Int)])
theorem mkL_succ (k : Nat) : mkL (k + 1) = mkL k ++ [([102, 114, 101, 101], [(k : Int)])] := by unfold mkL; rw [List.range_succ, List.map_append]; rfl
theorem mkL_len (k : Nat) : (mkL k).length = k := by simp [mkL]
theorem mkL_good (k : Nat) (h : k ≤ 200) : ∀ x ∈ mkL k, GoodB x := by
  intro x hx
  unfold mkL at hx
  obtain ⟨j, hj, rfl⟩ := List.mem_map.1 hx
  have := List.mem_range.1 hj
  exact ⟨rfl, by show 1 ≤ 100000; omega, by show ∀ y ∈ ([102, 114, 101, 101] : List Int), 0 ≤ y ∧ y ≤ 255; decide, fun y hy => by
    obtain rfl : y = (j : Int) := by simpa using hy
    omega⟩
theorem wrB_mkL (k : Nat) : (wrB (mkL k)).length = 9 * k := by
  induction k with
  | zero => rfl
  | succ k ih =>
    have : wrB (mkL (k + 1)) = wrB (mkL k) ++ boxB ([102, 114, 101, 101], [(k : Int)]) := by
      rw [mkL_succ]; unfold wrB; rw [List.flatMap_append]; simp
    rw [this, List.length_append, ih]
    unfold boxB
    simp only [List.length_append, putL_len, List.length_cons, List.length_nil]
    omega
set_option maxRecDepth 100000 in
set_option maxHeartbeats 4000000 in
theorem walk_boxesMany (a0 : Int) (w : World) (w0 : (Lit.int .i64 a0).wf = true) :
    Calls Try.prog 5 #[.int .i64 a0] w fun e w' => e = .returned (.bool true) ∧ Below w.heap.size w w' := by
  have hbd0 := bd_i64 w0
  clear w0
  have K := Lib.hid (fun u => known20 u)
  go_enter Try.func5, Try.ntmps5
  go_wp2_with fail
  refine (K.out _).mono ?_
  rintro e u0 ⟨rfl, hb⟩
  have HB := Lib.hid hb
  clear hb K
  go_wp2_with fail
  refine (some20 _ 7 _ (by omega) (by omega)).mono ?_
  rintro e w' ⟨rfl, rfl⟩
  obtain ⟨m0, hm0⟩ : ∃ m0 : Nat, modN a0 7 = m0 := ⟨_, rfl⟩
  have hm08 : m0 < 7 := by rw [← hm0]; exact (modN_lt a0 7 (by omega)).1
  rw [hm0]
  clear hm0
  obtain ⟨n, hn⟩ : ∃ n : Nat, (97 : Int) + (m0 : Int) = (n : Int) := ⟨97 + m0, by omega⟩
  have hn8 : 97 ≤ n ∧ n ≤ 103 := by omega
  go_wp2_with fail
  clear hn hm08 hbd0
  have hst : (ByteArray.mk #[102, 114, 101, 101]) = strOf [102, 114, 101, 101] := by rfl
  have HST := Lib.hid hst
  clear hst
  obtain ⟨q, hq⟩ : ∃ q, u0.heap.size = q := ⟨_, rfl⟩
  have hwq : w.heap.size ≤ q := by have := HB.out.size; omega
  go_loopw [3, 4] (fun vv iv wr => ∃ k : Nat, k ≤ n ∧ iv = .int .i64 (k : Int) ∧ Hid (BoxL wr q vv (mkL k) ∧ Below w.heap.size w wr ∧ q ≤ wr.heap.size)) (fun _ iv _ => n - (intOf iv).toNat)
  case atStart => exact ⟨0, by omega, rfl, Lib.hid ⟨⟨[], rfl, World.ownsRow_nil _ _ _ _, fun t ht => by simp at ht⟩, HB.out, by omega⟩⟩
  case round =>
    obtain ⟨k, hk, rfl, HI⟩ := hrel
    clear HB
    by_cases hlt : k < n
    · have hkn : (k : Int) < (n : Int) := by omega
      have hw8 : IntKind.u8.wrap (k : Int) = (k : Int) := IntWalk.u8_in _ (by omega)
      obtain ⟨hbox, hbel, hqs⟩ := HI.out
      have hb1 : Below wr.heap.size wr (wr.alloc (.cells #[.int .u8 (k : Int)] 5)) := (Below.refl _ wr).alloc (Nat.le_refl _) _
      have hbox1 := hbox.below hb1
      have hd1 : (wr.alloc (.cells #[.int .u8 (k : Int)] 5)).ownsRow q 5 1 (.slice (some ⟨wr.heap.size, 0, none⟩) 1 1) ([(k : Int)] : List Int).length (([(k : Int)] : List Int).map (Value.int .u8)) :=
        ⟨rfl, .inr ⟨wr.heap.size, 1, _, rfl, hqs, World.alloc_heap_new wr _, Nat.le_refl _, by unfold maxLen; omega, rfl, rfl⟩⟩
      obtain ⟨W1, hW1⟩ : ∃ W1, wr.alloc (.cells #[.int .u8 (k : Int)] 5) = W1 := ⟨_, rfl⟩
      have hs1 : W1.heap.size = wr.heap.size + 1 := by rw [← hW1]; simp
      have hb1w : Below w.heap.size w W1 := by rw [← hW1]; exact hbel.alloc hbel.size _
      rw [hW1] at hbox1 hd1
      have hb2 : Below W1.heap.size W1 (W1.alloc (.cells #[.string (strOf [102, 114, 101, 101]), .slice (some ⟨wr.heap.size, 0, none⟩) 1 1] 42)) := (Below.refl _ W1).alloc (Nat.le_refl _) _
      have hbox2 := hbox1.below hb2
      have hd2 := own_kept (r := none) hd1 (grown_below hb2 (Nat.le_refl _)) (fun k e => by cases e)
      obtain ⟨V', w', hr, hb', hg'⟩ := hbox2.app (z := W1.heap.size) hd2 (World.alloc_heap_new W1 _) (by simp; omega) (by rw [mkL_len]; omega)
      rw [← HST.out, hs1] at hr
      obtain ⟨VA, Vc, hV⟩ := hbox.len
      rw [mkL_len] at hV
      have hb3w := hb1w.trans (hb2.mono hb1w.size)
      have hvb : ∀ j, u3.ownBlock = some j → w.heap.size ≤ j := fun j hj => by
        obtain ⟨its, _, h2, _⟩ := hbox.ex
        have := (own_lt h2 hj).1
        omega
      have hb4w := hb3w.grown hg' (by have := hb3w.size; omega) hvb
      have HN : Hid (BoxL w' q V' (mkL (k + 1)) ∧ Below w.heap.size w w' ∧ q ≤ w'.heap.size) := Lib.hid ⟨by rw [mkL_succ]; exact hb', hb4w, by have := hg'.size; simp at this; omega⟩
      subst hV
      obtain ⟨VA', Vc', hV'⟩ := hb'.len
      rw [List.length_append, mkL_len] at hV'
      subst hV'
      clear hbox hbel hqs hb1 hbox1 hd1 hb1w hb2 hbox2 hd2 hb' hg' hb3w hvb hb4w HI
      go_wp2
      go_roundw
      case rel => exact ⟨k + 1, by omega, by go_num, HN⟩
      case measure => simp [intOf]; omega
    · obtain rfl : k = n := by omega
      have hnlt : ¬ (k : Int) < (k : Int) := by omega
      clear hlt
      obtain ⟨hbox, hbel, hqs⟩ := HI.out
      have CW := Lib.hid (write_any hbox (by rw [wrB_mkL]; omega) (fun x hx => (mkL_good k (by omega) x hx).2.2.1) (by rw [mkL_len]; omega))
      have HBEL := Lib.hid hbel
      obtain ⟨VA, Vc, rfl⟩ := hbox.len
      rw [mkL_len] at CW ⊢
      clear hbox hbel HI
      go_wp2_with fail
      refine CW.out.mono ?_
      rintro e w2 ⟨v2, rfl, ho2, hb2⟩
      obtain ⟨A2, c2, rfl, hA2, _⟩ := own_any ho2
      have CR := read_any A2 _ c2 (wrB (mkL k)) w2 rfl hA2 (Lst.own ho2) (by rw [wrB_mkL]; omega) (wrB_bytes (mkL_good k (by omega)))
      rw [rdF_wr _ _ _ (by rw [mkL_len, wrB_mkL]; omega) (mkL_good k (by omega)) (by omega), mkL_len, Nat.zero_add] at CR
      have HB2 := Lib.hid (HBEL.out.trans (hb2.mono HBEL.out.size))
      by_cases h100 : k ≤ 100
      · rw [if_pos h100] at CR
        have CR := Lib.hid CR
        have h1 : ¬ (100 : Int) < (k : Int) := by omega
        clear ho2 hb2 CW
        go_wp2_with fail
        refine CR.out.mono ?_
        rintro e w3 ⟨hb3, V3, rfl, hbx⟩
        have HB3 := Lib.hid (HB2.out.trans (hb3.mono HB2.out.size))
        obtain ⟨g, c3, va, vc, rfl, hgl, a0', a1', hrow⟩ := hbx.at (i := k - 1) (by rw [mkL_len]; omega)
        have e9 : (mkL k)[k - 1]'(by rw [mkL_len]; omega) = ([102, 114, 101, 101], [((k - 1 : Nat) : Int)]) := by
          unfold mkL
          simp
        rw [mkL_len]
        rw [e9] at a1' hrow
        simp only [List.length_cons, List.length_nil] at a1' hrow
        obtain ⟨b9, o9, e10, hlt9, hc9⟩ := Lst.own hrow 0 (.int .u8 ((k - 1 : Nat) : Int)) rfl
        subst e10
        have hk1 : (k : Int) - 1 = ((k - 1 : Nat) : Int) := by omega
        obtain ⟨km, hkm⟩ : ∃ km, k - 1 = km := ⟨_, rfl⟩
        rw [hkm] at a1' hk1 hc9
        rw [Nat.add_zero] at hc9
        have hkl : km < k := by omega
        have hkI : (km : Int) < (k : Int) := by omega
        have hw8 : IntKind.u8.wrap (km : Int) = (km : Int) := IntWalk.u8_in _ (by omega)
        clear hbx a0' hrow hb3 CR e9 hgl hlt9 hkm
        go_wp2
        go_ret
        exact ⟨rfl, HB3.out⟩
      · rw [if_neg h100] at CR
        have CR := Lib.hid CR
        have h1 : (100 : Int) < (k : Int) := by omega
        clear ho2 hb2 CW
        go_wp2_with fail
        refine CR.out.mono ?_
        rintro e w3 ⟨hb3, rfl⟩
        have HB3 := Lib.hid (HB2.out.trans (hb3.mono HB2.out.size))
        clear hb3 CR
        go_wp2
        go_ret
        exact ⟨rfl, HB3.out⟩
end Go.Proofs.Ytfjkfajhfnmjjaa
