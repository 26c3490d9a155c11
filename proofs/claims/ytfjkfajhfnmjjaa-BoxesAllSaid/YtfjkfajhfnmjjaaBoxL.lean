/- Package boxes: BoxesLong, walked. -/
import Derived.Test.YtfjkfajhfnmjjaaBoxK
import Derived.Deep.RegionWith
import Derived.Deep.RegionLaw
import Derived.Deep.CutBlock
import Derived.Deep.CutRange
set_option linter.unusedVariables false
set_option linter.unusedSimpArgs false
namespace Go.Proofs.Ytfjkfajhfnmjjaa
open Go.RowKit Go.Shelf
attribute [local go_sem ↓] appSem_eq
theorem app_lst {w : World} {base n m c B : Nat} {v : Value} {A : Option Addr} {X L : List Int} (hown : w.ownsRow base 5 1 v n (X.map (Value.int .u8))) (hl : L.length = m) (hA : A = none → m = 0 ∧ c = 0) (h : Lst w B A (L.map (Value.int .u8))) (hb : base ≤ w.heap.size) (hlen : n + m ≤ 1000000) :
    ∃ v' w', (appSem #[24, 24] 24 #[v, .slice A m c]).run Try.prog w = .ok v' w' ∧ w'.ownsRow base 5 1 v' (n + m) ((X ++ L).map (Value.int .u8)) ∧ w.grownBy w' v.ownBlock := by
  obtain ⟨i0, hi, hz0, hz1, hz2⟩ := info_parts Try.info5
  cases A with
  | none =>
    obtain ⟨rfl, rfl⟩ := hA rfl
    obtain rfl : L = [] := List.eq_nil_of_length_eq_zero hl
    have hrun := run_append_owned_none (P := Try.prog) (w := w) base 24 24 5 i0 1 Try.underlying24 hi v n _ hown
    exact ⟨v, w, hrun, by simpa using hown, World.grownBy.refl _ _⟩
  | some a =>
    obtain ⟨v', w', hr, hown', hg, _, hat⟩ := run_append_own_at (P := Try.prog) w base 24 24 5 i0 (.int .u8 0) 1 1 Try.underlying24 hi hz0 hz1 hz2 rfl (by decide) v n _ hown a m c (L.map (Value.int .u8)) (by rw [List.length_map, hl]; simp)
      (fun j u hu => by
        obtain ⟨b, o, e, _, hc⟩ := h j u hu
        cases e
        show w.cell? (if j = 0 then _ else _) = _
        split
        · rename_i h0; rw [h0] at hc; simpa using hc
        · exact hc) (ints_oneCell .u8 L) (by unfold maxLen; omega) (by omega) hb
    exact ⟨v', w', hr, by rw [List.map_append]; exact hown', hg⟩
theorem row_u8 {w : World} {a : Option Addr} {len cap : Nat} {zs : List Int} (h : IsRow .u8 w a len cap zs) : ∀ x ∈ zs.take len, 0 ≤ x ∧ x ≤ 255 := by
  rcases h with ⟨rfl, rfl, rfl, rfl⟩ | ⟨x, rfl, hl, hm, hz, hc, hw⟩
  · simp
  · intro y hy
    have := hw y (List.mem_of_mem_take hy)
    have hmin : IntKind.u8.min = 0 := rfl
    have hmax : IntKind.u8.max = 255 := rfl
    simp only [Lit.wf, Bool.and_eq_true, decide_eq_true_eq] at this
    omega
theorem num_b (b : Int) (h : 0 ≤ b ∧ b ≤ 255) : num [0, 0, 0, b] = b := by
  have : numL 0 [0, 0, 0, b] = b := by show 0 * 256 % 18446744073709551616 + b = b; omega
  unfold num
  rw [this]
  exact IntWalk.wrap64_in _ (by omega)
theorem rd_long0 (d : List Int) (hl : d.length ≤ 1000) : rdF (([0, 0, 0, 0, 97, 98, 99, 100] ++ d).length + 1) 0 ([0, 0, 0, 0, 97, 98, 99, 100] ++ d) = .good [([97, 98, 99, 100], d)] := by
  have hn : nxt ([0, 0, 0, 0, 97, 98, 99, 100] ++ d) = .box [97, 98, 99, 100] d [] := by
    unfold nxt
    rw [if_neg (by simp), show num (List.take 4 ([0, 0, 0, 0, 97, 98, 99, 100] ++ d)) = 0 from num_b 0 (by omega), if_pos rfl]
    show nxtB (([0, 0, 0, 0, 97, 98, 99, 100] ++ d : List Int).length : Int) 8 [97, 98, 99, 100] d = _
    rw [show (([0, 0, 0, 0, 97, 98, 99, 100] ++ d : List Int).length : Int) = 8 + (d.length : Int) by rw [List.length_append]; simp]
    unfold nxtB
    rw [if_neg (by omega), if_neg (by omega), if_neg (by omega), show (8 + (d.length : Int) - (8 : Nat)).toNat = d.length by omega, List.take_length, List.drop_length]
  rw [rdF, if_neg (by simp), hn]
  simp only
  rw [if_neg (by omega)]
  obtain ⟨k, hk⟩ : ∃ k, ([0, 0, 0, 0, 97, 98, 99, 100] ++ d : List Int).length = k + 1 := ⟨7 + d.length, by simp; omega⟩
  rw [hk]
  rfl
theorem rd_long1 (d : List Int) (hl : d.length ≤ 200) : rdF (([0, 0, 0, 1, 97, 98, 99, 100] ++ [0, 0, 0, 0, 0, 0, 0, (d.length : Int) + 16] ++ d).length + 1) 0 ([0, 0, 0, 1, 97, 98, 99, 100] ++ [0, 0, 0, 0, 0, 0, 0, (d.length : Int) + 16] ++ d) = .good [([97, 98, 99, 100], d)] := by
  have hn : nxt ([0, 0, 0, 1, 97, 98, 99, 100] ++ [0, 0, 0, 0, 0, 0, 0, (d.length : Int) + 16] ++ d) = .box [97, 98, 99, 100] d [] := by
    have hx : num [0, 0, 0, 0, 0, 0, 0, (d.length : Int) + 16] = (d.length : Int) + 16 := by
      have : numL 0 [0, 0, 0, 0, 0, 0, 0, (d.length : Int) + 16] = (d.length : Int) + 16 := by
        show 0 * 256 % 18446744073709551616 + ((d.length : Int) + 16) = _
        omega
      unfold num
      rw [this]
      exact IntWalk.wrap64_in _ (by omega)
    unfold nxt
    rw [if_neg (by simp), show num (List.take 4 ([0, 0, 0, 1, 97, 98, 99, 100] ++ [0, 0, 0, 0, 0, 0, 0, (d.length : Int) + 16] ++ d)) = 1 from num_b 1 (by omega), if_neg (by omega), if_pos rfl, if_neg (by simp)]
    show nxtB (num [0, 0, 0, 0, 0, 0, 0, (d.length : Int) + 16]) 16 [97, 98, 99, 100] d = _
    rw [hx]
    unfold nxtB
    rw [if_neg (by omega), if_neg (by omega), if_neg (by omega), show ((d.length : Int) + 16 - (16 : Nat)).toNat = d.length by omega, List.take_length, List.drop_length]
  rw [rdF, if_neg (by simp), hn]
  simp only
  rw [if_neg (by omega)]
  obtain ⟨k, hk⟩ : ∃ k, ([0, 0, 0, 1, 97, 98, 99, 100] ++ [0, 0, 0, 0, 0, 0, 0, (d.length : Int) + 16] ++ d : List Int).length = k + 1 := ⟨15 + d.length, by simp; omega⟩
  rw [hk]
  rfl
set_option maxRecDepth 100000 in
set_option maxHeartbeats 4000000 in
theorem walk_boxesLong (a0 : Option Addr) (len0 cap0 : Nat) (z0 : List Int) (a1 : Int) (w : World) (w0 : IsRow .u8 w a0 len0 cap0 z0) (w1 : (Lit.int .i64 a1).wf = true) :
    Calls Try.prog 4 #[.slice a0 len0 cap0, .int .i64 a1] w fun e w' => e = .returned (.bool true) ∧ Below w.heap.size w w' := by
  have hbd0 := bd_i64 w1
  have hl := lst_of_row w0
  obtain ⟨hlen, hlc, hcm, hnil⟩ := row_len w0
  have hb8 := row_u8 w0
  clear w0 w1
  generalize hz : z0.take len0 = l at *
  clear hz
  unfold maxLen at hcm
  have HL := Lib.hid hl
  have HLen := Lib.hid hlen
  have HNil := Lib.hid hnil
  have HB8 := Lib.hid hb8
  clear hl hlen hnil hb8
  have K := Lib.hid (fun u => known20 u)
  by_cases hc : len0 ≤ 200
  · have h2 : ¬ (200 : Int) < (len0 : Int) := by omega
    go_enter Try.func4, Try.ntmps4
    go_wp2_with fail
    refine (K.out _).mono ?_
    rintro e u0 ⟨rfl, hb⟩
    have HB := Lib.hid hb
    clear hb K
    go_wp2_with fail
    refine (some20 _ 2 _ (by omega) (by omega)).mono ?_
    rintro e w' ⟨rfl, rfl⟩
    obtain ⟨m0, hm0⟩ : ∃ m0 : Nat, modN a1 2 = m0 := ⟨_, rfl⟩
    have hm08 : m0 < 2 := by rw [← hm0]; exact (modN_lt a1 2 (by omega)).1
    rw [hm0]
    clear hm0 hbd0
    have hz1 := World.alloc_heap_new u0 (Obj.cells #[.int .u8 0, .int .u8 0, .int .u8 0, .int .u8 0, .int .u8 97, .int .u8 98, .int .u8 99, .int .u8 100] 5)
    have hb1 : Below w.heap.size w (u0.alloc (Obj.cells #[.int .u8 0, .int .u8 0, .int .u8 0, .int .u8 0, .int .u8 97, .int .u8 98, .int .u8 99, .int .u8 100] 5)) := HB.out.alloc HB.out.size _
    have ho1 : (u0.alloc (Obj.cells #[.int .u8 0, .int .u8 0, .int .u8 0, .int .u8 0, .int .u8 97, .int .u8 98, .int .u8 99, .int .u8 100] 5)).ownsRow w.heap.size 5 1 (.slice (some ⟨u0.heap.size, 0, none⟩) 8 8) 8 (([0, 0, 0, 0, 97, 98, 99, 100] : List Int).map (Value.int .u8)) :=
      ⟨rfl, .inr ⟨u0.heap.size, 8, _, rfl, HB.out.size, hz1, Nat.le_refl _, by unfold maxLen; omega, rfl, rfl⟩⟩
    obtain ⟨W1, hW1⟩ : ∃ W1, u0.alloc (Obj.cells #[.int .u8 0, .int .u8 0, .int .u8 0, .int .u8 0, .int .u8 97, .int .u8 98, .int .u8 99, .int .u8 100] 5) = W1 := ⟨_, rfl⟩
    rw [hW1] at hz1 hb1 ho1 ⊢
    clear hW1
    have rest : ∀ (v : Value) (W : World) (X : List Int), W.ownsRow w.heap.size 5 1 v X.length (X.map (Value.int .u8)) → Below w.heap.size w W → X.length ≤ 300 → (∀ x ∈ X, 0 ≤ x ∧ x ≤ 255) → rdF ((X ++ l).length + 1) 0 (X ++ l) = .good [([97, 98, 99, 100], l)] →
        ∃ v' w', (appSem #[24, 24] 24 #[v, .slice a0 len0 cap0]).run Try.prog W = .ok v' w' ∧ Below w.heap.size w w' ∧ Calls Try.prog 11 #[v'] w' fun e w'' => Below w.heap.size w w'' ∧ ∃ V, e = .returned (.tuple #[V, .int .i64 0]) ∧ BoxL w'' w'.heap.size V [([97, 98, 99, 100], l)] := fun v W X ho hb hx hX hr => by
      have hlL := HLen.out
      obtain ⟨v', w', r1, o1, g1⟩ := app_lst ho HLen.out HNil.out (HL.out.below hb) hb.size (by omega)
      have hb' := hb.grown g1 hb.size (fun k e => (own_lt ho e).1)
      obtain ⟨A', c', rfl, hA', _⟩ := own_any o1
      refine ⟨_, w', r1, hb', ?_⟩
      have hXl : (X ++ l).length = X.length + len0 := by rw [List.length_append, hlL]
      have CR := read_any A' _ c' (X ++ l) w' hXl hA' (Lst.own o1) (by omega) (fun x hx => by
        rcases List.mem_append.1 hx with h | h
        · exact hX x h
        · exact HB8.out x h)
      rw [hr] at CR
      exact CR.mono fun e w'' ⟨h1, h2⟩ => ⟨hb'.trans (h1.mono hb'.size), h2⟩
    have hLl := HLen.out
    have D0 := Lib.hid (rd_long0 l (by omega))
    have D1 := Lib.hid (rd_long1 l (by omega))
    have RST := Lib.hid rest
    clear rest hLl
    rcases (by omega : m0 = 0 ∨ m0 = 1) with rfl | rfl
    · obtain ⟨v2, w2, r2, hb2, CR⟩ := RST.out _ W1 [0, 0, 0, 0, 97, 98, 99, 100] ho1 hb1 (by simp) (by decide) D0.out
      have CR := Lib.hid CR
      clear hb1 ho1 hb2 D1
      go_wp2_with fail
      refine CR.out.mono ?_
      rintro e w3 ⟨hb3, V3, rfl, hbx⟩
      have HB3 := Lib.hid hb3
      obtain ⟨g, c3, va, vc, rfl, hgl, b0, b1, hrow⟩ := hbx.at (i := 0) (by simp)
      simp only [List.length_cons, List.length_nil, List.getElem_cons_zero, Nat.zero_mul, Nat.zero_add] at b0 b1 hrow ⊢
      have HST := Lib.hid (show (ByteArray.mk #[97, 98, 99, 100]) = strOf [97, 98, 99, 100] from rfl)
      rw [← HST.out] at b0
      rw [HLen.out] at b1 hrow
      have cv1 : ∀ k, (convert 24 9 (.slice va len0 vc)).run Try.prog (w3.drewN k) = .ok (.string (strOf l)) (w3.drewN k) := fun k => by
        have hrk : (w3.drewN k).ownsRow w2.heap.size 5 1 (.slice va len0 vc) len0 (l.map (Value.int .u8)) := own_kept (r := none) hrow (grown_below (below_drewN (Below.refl _ w3) k) (Nat.le_refl _)) (fun k e => by cases e)
        exact conv_str (w := w3.drewN k) HLen.out (Lst.own hrk)
      have cv2 : ∀ k, (convert 24 9 (.slice a0 len0 cap0)).run Try.prog (w3.drewN k) = .ok (.string (strOf l)) (w3.drewN k) := fun k =>
        conv_str (w := w3.drewN k) HLen.out (HL.out.below (below_drewN hb3 k))
      generalize strOf l = S at *
      clear hbx hrow hb3 CR hgl hz1 RST
      go_wp2_with fail
      go_quiet (fail)
      have HB4 := Lib.hid (below_drewN HB3.out nq)
      clear cv1 cv2 b0 b1 HB3
      go_wp2
      go_ret
      exact ⟨rfl, HB4.out⟩
    · obtain ⟨N, hN⟩ : ∃ N : Nat, (len0 : Int) + 16 = (N : Int) := ⟨len0 + 16, by omega⟩
      have hNb : N ≤ 216 := by omega
      have y3 := blk_cell hz1 3
      have f3 := blk_frozen hz1 3
      simp at y3
      have S := ho1.stored 3 (.int .u8 1)
      have ho2 := S.1
      have hb2 : Below w.heap.size w (W1.setCell ⟨u0.heap.size, 3, none⟩ (.int .u8 1)) := hb1.setCell (p := ⟨u0.heap.size, 3, none⟩) HB.out.size _
      have HX := Lib.hid (And.intro ho2 hb2)
      clear ho2 hb2 S ho1 hb1
      have hdv : (N : Int) / 256 = 0 := by omega
      obtain ⟨WS, hWS⟩ : ∃ WS, W1.setCell ⟨u0.heap.size, 3, none⟩ (.int .u8 1) = WS := ⟨_, rfl⟩
      have hsz : WS.heap.size = W1.heap.size := by rw [← hWS]; simp [World.setCell]
      rw [hWS] at HX
      obtain ⟨ho2, hb2⟩ := HX.out
      have hzL := World.alloc_heap_new WS (Obj.cells #[.int .u8 0, .int .u8 0, .int .u8 0, .int .u8 0, .int .u8 0, .int .u8 0, .int .u8 0, .int .u8 (N : Int)] 5)
      have hoL : (WS.alloc (Obj.cells #[.int .u8 0, .int .u8 0, .int .u8 0, .int .u8 0, .int .u8 0, .int .u8 0, .int .u8 0, .int .u8 (N : Int)] 5)).ownsRow w.heap.size 5 1 (.slice (some ⟨WS.heap.size, 0, none⟩) 8 8) 8 (([0, 0, 0, 0, 0, 0, 0, (N : Int)] : List Int).map (Value.int .u8)) :=
        ⟨rfl, .inr ⟨WS.heap.size, 8, _, rfl, hb2.size, hzL, Nat.le_refl _, by unfold maxLen; omega, rfl, rfl⟩⟩
      have ho3 : (WS.alloc (Obj.cells #[.int .u8 0, .int .u8 0, .int .u8 0, .int .u8 0, .int .u8 0, .int .u8 0, .int .u8 0, .int .u8 (N : Int)] 5)).ownsRow w.heap.size 5 1 (.slice (some ⟨u0.heap.size, 0, none⟩) 8 8) 8 (([0, 0, 0, 1, 97, 98, 99, 100] : List Int).map (Value.int .u8)) := ho2.alloc _
      have hb3 := hb2.alloc hb2.size (Obj.cells #[.int .u8 0, .int .u8 0, .int .u8 0, .int .u8 0, .int .u8 0, .int .u8 0, .int .u8 0, .int .u8 (N : Int)] 5)
      obtain ⟨v4, w4, r4, o4, g4⟩ := app_bytes ho3 hoL hb3.size (by omega)
      have hb4 := hb3.grown g4 hb3.size (fun k e => (own_lt ho3 e).1)
      have D1' := D1.out
      rw [HLen.out, hN] at D1'
      obtain ⟨v2, w2, r2, hb5, CR⟩ := RST.out v4 w4 _ o4 hb4 (by simp) (fun x hx => by
        simp at hx
        omega) D1'
      have CR := Lib.hid CR
      clear hzL hoL ho3 hb3 ho2 hb2 o4 g4 hb4 D1' D1 D0 hb5 HX hsz
      go_wp2_with fail
      refine CR.out.mono ?_
      rintro e w3 ⟨hb3, V3, rfl, hbx⟩
      have HB3 := Lib.hid hb3
      obtain ⟨g, c3, va, vc, rfl, hgl, b0, b1, hrow⟩ := hbx.at (i := 0) (by simp)
      simp only [List.length_cons, List.length_nil, List.getElem_cons_zero, Nat.zero_mul, Nat.zero_add] at b0 b1 hrow ⊢
      have HST := Lib.hid (show (ByteArray.mk #[97, 98, 99, 100]) = strOf [97, 98, 99, 100] from rfl)
      rw [← HST.out] at b0
      rw [HLen.out] at b1 hrow
      have cv1 : ∀ k, (convert 24 9 (.slice va len0 vc)).run Try.prog (w3.drewN k) = .ok (.string (strOf l)) (w3.drewN k) := fun k => by
        have hrk : (w3.drewN k).ownsRow w2.heap.size 5 1 (.slice va len0 vc) len0 (l.map (Value.int .u8)) := own_kept (r := none) hrow (grown_below (below_drewN (Below.refl _ w3) k) (Nat.le_refl _)) (fun k e => by cases e)
        exact conv_str (w := w3.drewN k) HLen.out (Lst.own hrk)
      have cv2 : ∀ k, (convert 24 9 (.slice a0 len0 cap0)).run Try.prog (w3.drewN k) = .ok (.string (strOf l)) (w3.drewN k) := fun k =>
        conv_str (w := w3.drewN k) HLen.out (HL.out.below (below_drewN hb3 k))
      generalize strOf l = S at *
      clear hbx hrow hb3 CR hgl RST
      go_wp2_with fail
      go_quiet (fail)
      have HB4 := Lib.hid (below_drewN HB3.out nq)
      clear cv1 cv2 b0 b1 HB3
      go_wp2
      go_ret
      exact ⟨rfl, HB4.out⟩
  · have h2 : (200 : Int) < (len0 : Int) := by omega
    go_enter Try.func4, Try.ntmps4
    go_wp2_with fail
    refine (K.out _).mono ?_
    rintro e u0 ⟨rfl, hb⟩
    have HB := Lib.hid hb
    clear hb K
    go_wp2
    go_ret
    exact ⟨rfl, HB.out⟩
end Go.Proofs.Ytfjkfajhfnmjjaa
