/- Draw of the reference. -/
import Derived.Test.YtjmkkjgchgcleaaSkRno
import Derived.Test.YtjmkkjgchgcleaaSkRs
set_option linter.unusedVariables false
namespace Go.Proofs.Ytjmkkjgchgcleaa
open Go.RowKit

attribute [local go_sem ↓] appSem_eq

theorem set2 {W : World} {p : Nat} {a b c d e v : Value} {t : TypeId} (h : W.heap[p]? = some (.cells #[a, b, c, d, e] t (0, 0))) : (W.setCell ⟨p, 2, none⟩ v).heap[p]? = some (.cells #[a, b, v, d, e] t (0, 0)) := by
  obtain ⟨hlt, hk⟩ := Array.getElem?_eq_some_iff.1 h
  show (W.heap.modify p _)[p]? = _
  rw [Array.getElem?_eq_getElem (by rw [Array.size_modify]; exact hlt), Array.getElem_modify_self, hk]
  rfl
theorem set3 {W : World} {p : Nat} {a b c d e v : Value} {t : TypeId} (h : W.heap[p]? = some (.cells #[a, b, c, d, e] t (0, 0))) : (W.setCell ⟨p, 3, none⟩ v).heap[p]? = some (.cells #[a, b, c, v, e] t (0, 0)) := by
  obtain ⟨hlt, hk⟩ := Array.getElem?_eq_some_iff.1 h
  show (W.heap.modify p _)[p]? = _
  rw [Array.getElem?_eq_getElem (by rw [Array.size_modify]; exact hlt), Array.getElem_modify_self, hk]
  rfl

theorem set_c {W : World} {p i : Nat} {cs : Array Value} {v : Value} {t : TypeId} (h : W.heap[p]? = some (.cells cs t (0, 0))) : (W.setCell ⟨p, i, none⟩ v).heap[p]? = some (.cells (cs.setIfInBounds i v) t (0, 0)) := by
  obtain ⟨hlt, hk⟩ := Array.getElem?_eq_some_iff.1 h
  show (W.heap.modify p _)[p]? = _
  rw [Array.getElem?_eq_getElem (by rw [Array.size_modify]; exact hlt), Array.getElem_modify_self, hk]
  rfl
theorem set_rect {W : World} {p : Nat} {a b c d a' b' c' d' : Value} {t : TypeId} (h : W.heap[p]? = some (.cells #[a, b, c, d] t (0, 0))) : ((((W.setCell ⟨p, 0, none⟩ a').setCell ⟨p, 1, none⟩ b').setCell ⟨p, 2, none⟩ c').setCell ⟨p, 3, none⟩ d').heap[p]? = some (.cells #[a', b', c', d'] t (0, 0)) := by
  have := set_c (i := 3) (v := d') (set_c (i := 2) (v := c') (set_c (i := 1) (v := b') (set_c (i := 0) (v := a') h)))
  exact this
/-- A component whose samples are being laid. -/
structure Dat (bz br : Nat) (d s ox oy x y kind : Int) (k wd : Nat) (wr W : World) (Dv : Value) (n : Nat) : Prop where
  comp : W.heap[bz]? = some (.cells #[.int .i64 d, .bool false, .int .i64 s, .int .i64 s, Dv] 41 (0, 0))
  rect : W.heap[br]? = some (.cells #[.int .i64 (ceilF ox s), .int .i64 (ceilF oy s), .int .i64 (ceilF x s), .int .i64 (ceilF y s)] 47 (0, 0))
  own : W.ownsRow (bz + 1) 3 1 Dv n ((gridP (smpF kind ((2 : Int) ^ d.toNat) k) wd n).map (Value.int .i64))
  bel : Below bz wr W
  lt : bz < br
/-- What the append of a sample leaves. -/
def DApp (N : Nat) (U : World) (Dv : Value) (n : Nat) (xs : List Value) (v x : Value) (W3 : World) : Prop :=
  (∃ g cap, v = .slice (some ⟨g, 0, none⟩) (n + 1) cap) ∧ W3.ownsRow N 3 1 v (n + 1) (xs ++ [x]) ∧ (U.drew.alloc (.cells #[x] 3)).grownBy W3 Dv.ownBlock
theorem app_int {N : Nat} {U : World} {Dv : Value} {n : Nat} {xs : List Value} (x : Int) (h : U.ownsRow N 3 1 Dv n xs) (hN : N ≤ U.heap.size) (hn : n ≤ 100000) :
    ∃ v W3, (appSem #[39, 39] 39 #[Dv, .slice (some ⟨U.heap.size, 0, none⟩) 1 1]).run Try.prog (U.drew.alloc (.cells #[.int .i64 x] 3)) = .ok v W3 ∧ DApp N U Dv n xs v (.int .i64 x) W3 := by
  obtain ⟨i0, e1, z0, z1, z2⟩ := info_parts Try.info3
  have hU : U.drew.ownsRow N 3 1 Dv n xs := h
  obtain ⟨v', w', hr, hown, hgrow, _, _⟩ := run_append_own_at (P := Try.prog) (U.drew.alloc (.cells #[.int .i64 x] 3)) N 39 39 3 i0 (.int .i64 0) 1 8 Try.underlying39 e1 z0 z1 z2 rfl (by decide) Dv n _ (hU.alloc _) ⟨U.heap.size, 0, none⟩ 1 1 [.int .i64 x] rfl
    (cell_one_new U.drew _ _) (by simp [Value.oneCell']) (by unfold maxLen; omega) (by omega) (by simp; omega)
  obtain ⟨g, c, rfl⟩ := ownsRow_succ hown
  exact ⟨_, w', hr, ⟨g, c, rfl⟩, hown, hgrow⟩
theorem dapp_old {N : Nat} {U : World} {Dv : Value} {n : Nat} {xs : List Value} {v x : Value} {W3 : World} (h : DApp N U Dv n xs v x W3) {ys : List Value} (ho : U.ownsRow N 3 1 Dv n ys) {p : Nat} {c : Array Value} {t : TypeId} {fr : Nat × Nat} (hp : U.heap[p]? = some (.cells c t fr)) (ht : t ≠ 3) : W3.heap[p]? = some (.cells c t fr) := by
  have hlt : p < U.drew.heap.size := (Array.getElem?_eq_some_iff.1 hp).1
  exact (h.2.2.block p (by simp only [World.size_alloc]; omega) (fun e => row_off ho hp ht p e.symm rfl)).trans ((Below.heap_alloc U.drew _ p hlt).trans hp)
theorem dapp_at {N bz : Nat} {U : World} {Dv : Value} {n : Nat} {xs ys : List Value} {v x a b c d : Value} {W3 : World} (h : DApp N U Dv n xs v x W3) (hz : U.heap[bz]? = some (.cells #[a, b, c, d, Dv] 41 (0, 0))) (ho : U.ownsRow N 3 1 Dv n ys) :
    W3.cell? ⟨bz, 4, none⟩ = some Dv ∧ W3.frozen? ⟨bz, 4, none⟩ = false := by
  have h1 := dapp_old h ho hz (by decide)
  exact ⟨by simp [World.cell?, h1], by simp [World.frozen?, h1]⟩
theorem dat_step {bz br : Nat} {d s ox oy x y kind : Int} {k wd i j : Nat} {wo U W3 : World} {Dv v : Value} {z : Int} (h : Dat bz br d s ox oy x y kind k wd wo U Dv (j * wd + i)) (hbz : bz ≤ wo.heap.size) (hi : i < wd)
    (hA : DApp (bz + 1) U Dv (j * wd + i) ((gridP (smpF kind ((2 : Int) ^ d.toNat) k) wd (j * wd + i)).map (Value.int .i64)) v (.int .i64 z) W3) (hz : z = smpF kind ((2 : Int) ^ d.toNat) k i j) :
    Dat bz br d s ox oy x y kind k wd wo (W3.setCell ⟨bz, 4, none⟩ v) v (j * wd + (i + 1)) := by
  have h1 := dapp_old hA h.own h.comp (by decide)
  have h2 := dapp_old hA h.own h.rect (by decide)
  have hlt := h.lt
  obtain ⟨⟨g, c, rfl⟩, hown, hgr⟩ := hA
  have hUb : bz < U.heap.size := (Array.getElem?_eq_some_iff.1 h.comp).1
  refine ⟨set4 h1, (Below.heap_setCell _ _ _ br (by show br ≠ bz; omega)).trans h2, ?_, ?_, h.lt⟩
  · rw [gridP_succ _ hi, List.map_append, List.map_singleton, ← hz]
    exact ownsRow_keep hown (by simp [World.setCell]) fun q hq => Below.heap_setCell _ _ _ q (row_off hown h1 (by decide) q hq)
  · exact (((below_drewN h.bel 1).alloc (o := .cells #[.int .i64 z] 3) (by show bz ≤ U.heap.size; omega)).grown hgr (by show bz ≤ (U.drew.alloc _).heap.size; simp only [World.size_alloc]; show bz ≤ U.heap.size + 1; omega) (fun q e => by have := (own_lt h.own e).1; omega)).setCell (p := ⟨bz, 4, none⟩) (Nat.le_refl _) _

set_option maxRecDepth 100000 in
set_option maxHeartbeats 16000000 in
theorem rdraw_any (x y ox oy n d kind : Int) (w : World) (h0 : 0 ≤ ox ∧ ox < x ∧ x ≤ 64) (h1 : 0 ≤ oy ∧ oy < y ∧ y ≤ 64) (hn : 1 ≤ n ∧ n ≤ 4) (hd : 1 ≤ d ∧ d ≤ 16) (hk : 0 ≤ kind ∧ kind ≤ 4) :
    Calls Try.prog 10 #[.int .i64 x, .int .i64 y, .int .i64 ox, .int .i64 oy, .int .i64 n, .int .i64 d, .int .i64 kind] w fun e w' => ∃ Cv CS,
      e = .returned (.tuple #[.agg #[.int .i64 x, .int .i64 y, .int .i64 ox, .int .i64 oy, Cv], .int .i64 0]) ∧ Pic w.heap.size w w' Cv n.toNat CS x y ox oy d kind := by
  have hmo : Try.prog.follows .mixedOrders = true := by kernel_rfl
  have t1 : decide (ox < 0) = false := by simp; omega
  have t2 : decide (oy < 0) = false := by simp; omega
  have t3 : decide (x ≤ ox) = false := by simp; omega
  have t4 : decide (y ≤ oy) = false := by simp; omega
  have t5 : decide (64 < x) = false := by simp; omega
  have t6 : decide (64 < y) = false := by simp; omega
  have t7 : decide (n < 1) = false := by simp; omega
  have t8 : decide (4 < n) = false := by simp; omega
  have t9 : decide (d < 1) = false := by simp; omega
  have t10 : decide (16 < d) = false := by simp; omega
  have t11 : decide (kind < 0) = false := by simp; omega
  have t12 : decide (4 < kind) = false := by simp; omega
  go_enter Try.func10, Try.ntmps10
  go_wp2
  obtain ⟨W0, hW0⟩ : ∃ W0, (w.alloc (Obj.cells #[.int .i64 0, .int .i64 0, .int .i64 0, .int .i64 0, .slice none 0 0] 25)).alloc (Obj.cells #[.int .i64 x, .int .i64 y, .int .i64 ox, .int .i64 oy, .slice none 0 0] 25) = W0 := ⟨_, rfl⟩
  have hB0 : Below w.heap.size w W0 := by rw [← hW0]; exact ((Below.refl _ w).alloc (Nat.le_refl _) _).alloc (by simp) _
  have b0 : W0.heap[w.heap.size]? = some (.cells #[.int .i64 0, .int .i64 0, .int .i64 0, .int .i64 0, .slice none 0 0] 25 (0, 0)) := by
    rw [← hW0, Below.heap_alloc _ _ _ (by simp)]; exact World.alloc_heap_new w _
  have b1 : W0.heap[w.heap.size + 1]? = some (.cells #[.int .i64 x, .int .i64 y, .int .i64 ox, .int .i64 oy, .slice none 0 0] 25 (0, 0)) := by
    rw [← hW0, show w.heap.size + 1 = (w.alloc (Obj.cells #[.int .i64 0, .int .i64 0, .int .i64 0, .int .i64 0, .slice none 0 0] 25)).heap.size by simp]; exact World.alloc_heap_new _ _
  rw [hW0]
  have P0 : Pic w.heap.size w W0 (.slice none 0 0) 0 [] x y ox oy d kind := ⟨World.ownsRow_nil _ _ _ _, rfl, fun i cs h => by simp at h, hB0⟩
  have H0 := Lib.hid (And.intro P0 (And.intro b0 b1))
  have HT := Lib.hid (And.intro t1 (And.intro t2 (And.intro t3 (And.intro t4 (And.intro t5 (And.intro t6 t7))))))
  clear hW0 hB0 b0 b1 P0 t1 t2 t3 t4 t5 t6 t7 t8 t9 t10 t11 t12
  go_loopw [17] (fun kv wr => ∃ (k : Nat) (Cv : Value) (CS : List (List Value)), (k : Int) ≤ n ∧ kv = .int .i64 k ∧ Pic w.heap.size w wr Cv k CS x y ox oy d kind ∧ wr.heap[w.heap.size]? = some (.cells #[.int .i64 0, .int .i64 0, .int .i64 0, .int .i64 0, .slice none 0 0] 25 (0, 0)) ∧ wr.heap[w.heap.size + 1]? = some (.cells #[.int .i64 x, .int .i64 y, .int .i64 ox, .int .i64 oy, Cv] 25 (0, 0)))
    (fun kv _ => (n - intOf kv).toNat)
  case atStart => exact ⟨0, _, [], by omega, rfl, H0.out.1, H0.out.2.1, H0.out.2.2⟩
  case round =>
    obtain ⟨k, Cv, CS, hkn, rfl, hP, hb0, hb1⟩ := hrel
    have HP := Lib.hid (And.intro hP (And.intro hb0 hb1))
    have hsz : w.heap.size + 1 < wr.heap.size := (Array.getElem?_eq_some_iff.1 hb1).1
    clear hP hb0 hb1
    by_cases ck : (k : Int) < n
    · have hsb := step_bd kind k
      have hst : Hid (stepF kind k = if kind = 4 then 1 + (k : Int) % 2 else 1) := Lib.hid rfl
      generalize hs : stepF kind k = s at *
      have HS := Lib.hid hs
      clear hs
      obtain ⟨bz, hbz⟩ : ∃ bz, wr.heap.size = bz := ⟨_, rfl⟩
      have HK2 := Lib.hid (show (k : Int).tmod 2 = (k : Int) % 2 from Int.tmod_eq_emod_of_nonneg (by omega))
      go_upto_region 8 with fail
      go_cut [89] from 83 to 89 (fun v wx => v = .bool (decide (s = 2)) ∧ wr.alloc (Obj.cells #[.int .i64 d, .bool false, .int .i64 1, .int .i64 1, .slice none 0 0] 41) = wx)
      case first =>
        by_cases c4 : kind = 4
        · by_cases c2 : (k : Int) % 2 = 1
          · have e := hst.out
            rw [if_pos c4, c2] at e
            have E := Lib.hid (show s = 2 by omega)
            have ht : ((k : Int) % 2 == 1) = true := by rw [c2]; rfl
            have ht2 : ((k : Int).tmod 2 == 1) = true := by rw [HK2.out, c2]; rfl
            subst c4
            clear e
            go_wp2_with fail
            go_meet
            exact ⟨by rw [E.out]; rfl, rfl⟩
          · have e := hst.out
            have c3 : (k : Int) % 2 = 0 := by omega
            rw [if_pos c4, c3] at e
            have E := Lib.hid (show s = 1 from e)
            have ht : ((k : Int) % 2 == 1) = false := by rw [c3]; rfl
            have ht2 : ((k : Int).tmod 2 == 1) = false := by rw [HK2.out, c3]; rfl
            subst c4
            clear e
            go_wp2_with fail
            go_meet
            exact ⟨by rw [E.out]; rfl, rfl⟩
        · have e := hst.out
          rw [if_neg c4] at e
          have E := Lib.hid e
          have c5 : (kind == 4) = false := by simpa using c4
          clear e c4
          go_wp2_with fail
          go_meet
          exact ⟨by rw [E.out]; rfl, rfl⟩
      case rest =>
       obtain ⟨rfl, hwx⟩ := hcut
       subst hwx
       go_upto_if 89 with fail
       go_cut [18] from 90 to 91 (fun v wx => v = .pointer (some ⟨bz, 0, none⟩) ∧ wx.heap[bz]? = some (.cells #[.int .i64 d, .bool false, .int .i64 s, .int .i64 s, .slice none 0 0] 41 (0, 0)) ∧ Below bz wr wx)
       case first =>
        have hBa : ∀ o, Below bz wr (wr.alloc o) := fun o => by rw [← hbz]; exact (Below.refl _ wr).alloc (Nat.le_refl _) _
        have hNew : ∀ v, (wr.alloc (Obj.cells #[.int .i64 d, .bool false, v, v, .slice none 0 0] 41)).heap[bz]? = some (.cells #[.int .i64 d, .bool false, v, v, .slice none 0 0] 41 (0, 0)) := fun v => by rw [← hbz]; exact World.alloc_heap_new wr _
        by_cases s2 : s = 2
        · have b2 : decide (s = 2) = true := by simpa using s2
          have E := Lib.hid s2
          clear s2
          go_wp2_with fail
          go_meet
          exact ⟨rfl, by rw [E.out]; exact hNew _, hBa _⟩
        · have b2 : decide (s = 2) = false := by simpa using s2
          have E := Lib.hid (show s = 1 by omega)
          go_wp2_with fail
          go_meet
          exact ⟨rfl, by rw [E.out]; exact hNew _, hBa _⟩
       case rest =>
        obtain ⟨rfl, hZ, hBz⟩ := hcut
        obtain ⟨hPw, hb0, hb1⟩ := HP.out
        obtain ⟨AC, cC, rfl, _⟩ := own_any hPw.own
        have hi0 : wc.heap[w.heap.size + 1]? = some (.cells #[.int .i64 x, .int .i64 y, .int .i64 ox, .int .i64 oy, .slice AC k cC] 25 (0, 0)) := (hBz.block _ (by omega)).trans hb1
        have x50 : wc.cell? ⟨w.heap.size + 1, 0, none⟩ = some (.int .i64 x) := by simp [World.cell?, hi0]
        have x51 : wc.cell? ⟨w.heap.size + 1, 1, none⟩ = some (.int .i64 y) := by simp [World.cell?, hi0]
        have x52 : wc.cell? ⟨w.heap.size + 1, 2, none⟩ = some (.int .i64 ox) := by simp [World.cell?, hi0]
        have x53 : wc.cell? ⟨w.heap.size + 1, 3, none⟩ = some (.int .i64 oy) := by simp [World.cell?, hi0]
        have x54 : wc.cell? ⟨w.heap.size + 1, 4, none⟩ = some (.slice AC k cC) := by simp [World.cell?, hi0]
        have y52 : wc.cell? ⟨bz, 2, none⟩ = some (.int .i64 s) := by simp [World.cell?, hZ]
        have y53 : wc.cell? ⟨bz, 3, none⟩ = some (.int .i64 s) := by simp [World.cell?, hZ]
        have hj : bz < wc.heap.size := (Array.getElem?_eq_some_iff.1 hZ).1
        have hj0 : w.heap.size + 1 < wc.heap.size := by omega
        have HZ := Lib.hid (And.intro hZ (And.intro hBz hi0))
        clear hPw hb0 hb1 hZ hBz hi0
        go_wp2_with fail
        refine (wpIn_wide (n := 9)).1 (regionIn_inv (Inv := fun L2 a w' => ∃ br : Nat, a = { tmps := #[Value.int IntKind.i64 x, Value.int IntKind.i64 y, Value.int IntKind.i64 ox, Value.int IntKind.i64 oy, Value.int IntKind.i64 n, Value.int IntKind.i64 d, Value.int IntKind.i64 kind, undef, undef, undef, undef, undef, undef, undef, Value.pointer (some { block := w.heap.size, off := 0 }), Value.int IntKind.i64 0, Value.pointer (some { block := w.heap.size + 1, off := 0 }), Value.int IntKind.i64 ↑k, Value.pointer (some { block := bz, off := 0 }), bif L2 7 then .pointer (some ⟨br, 0, none⟩) else u19, u20, u21, Value.int IntKind.i64 ox, Value.bool false, Value.bool false, Value.int IntKind.i64 oy, Value.bool false, Value.bool false, Value.bool false, Value.int IntKind.i64 x, Value.int IntKind.i64 ox, Value.bool false, Value.bool false, Value.bool false, Value.int IntKind.i64 x, Value.bool false, Value.bool false, Value.bool false, Value.int IntKind.i64 y, Value.int IntKind.i64 oy, Value.bool false, Value.bool false, Value.bool false, Value.int IntKind.i64 y, Value.bool false, Value.bool false, Value.bool false, Value.int IntKind.i64 n, Value.bool false, Value.bool false, Value.bool false, Value.int IntKind.i64 n, Value.bool false, Value.bool false, Value.bool false, Value.int IntKind.i64 d, Value.bool false, Value.bool false, Value.bool false, Value.int IntKind.i64 d, Value.bool false, Value.bool false, Value.bool false, Value.int IntKind.i64 kind, Value.bool false, Value.bool false, Value.bool false, Value.int IntKind.i64 kind, Value.bool false, Value.bool false, undef, Value.int IntKind.i64 x, Value.int IntKind.i64 y, Value.int IntKind.i64 ox, Value.int IntKind.i64 oy, Value.agg #[Value.int IntKind.i64 x, Value.int IntKind.i64 y, Value.int IntKind.i64 ox, Value.int IntKind.i64 oy, Value.slice none 0 0], Value.int IntKind.i64 ↑k, Value.int IntKind.i64 n, Value.bool true, u79, u80, Value.int IntKind.i64 d, Value.agg #[Value.int IntKind.i64 d, Value.bool false, Value.int IntKind.i64 1, Value.int IntKind.i64 1, Value.slice none 0 0], u83, u84, u85, u86, u87, u88, Value.bool (decide (s = 2)), u90, u91, bif L2 0 then .agg #[.int .i64 x, .int .i64 y, .int .i64 ox, .int .i64 oy, .slice AC k cC] else u92, bif L2 1 then .agg #[.int .i64 ox, .int .i64 oy, .int .i64 x, .int .i64 y] else u93, bif L2 2 then .pointer (some ⟨bz, 2, none⟩) else u94, bif L2 3 then .int .i64 s else u95, bif L2 4 then .pointer (some ⟨bz, 3, none⟩) else u96, bif L2 5 then .int .i64 s else u97, bif L2 6 then .agg #[.int .i64 (ceilF ox s), .int .i64 (ceilF oy s), .int .i64 (ceilF x s), .int .i64 (ceilF y s)] else u98, u99, u100, u101, u102, u103, u104, u105, u106, u107, u108, u109, u110, u111, u112, u113, u114, u115, u116, u117, u118, u119, u120, u121, u122, u123, u124, u125, u126, u127, u128, u129, u130, u131, u132, u133, undef], defers := [] } ∧ Below wc.heap.size wc w' ∧ (L2 7 = true → wc.heap.size ≤ br) ∧ (L2 7 = true → L2 8 = false → w'.heap[br]? = some (.cells #[.int .i64 0, .int .i64 0, .int .i64 0, .int .i64 0] 47 (0, 0))) ∧ (L2 8 = true → w'.heap[br]? = some (.cells #[.int .i64 (ceilF ox s), .int .i64 (ceilF oy s), .int .i64 (ceilF x s), .int .i64 (ceilF y s)] 47 (0, 0)))) hmo (by kernel_rfl) ?start ?step ?fin)
        case start => exact ⟨0, rfl, below_drewN (Below.refl _ wc) 1, fun h => (by cases h), fun h => (by cases h), fun h => (by cases h)⟩
        case step =>
          intro i' hi' L2 a' w' hI hs' hu
          obtain ⟨br, rfl, hW, hbr, hr0, hr1⟩ := hI
          have hL := hu.1
          have hi' : i' < 9 := hi'
          obtain rfl | rfl | rfl | rfl | rfl | rfl | rfl | rfl | rfl := (by omega : i' = 0 ∨ i' = 1 ∨ i' = 2 ∨ i' = 3 ∨ i' = 4 ∨ i' = 5 ∨ i' = 6 ∨ i' = 7 ∨ i' = 8)
          · skip
            have n8 : L2 8 = false := not_yet hL fun h => shut_at hs' 8 0 (by kernel_rfl) (h)
            have z0 := (hW.cell (p := ⟨w.heap.size + 1, 0, none⟩) hj0).trans x50
            have z1 := (hW.cell (p := ⟨w.heap.size + 1, 1, none⟩) hj0).trans x51
            have z2 := (hW.cell (p := ⟨w.heap.size + 1, 2, none⟩) hj0).trans x52
            have z3 := (hW.cell (p := ⟨w.heap.size + 1, 3, none⟩) hj0).trans x53
            have z4 := (hW.cell (p := ⟨w.heap.size + 1, 4, none⟩) hj0).trans x54
            refine opIn_run (v := .agg #[.int .i64 x, .int .i64 y, .int .i64 ox, .int .i64 oy, .slice AC k cC]) (w' := w') rfl rfl (fun c h => by cases h) (fun _ => trivial) ?_ ⟨br, by simp [Act.put, upd, n8, hL], hW, hbr, (fun h7 _ => hr0 h7 n8), (fun h => by rw [upd_ne _ (by decide), n8] at h; cases h)⟩
            simp only [n8, hL, cond_true, cond_false]
            go_simp
          · skip
            have y0 : L2 0 = true := up_at hu 0 (by kernel_rfl)
            have n8 : L2 8 = false := not_yet hL fun h => shut_at hs' 8 1 (by kernel_rfl) (h)
            have hcl := rwhole_any x y ox oy AC k cC w'
            refine opIn_call (f := 20) (args := #[.agg #[.int .i64 x, .int .i64 y, .int .i64 ox, .int .i64 oy, .slice AC k cC]]) (w' := w') rfl rfl (fun c h => by cases h) (fun _ => trivial) rfl ?_ ((callsIn_wide.2 hcl).mono ?_)
            · simp only [y0, n8, hL, cond_true, cond_false]
              go_simp
            · rintro e w2 ⟨rfl, h2⟩
              exact ⟨_, rfl, br, by simp [Act.put, upd, y0, n8, hL], hW.trans (h2.mono hW.size), hbr, (fun h7 h8 => by have e0 := hr0 h7 n8; exact (h2.block br (Array.getElem?_eq_some_iff.1 e0).1).trans e0), (fun h => by rw [upd_ne _ (by decide), n8] at h; cases h)⟩
          · skip
            have n8 : L2 8 = false := not_yet hL fun h => shut_at hs' 8 2 (by kernel_rfl) (h)
            refine opIn_run (v := .pointer (some ⟨bz, 2, none⟩)) (w' := w') rfl rfl (fun c h => by cases h) (fun _ => trivial) ?_ ⟨br, by simp [Act.put, upd, n8, hL], hW, hbr, (fun h7 _ => hr0 h7 n8), (fun h => by rw [upd_ne _ (by decide), n8] at h; cases h)⟩
            simp only [n8, hL, cond_true, cond_false]
            go_simp
          · skip
            have y2 : L2 2 = true := up_at hu 2 (by kernel_rfl)
            have n8 : L2 8 = false := not_yet hL fun h => shut_at hs' 8 3 (by kernel_rfl) (h)
            have z2 := (hW.cell (p := ⟨bz, 2, none⟩) hj).trans y52
            refine opIn_run (v := .int .i64 s) (w' := w') rfl rfl (fun c h => by cases h) (fun _ => trivial) ?_ ⟨br, by simp [Act.put, upd, y2, n8, hL], hW, hbr, (fun h7 _ => hr0 h7 n8), (fun h => by rw [upd_ne _ (by decide), n8] at h; cases h)⟩
            simp only [y2, n8, hL, cond_true, cond_false]
            go_simp
          · skip
            have n8 : L2 8 = false := not_yet hL fun h => shut_at hs' 8 4 (by kernel_rfl) (h)
            refine opIn_run (v := .pointer (some ⟨bz, 3, none⟩)) (w' := w') rfl rfl (fun c h => by cases h) (fun _ => trivial) ?_ ⟨br, by simp [Act.put, upd, n8, hL], hW, hbr, (fun h7 _ => hr0 h7 n8), (fun h => by rw [upd_ne _ (by decide), n8] at h; cases h)⟩
            simp only [n8, hL, cond_true, cond_false]
            go_simp
          · skip
            have y4 : L2 4 = true := up_at hu 4 (by kernel_rfl)
            have n8 : L2 8 = false := not_yet hL fun h => shut_at hs' 8 5 (by kernel_rfl) (h)
            have z3 := (hW.cell (p := ⟨bz, 3, none⟩) hj).trans y53
            refine opIn_run (v := .int .i64 s) (w' := w') rfl rfl (fun c h => by cases h) (fun _ => trivial) ?_ ⟨br, by simp [Act.put, upd, y4, n8, hL], hW, hbr, (fun h7 _ => hr0 h7 n8), (fun h => by rw [upd_ne _ (by decide), n8] at h; cases h)⟩
            simp only [y4, n8, hL, cond_true, cond_false]
            go_simp
          · skip
            have y0 : L2 0 = true := shut_at hs' 1 0 (by kernel_rfl) (up_at hu 1 (by kernel_rfl))
            have y1 : L2 1 = true := up_at hu 1 (by kernel_rfl)
            have y2 : L2 2 = true := shut_at hs' 3 2 (by kernel_rfl) (up_at hu 3 (by kernel_rfl))
            have y3 : L2 3 = true := up_at hu 3 (by kernel_rfl)
            have y4 : L2 4 = true := shut_at hs' 5 4 (by kernel_rfl) (up_at hu 5 (by kernel_rfl))
            have y5 : L2 5 = true := up_at hu 5 (by kernel_rfl)
            have n8 : L2 8 = false := not_yet hL fun h => shut_at hs' 8 6 (by kernel_rfl) (h)
            have hcl := rpart_any ox oy x y s s w' (by omega) (by omega) (by omega) (by omega) (by omega) (by omega)
            refine opIn_call (f := 19) (args := #[.agg #[.int .i64 ox, .int .i64 oy, .int .i64 x, .int .i64 y], .int .i64 s, .int .i64 s]) (w' := w') rfl rfl (fun c h => by cases h) (fun _ => trivial) rfl ?_ ((callsIn_wide.2 hcl).mono ?_)
            · simp only [y0, y1, y2, y3, y4, y5, n8, hL, cond_true, cond_false]
              go_simp
            · rintro e w2 ⟨rfl, h2⟩
              exact ⟨_, rfl, br, by simp [Act.put, upd, y0, y1, y2, y3, y4, y5, n8, hL], hW.trans (h2.mono hW.size), hbr, (fun h7 h8 => by have e0 := hr0 h7 n8; exact (h2.block br (Array.getElem?_eq_some_iff.1 e0).1).trans e0), (fun h => by rw [upd_ne _ (by decide), n8] at h; cases h)⟩
          · skip
            have n8 : L2 8 = false := not_yet hL fun h => shut_at hs' 8 7 (by kernel_rfl) (h)
            refine opIn_run (v := .pointer (some ⟨w'.heap.size, 0, none⟩)) (w' := w'.alloc (.cells #[.int .i64 0, .int .i64 0, .int .i64 0, .int .i64 0] 47)) rfl rfl (fun c h => by cases h) (fun _ => trivial) ?_ ⟨w'.heap.size, by simp [Act.put, upd, n8, hL], hW.alloc hW.size _, (fun _ => hW.size), (fun _ _ => World.alloc_heap_new w' _), (fun h => by rw [upd_ne _ (by decide), n8] at h; cases h)⟩
            simp only [n8, hL, cond_true, cond_false]
            go_simp
          · skip
            have y0 : L2 0 = true := up_at hu 0 (by kernel_rfl)
            have y1 : L2 1 = true := up_at hu 1 (by kernel_rfl)
            have y2 : L2 2 = true := up_at hu 2 (by kernel_rfl)
            have y3 : L2 3 = true := up_at hu 3 (by kernel_rfl)
            have y4 : L2 4 = true := up_at hu 4 (by kernel_rfl)
            have y5 : L2 5 = true := up_at hu 5 (by kernel_rfl)
            have y6 : L2 6 = true := up_at hu 6 (by kernel_rfl)
            have y7 : L2 7 = true := up_at hu 7 (by kernel_rfl)
            have e0 := hr0 y7 hL
            have hb7 := hbr y7
            have k0 : w'.cell? ⟨br, 0, none⟩ = some (.int .i64 0) := by simp [World.cell?, e0]
            have kf0 : w'.frozen? ⟨br, 0, none⟩ = false := by simp [World.frozen?, e0]
            have k1 : w'.cell? ⟨br, 1, none⟩ = some (.int .i64 0) := by simp [World.cell?, e0]
            have kf1 : w'.frozen? ⟨br, 1, none⟩ = false := by simp [World.frozen?, e0]
            have k2 : w'.cell? ⟨br, 2, none⟩ = some (.int .i64 0) := by simp [World.cell?, e0]
            have kf2 : w'.frozen? ⟨br, 2, none⟩ = false := by simp [World.frozen?, e0]
            have k3 : w'.cell? ⟨br, 3, none⟩ = some (.int .i64 0) := by simp [World.cell?, e0]
            have kf3 : w'.frozen? ⟨br, 3, none⟩ = false := by simp [World.frozen?, e0]
            refine opIn_skip (w' := (((w'.setCell ⟨br, 0, none⟩ (.int .i64 (ceilF ox s))).setCell ⟨br, 1, none⟩ (.int .i64 (ceilF oy s))).setCell ⟨br, 2, none⟩ (.int .i64 (ceilF x s))).setCell ⟨br, 3, none⟩ (.int .i64 (ceilF y s))) rfl rfl (fun c h => by cases h) (fun _ => trivial) ?_ ⟨br, by simp [Act.put, upd, y0, y1, y2, y3, y4, y5, y6, y7, hL], (((hW.setCell (p := ⟨br, 0, none⟩) hb7 _).setCell (p := ⟨br, 1, none⟩) hb7 _).setCell (p := ⟨br, 2, none⟩) hb7 _).setCell (p := ⟨br, 3, none⟩) hb7 _, (fun _ => hb7), (fun _ h => by simp [upd] at h), (fun _ => set_rect e0)⟩
            simp only [y0, y1, y2, y3, y4, y5, y6, y7, hL, cond_true, cond_false]
            go_simp
        case fin =>
          intro L2 a' u hall hI
          obtain ⟨br, rfl, hW, hbr, hr0, hr1⟩ := hI
          have l0 := hall 0 (by decide)
          have l1 := hall 1 (by decide)
          have l2 := hall 2 (by decide)
          have l3 := hall 3 (by decide)
          have l4 := hall 4 (by decide)
          have l5 := hall 5 (by decide)
          have l6 := hall 6 (by decide)
          have l7 := hall 7 (by decide)
          have l8 := hall 8 (by decide)
          have hR := hr1 l8
          have hb7 := hbr l7
          simp only [l0, l1, l2, l3, l4, l5, l6, l7, l8, cond_true]
          clear l0 l1 l2 l3 l4 l5 l6 l7 l8 hall hbr hr0 hr1
          have hZu : u.heap[bz]? = some (.cells #[.int .i64 d, .bool false, .int .i64 s, .int .i64 s, .slice none 0 0] 41 (0, 0)) := (hW.block _ hj).trans HZ.out.1
          have hBu : Below bz wr u := HZ.out.2.1.trans (hW.mono (Nat.le_of_lt hj))
          have cb1 := ceil_bd ox s h0.1 hsb.1
          have cb2 := ceil_bd x s (by omega) hsb.1
          have cb3 := ceil_bd oy s h1.1 hsb.1
          have cb4 := ceil_bd y s (by omega) hsb.1
          have cm1 := ceil_mono (show ox ≤ x by omega) hsb.1
          have cm2 := ceil_mono (show oy ≤ y by omega) hsb.1
          obtain ⟨wd, hwd⟩ : ∃ wd : Nat, ceilF x s - ceilF ox s = (wd : Int) := ⟨(ceilF x s - ceilF ox s).toNat, by omega⟩
          obtain ⟨hg, hhg⟩ : ∃ hg : Nat, ceilF y s - ceilF oy s = (hg : Int) := ⟨(ceilF y s - ceilF oy s).toNat, by omega⟩
          have hw9 : IntKind.i64.wrap (ceilF x s - ceilF ox s) = (wd : Int) := by rw [← hwd]; exact IntWalk.i64_in _ (by omega)
          have hh9 : IntKind.i64.wrap (ceilF y s - ceilF oy s) = (hg : Int) := by rw [← hhg]; exact IntWalk.i64_in _ (by omega)
          have hwd64 : wd ≤ 64 := by omega
          have hhg64 : hg ≤ 64 := by omega
          have HWD := Lib.hid (And.intro hwd hhg)
          have hk4 : k ≤ 3 := by omega
          have hm := pow_bd d hd.1 hd.2
          obtain ⟨wo, rfl⟩ : ∃ wo : World, wo = wr := ⟨_, rfl⟩
          have D0 : Hid (Dat bz br d s ox oy x y kind k wd wo u (.slice none 0 0) 0) := Lib.hid ⟨hZu, hR, World.ownsRow_nil _ _ _ _, hBu, by omega⟩
          clear hwd hhg hm hW hZu hR hBu x50 x51 x52 x53 x54 y52 y53
          go_wp2_with fail
          go_loopw [20] (fun jv wr' => ∃ (j : Nat) (Dv : Value), j ≤ hg ∧ jv = .int .i64 j ∧ Dat bz br d s ox oy x y kind k wd wo wr' Dv (j * wd)) (fun jv _ => hg - (intOf jv).toNat)
          case atStart => exact ⟨0, _, by omega, rfl, by rw [Nat.zero_mul]; exact D0.out⟩
          case round =>
            obtain ⟨j, Dv, hjh, rfl, hD⟩ := hrel
            have r0 : wr.cell? ⟨br, 0, none⟩ = some (.int .i64 (ceilF ox s)) := by simp [World.cell?, hD.rect]
            have r1 : wr.cell? ⟨br, 1, none⟩ = some (.int .i64 (ceilF oy s)) := by simp [World.cell?, hD.rect]
            have r2 : wr.cell? ⟨br, 2, none⟩ = some (.int .i64 (ceilF x s)) := by simp [World.cell?, hD.rect]
            have r3 : wr.cell? ⟨br, 3, none⟩ = some (.int .i64 (ceilF y s)) := by simp [World.cell?, hD.rect]
            have HD := Lib.hid hD
            clear hD D0
            by_cases cj : j < hg
            · have cj' : (j : Int) < (hg : Int) := by omega
              go_wp2_with fail
              clear r0 r1 r2 r3
              go_loopw [21] (fun iv wr' => ∃ (i : Nat) (Dv : Value), i ≤ wd ∧ iv = .int .i64 i ∧ Dat bz br d s ox oy x y kind k wd wo wr' Dv (j * wd + i)) (fun iv _ => wd - (intOf iv).toNat)
              case atStart => exact ⟨0, _, by omega, rfl, HD.out⟩
              case round =>
                obtain ⟨i, Dv, hiw, rfl, hD⟩ := hrel
                have r0 : wr.cell? ⟨br, 0, none⟩ = some (.int .i64 (ceilF ox s)) := by simp [World.cell?, hD.rect]
                have r1 : wr.cell? ⟨br, 1, none⟩ = some (.int .i64 (ceilF oy s)) := by simp [World.cell?, hD.rect]
                have r2 : wr.cell? ⟨br, 2, none⟩ = some (.int .i64 (ceilF x s)) := by simp [World.cell?, hD.rect]
                have r3 : wr.cell? ⟨br, 3, none⟩ = some (.int .i64 (ceilF y s)) := by simp [World.cell?, hD.rect]
                have HD := Lib.hid hD
                clear hD
                by_cases ci : i < wd
                · have ci' : (i : Int) < (wd : Int) := by omega
                  go_wp2_with fail
                  obtain ⟨v, hv⟩ : ∃ v, smpF kind ((2 : Int) ^ d.toNat) k i j = v := ⟨_, rfl⟩
                  obtain ⟨m, hm⟩ : ∃ m, (2 : Int) ^ d.toNat = m := ⟨_, rfl⟩
                  have hsp := rsample_any kind i j k d wr.drew (by omega) (by omega) (by omega) (by omega) (by omega)
                  rw [hv] at hsp
                  have HV := Lib.hid (And.intro hv hm)
                  have hzc := HD.out.comp
                  have y4 : wr.drew.cell? ⟨bz, 4, none⟩ = some Dv := by show wr.cell? _ = _; simp [World.cell?, hzc]
                  have hbw : bz < wr.heap.size := (Array.getElem?_eq_some_iff.1 hzc).1
                  have hqm : j * wd + i ≤ 5000 := by
                    have := Nat.mul_le_mul (show j ≤ 64 by omega) hwd64; omega
                  clear hv hm
                  refine (wpIn_wide (n := 9)).1 (regionIn_inv (Inv := fun L2 a w' => ∃ (v9 : Value) (W3 : World), a = { tmps := #[Value.int IntKind.i64 x, Value.int IntKind.i64 y, Value.int IntKind.i64 ox, Value.int IntKind.i64 oy, Value.int IntKind.i64 n, Value.int IntKind.i64 d, Value.int IntKind.i64 kind, undef, undef, undef, undef, undef, undef, undef, Value.pointer (some { block := w.heap.size, off := 0 }), Value.int IntKind.i64 0, Value.pointer (some { block := w.heap.size + 1, off := 0 }), Value.int IntKind.i64 ↑k, Value.pointer (some { block := bz, off := 0 }), Value.pointer (some { block := br, off := 0 }), Value.int IntKind.i64 ↑j, Value.int IntKind.i64 ↑i, Value.int IntKind.i64 ox, Value.bool false, Value.bool false, Value.int IntKind.i64 oy, Value.bool false, Value.bool false, Value.bool false, Value.int IntKind.i64 x, Value.int IntKind.i64 ox, Value.bool false, Value.bool false, Value.bool false, Value.int IntKind.i64 x, Value.bool false, Value.bool false, Value.bool false, Value.int IntKind.i64 y, Value.int IntKind.i64 oy, Value.bool false, Value.bool false, Value.bool false, Value.int IntKind.i64 y, Value.bool false, Value.bool false, Value.bool false, Value.int IntKind.i64 n, Value.bool false, Value.bool false, Value.bool false, Value.int IntKind.i64 n, Value.bool false, Value.bool false, Value.bool false, Value.int IntKind.i64 d, Value.bool false, Value.bool false, Value.bool false, Value.int IntKind.i64 d, Value.bool false, Value.bool false, Value.bool false, Value.int IntKind.i64 kind, Value.bool false, Value.bool false, Value.bool false, Value.int IntKind.i64 kind, Value.bool false, Value.bool false, undef, Value.int IntKind.i64 x, Value.int IntKind.i64 y, Value.int IntKind.i64 ox, Value.int IntKind.i64 oy, Value.agg #[Value.int IntKind.i64 x, Value.int IntKind.i64 y, Value.int IntKind.i64 ox, Value.int IntKind.i64 oy, Value.slice none 0 0], Value.int IntKind.i64 ↑k, Value.int IntKind.i64 n, Value.bool true, u79, u80, Value.int IntKind.i64 d, Value.agg #[Value.int IntKind.i64 d, Value.bool false, Value.int IntKind.i64 1, Value.int IntKind.i64 1, Value.slice none 0 0], u83, u84, u85, u86, u87, u88, Value.bool (decide (s = 2)), u90, u91, Value.agg #[Value.int IntKind.i64 x, Value.int IntKind.i64 y, Value.int IntKind.i64 ox, Value.int IntKind.i64 oy, Value.slice AC k cC], Value.agg #[Value.int IntKind.i64 ox, Value.int IntKind.i64 oy, Value.int IntKind.i64 x, Value.int IntKind.i64 y], Value.pointer (some { block := bz, off := 2 }), Value.int IntKind.i64 s, Value.pointer (some { block := bz, off := 3 }), Value.int IntKind.i64 s, Value.agg #[Value.int IntKind.i64 (ceilF ox s), Value.int IntKind.i64 (ceilF oy s), Value.int IntKind.i64 (ceilF x s), Value.int IntKind.i64 (ceilF y s)], Value.int IntKind.i64 ↑j, Value.pointer (some { block := br, off := 3 }), Value.int IntKind.i64 (ceilF y s), Value.pointer (some { block := br, off := 1 }), Value.int IntKind.i64 (ceilF oy s), Value.int IntKind.i64 ↑hg, Value.bool true, u106, u107, Value.int IntKind.i64 ↑i, Value.pointer (some { block := br, off := 2 }), Value.int IntKind.i64 (ceilF x s), Value.pointer (some { block := br, off := 0 }), Value.int IntKind.i64 (ceilF ox s), Value.int IntKind.i64 ↑wd, Value.bool true, u115, u116, bif L2 0 then .pointer (some ⟨bz, 4, none⟩) else u117, bif L2 1 then Dv else u118, bif L2 2 then .int .i64 kind else u119, bif L2 3 then .int .i64 i else u120, bif L2 4 then .int .i64 j else u121, bif L2 5 then .int .i64 k else u122, bif L2 6 then .int .i64 d else u123, bif L2 7 then .int .i64 v else u124, bif L2 8 then .slice (some ⟨wr.heap.size, 0, none⟩) 1 1 else u125, bif L2 9 then v9 else u126, bif L2 10 then .pointer (some ⟨bz, 4, none⟩) else u127, u128, u129, u130, u131, u132, u133, undef], defers := [] } ∧ (L2 9 = false → w'.cell? ⟨bz, 4, none⟩ = some Dv) ∧ (L2 8 = false → w' = wr.drew) ∧ (L2 8 = true → L2 9 = false → w' = wr.drew.alloc (.cells #[.int .i64 v] 3)) ∧ (L2 9 = true → DApp (bz + 1) wr Dv (j * wd + i) ((gridP (smpF kind m k) wd (j * wd + i)).map (Value.int .i64)) v9 (.int .i64 v) W3) ∧ (L2 9 = true → L2 11 = false → w' = W3) ∧ (L2 11 = true → w' = W3.setCell ⟨bz, 4, none⟩ v9)) hmo (by kernel_rfl) ?start ?step ?fin)
                  case start => exact ⟨undef, wr, rfl, fun _ => y4, fun _ => rfl, fun h => (by cases h), fun h => (by cases h), fun h => (by cases h), fun h => (by cases h)⟩
                  case step =>
                    intro i' hi' L2 a' w' hI hs' hu
                    obtain ⟨v9, W3, rfl, hc4, hW0, hW1, hDA, hW3, hW4⟩ := hI
                    have hL := hu.1
                    have hi' : i' < 12 := hi'
                    obtain rfl | rfl | rfl | rfl | rfl | rfl | rfl | rfl | rfl | rfl | rfl | rfl := (by omega : i' = 0 ∨ i' = 1 ∨ i' = 2 ∨ i' = 3 ∨ i' = 4 ∨ i' = 5 ∨ i' = 6 ∨ i' = 7 ∨ i' = 8 ∨ i' = 9 ∨ i' = 10 ∨ i' = 11)
                    · skip
                      have n9 : L2 9 = false := not_yet hL fun h => shut_at hs' 1 0 (by kernel_rfl) (shut_at hs' 9 1 (by kernel_rfl) (h))
                      have n11 : L2 11 = false := not_yet hL fun h => shut_at hs' 11 0 (by kernel_rfl) (h)
                      refine opIn_run (v := .pointer (some ⟨bz, 4, none⟩)) (w' := w') rfl rfl (fun c h => by cases h) (fun _ => trivial) ?_ ⟨v9, W3, by simp [Act.put, upd, n9, n11, hL], hc4, hW0, hW1, hDA, hW3, hW4⟩
                      simp only [n9, n11, hL, cond_true, cond_false]
                      go_simp
                    · skip
                      have y0 : L2 0 = true := up_at hu 0 (by kernel_rfl)
                      have n9 : L2 9 = false := not_yet hL fun h => shut_at hs' 9 1 (by kernel_rfl) (h)
                      have n11 : L2 11 = false := not_yet hL fun h => shut_at hs' 11 1 (by kernel_rfl) (h)
                      have hc := hc4 n9
                      refine opIn_run (v := Dv) (w' := w') rfl rfl (fun c h => by cases h) (fun _ => trivial) ?_ ⟨v9, W3, by simp [Act.put, upd, y0, n9, n11, hL], hc4, hW0, hW1, hDA, hW3, hW4⟩
                      simp only [y0, n9, n11, hL, cond_true, cond_false]
                      go_simp
                    · skip
                      have n8 : L2 8 = false := not_yet hL fun h => shut_at hs' 7 2 (by kernel_rfl) (shut_at hs' 8 7 (by kernel_rfl) (h))
                      have n9 : L2 9 = false := not_yet hL fun h => shut_at hs' 7 2 (by kernel_rfl) (shut_at hs' 9 7 (by kernel_rfl) (h))
                      have n11 : L2 11 = false := not_yet hL fun h => shut_at hs' 11 2 (by kernel_rfl) (h)
                      refine opIn_run (v := .int .i64 kind) (w' := w') rfl rfl (fun c h => by cases h) (fun _ => trivial) ?_ ⟨v9, W3, by simp [Act.put, upd, n8, n9, n11, hL], hc4, hW0, hW1, hDA, hW3, hW4⟩
                      simp only [n8, n9, n11, hL, cond_true, cond_false]
                      go_simp
                    · skip
                      have n8 : L2 8 = false := not_yet hL fun h => shut_at hs' 7 3 (by kernel_rfl) (shut_at hs' 8 7 (by kernel_rfl) (h))
                      have n9 : L2 9 = false := not_yet hL fun h => shut_at hs' 7 3 (by kernel_rfl) (shut_at hs' 9 7 (by kernel_rfl) (h))
                      have n11 : L2 11 = false := not_yet hL fun h => shut_at hs' 11 3 (by kernel_rfl) (h)
                      refine opIn_run (v := .int .i64 i) (w' := w') rfl rfl (fun c h => by cases h) (fun _ => trivial) ?_ ⟨v9, W3, by simp [Act.put, upd, n8, n9, n11, hL], hc4, hW0, hW1, hDA, hW3, hW4⟩
                      simp only [n8, n9, n11, hL, cond_true, cond_false]
                      go_simp
                    · skip
                      have n8 : L2 8 = false := not_yet hL fun h => shut_at hs' 7 4 (by kernel_rfl) (shut_at hs' 8 7 (by kernel_rfl) (h))
                      have n9 : L2 9 = false := not_yet hL fun h => shut_at hs' 7 4 (by kernel_rfl) (shut_at hs' 9 7 (by kernel_rfl) (h))
                      have n11 : L2 11 = false := not_yet hL fun h => shut_at hs' 11 4 (by kernel_rfl) (h)
                      refine opIn_run (v := .int .i64 j) (w' := w') rfl rfl (fun c h => by cases h) (fun _ => trivial) ?_ ⟨v9, W3, by simp [Act.put, upd, n8, n9, n11, hL], hc4, hW0, hW1, hDA, hW3, hW4⟩
                      simp only [n8, n9, n11, hL, cond_true, cond_false]
                      go_simp
                    · skip
                      have n8 : L2 8 = false := not_yet hL fun h => shut_at hs' 7 5 (by kernel_rfl) (shut_at hs' 8 7 (by kernel_rfl) (h))
                      have n9 : L2 9 = false := not_yet hL fun h => shut_at hs' 7 5 (by kernel_rfl) (shut_at hs' 9 7 (by kernel_rfl) (h))
                      have n11 : L2 11 = false := not_yet hL fun h => shut_at hs' 11 5 (by kernel_rfl) (h)
                      refine opIn_run (v := .int .i64 k) (w' := w') rfl rfl (fun c h => by cases h) (fun _ => trivial) ?_ ⟨v9, W3, by simp [Act.put, upd, n8, n9, n11, hL], hc4, hW0, hW1, hDA, hW3, hW4⟩
                      simp only [n8, n9, n11, hL, cond_true, cond_false]
                      go_simp
                    · skip
                      have n8 : L2 8 = false := not_yet hL fun h => shut_at hs' 7 6 (by kernel_rfl) (shut_at hs' 8 7 (by kernel_rfl) (h))
                      have n9 : L2 9 = false := not_yet hL fun h => shut_at hs' 7 6 (by kernel_rfl) (shut_at hs' 9 7 (by kernel_rfl) (h))
                      have n11 : L2 11 = false := not_yet hL fun h => shut_at hs' 11 6 (by kernel_rfl) (h)
                      refine opIn_run (v := .int .i64 d) (w' := w') rfl rfl (fun c h => by cases h) (fun _ => trivial) ?_ ⟨v9, W3, by simp [Act.put, upd, n8, n9, n11, hL], hc4, hW0, hW1, hDA, hW3, hW4⟩
                      simp only [n8, n9, n11, hL, cond_true, cond_false]
                      go_simp
                    · skip
                      have y2 : L2 2 = true := up_at hu 2 (by kernel_rfl)
                      have y3 : L2 3 = true := up_at hu 3 (by kernel_rfl)
                      have y4 : L2 4 = true := up_at hu 4 (by kernel_rfl)
                      have y5 : L2 5 = true := up_at hu 5 (by kernel_rfl)
                      have y6 : L2 6 = true := up_at hu 6 (by kernel_rfl)
                      have n8 : L2 8 = false := not_yet hL fun h => shut_at hs' 8 7 (by kernel_rfl) (h)
                      have n9 : L2 9 = false := not_yet hL fun h => shut_at hs' 9 7 (by kernel_rfl) (h)
                      have n11 : L2 11 = false := not_yet hL fun h => shut_at hs' 11 7 (by kernel_rfl) (h)
                      obtain rfl := hW0 n8
                      refine opIn_call (f := 21) (args := #[.int .i64 kind, .int .i64 i, .int .i64 j, .int .i64 k, .int .i64 d]) (w' := wr.drew) rfl rfl (fun c h => by cases h) (fun _ => trivial) rfl ?_ ((callsIn_wide.2 hsp).mono ?_)
                      · simp only [y2, y3, y4, y5, y6, n8, n9, n11, hL, cond_true, cond_false]
                        go_simp
                      · rintro e w2 ⟨rfl, rfl⟩
                        exact ⟨_, rfl, v9, W3, by simp [Act.put, upd, y2, y3, y4, y5, y6, n8, n9, n11, hL], hc4, hW0, hW1, hDA, hW3, hW4⟩
                    · skip
                      have y2 : L2 2 = true := shut_at hs' 7 2 (by kernel_rfl) (up_at hu 7 (by kernel_rfl))
                      have y3 : L2 3 = true := shut_at hs' 7 3 (by kernel_rfl) (up_at hu 7 (by kernel_rfl))
                      have y4 : L2 4 = true := shut_at hs' 7 4 (by kernel_rfl) (up_at hu 7 (by kernel_rfl))
                      have y5 : L2 5 = true := shut_at hs' 7 5 (by kernel_rfl) (up_at hu 7 (by kernel_rfl))
                      have y6 : L2 6 = true := shut_at hs' 7 6 (by kernel_rfl) (up_at hu 7 (by kernel_rfl))
                      have y7 : L2 7 = true := up_at hu 7 (by kernel_rfl)
                      have n9 : L2 9 = false := not_yet hL fun h => shut_at hs' 9 8 (by kernel_rfl) (h)
                      have n11 : L2 11 = false := not_yet hL fun h => shut_at hs' 11 8 (by kernel_rfl) (h)
                      obtain rfl := hW0 hL
                      have hc := hc4 n9
                      refine opIn_run (v := .slice (some ⟨wr.heap.size, 0, none⟩) 1 1) (w' := wr.drew.alloc (.cells #[.int .i64 v] 3)) rfl rfl (fun c h => by cases h) (fun _ => trivial) ?_ ⟨v9, W3, by simp [Act.put, upd, y2, y3, y4, y5, y6, y7, n9, n11, hL], (fun _ => (World.cell?_alloc_lt wr.drew _ _ (World.block_lt_of_cell? wr.drew _ hc)).trans hc), (fun h => by simp [upd] at h), (fun _ _ => rfl), (fun h => by rw [upd_ne _ (by decide), n9] at h; cases h), (fun h => by rw [upd_ne _ (by decide), n9] at h; cases h), (fun h => by rw [upd_ne _ (by decide), n11] at h; cases h)⟩
                      simp only [y2, y3, y4, y5, y6, y7, n9, n11, hL, cond_true, cond_false]
                      go_simp
                    · skip
                      have y0 : L2 0 = true := shut_at hs' 1 0 (by kernel_rfl) (up_at hu 1 (by kernel_rfl))
                      have y1 : L2 1 = true := up_at hu 1 (by kernel_rfl)
                      have y2 : L2 2 = true := shut_at hs' 7 2 (by kernel_rfl) (up_at hu 7 (by kernel_rfl))
                      have y3 : L2 3 = true := shut_at hs' 7 3 (by kernel_rfl) (up_at hu 7 (by kernel_rfl))
                      have y4 : L2 4 = true := shut_at hs' 7 4 (by kernel_rfl) (up_at hu 7 (by kernel_rfl))
                      have y5 : L2 5 = true := shut_at hs' 7 5 (by kernel_rfl) (up_at hu 7 (by kernel_rfl))
                      have y6 : L2 6 = true := shut_at hs' 7 6 (by kernel_rfl) (up_at hu 7 (by kernel_rfl))
                      have y7 : L2 7 = true := up_at hu 7 (by kernel_rfl)
                      have y8 : L2 8 = true := up_at hu 8 (by kernel_rfl)
                      have n11 : L2 11 = false := not_yet hL fun h => shut_at hs' 11 9 (by kernel_rfl) (h)
                      obtain rfl := hW1 y8 hL
                      obtain ⟨v6, W4, hr, hp⟩ := app_int v HD.out.own (by omega) (by omega)
                      rw [HV.out.2] at hp
                      have hr2 : (appSem #[39, 39] 39 #[Dv, .slice (some ⟨wr.heap.size, 0, none⟩) 1 1]).run Try.prog ((wr.alloc (.cells #[.int .i64 v] 3)).drew) = .ok v6 W4 := hr
                      refine opIn_run (v := v6) (w' := W4) rfl rfl (fun c h => by cases h) (fun _ => trivial) ?_ ⟨v6, W4, by simp [Act.put, upd, y0, y1, y2, y3, y4, y5, y6, y7, y8, n11, hL], (fun h => by simp [upd] at h), (fun h => by rw [upd_ne _ (by decide), y8] at h; cases h), (fun _ h => by simp [upd] at h), (fun _ => hp), (fun _ _ => rfl), (fun h => by rw [upd_ne _ (by decide), n11] at h; cases h)⟩
                      simp only [y0, y1, y2, y3, y4, y5, y6, y7, y8, n11, hL, cond_true, cond_false]
                      go_simp
                    · skip
                      have y0 : L2 0 = true := up_at hu 0 (by kernel_rfl)
                      have y1 : L2 1 = true := up_at hu 1 (by kernel_rfl)
                      have y2 : L2 2 = true := up_at hu 2 (by kernel_rfl)
                      have y3 : L2 3 = true := up_at hu 3 (by kernel_rfl)
                      have y4 : L2 4 = true := up_at hu 4 (by kernel_rfl)
                      have y5 : L2 5 = true := up_at hu 5 (by kernel_rfl)
                      have y6 : L2 6 = true := up_at hu 6 (by kernel_rfl)
                      have y7 : L2 7 = true := up_at hu 7 (by kernel_rfl)
                      have y8 : L2 8 = true := up_at hu 8 (by kernel_rfl)
                      have y9 : L2 9 = true := up_at hu 9 (by kernel_rfl)
                      have n11 : L2 11 = false := not_yet hL fun h => shut_at hs' 11 10 (by kernel_rfl) (h)
                      refine opIn_run (v := .pointer (some ⟨bz, 4, none⟩)) (w' := w') rfl rfl (fun c h => by cases h) (fun _ => trivial) ?_ ⟨v9, W3, by simp [Act.put, upd, y0, y1, y2, y3, y4, y5, y6, y7, y8, y9, n11, hL], hc4, hW0, hW1, hDA, hW3, hW4⟩
                      simp only [y0, y1, y2, y3, y4, y5, y6, y7, y8, y9, n11, hL, cond_true, cond_false]
                      go_simp
                    · skip
                      have y0 : L2 0 = true := up_at hu 0 (by kernel_rfl)
                      have y1 : L2 1 = true := up_at hu 1 (by kernel_rfl)
                      have y2 : L2 2 = true := up_at hu 2 (by kernel_rfl)
                      have y3 : L2 3 = true := up_at hu 3 (by kernel_rfl)
                      have y4 : L2 4 = true := up_at hu 4 (by kernel_rfl)
                      have y5 : L2 5 = true := up_at hu 5 (by kernel_rfl)
                      have y6 : L2 6 = true := up_at hu 6 (by kernel_rfl)
                      have y7 : L2 7 = true := up_at hu 7 (by kernel_rfl)
                      have y8 : L2 8 = true := up_at hu 8 (by kernel_rfl)
                      have y9 : L2 9 = true := up_at hu 9 (by kernel_rfl)
                      have y10 : L2 10 = true := up_at hu 10 (by kernel_rfl)
                      obtain rfl := hW3 y9 hL
                      have hD9 := hDA y9
                      obtain ⟨hc, hf⟩ := dapp_at hD9 HD.out.comp HD.out.own
                      obtain ⟨g6, c6, e6⟩ := hD9.1
                      subst e6
                      refine opIn_skip (w' := w'.setCell ⟨bz, 4, none⟩ (.slice (some ⟨g6, 0, none⟩) (j * wd + i + 1) c6)) rfl rfl (fun c h => by cases h) (fun _ => trivial) ?_ ⟨_, w', by simp [Act.put, upd, y0, y1, y2, y3, y4, y5, y6, y7, y8, y9, y10, hL], (fun h => by rw [upd_ne _ (by decide), y9] at h; cases h), (fun h => by rw [upd_ne _ (by decide), y8] at h; cases h), (fun _ h => by rw [upd_ne _ (by decide), y9] at h; cases h), hDA, (fun _ h => by simp [upd] at h), (fun _ => rfl)⟩
                      simp only [y0, y1, y2, y3, y4, y5, y6, y7, y8, y9, y10, hL, cond_true, cond_false]
                      go_simp
                  case fin =>
                    intro L2 a' u hall hI
                    obtain ⟨v9, W3, rfl, hc4, hW0, hW1, hDA, hW3, hW4⟩ := hI
                    have l0 := hall 0 (by decide)
                    have l1 := hall 1 (by decide)
                    have l2 := hall 2 (by decide)
                    have l3 := hall 3 (by decide)
                    have l4 := hall 4 (by decide)
                    have l5 := hall 5 (by decide)
                    have l6 := hall 6 (by decide)
                    have l7 := hall 7 (by decide)
                    have l8 := hall 8 (by decide)
                    have l9 := hall 9 (by decide)
                    have l10 := hall 10 (by decide)
                    have l11 := hall 11 (by decide)
                    obtain rfl := hW4 l11
                    have hD9 := hDA l9
                    simp only [l0, l1, l2, l3, l4, l5, l6, l7, l8, l9, l10, l11, cond_true]
                    clear l0 l1 l2 l3 l4 l5 l6 l7 l8 l9 l10 l11 hall hc4 hW0 hW1 hDA hW3 hW4
                    have HN := Lib.hid (dat_step HD.out (by omega) ci (by rw [HV.out.2]; exact hD9) (by rw [← HV.out.1]))
                    clear hD9 hsp y4 hzc r0 r1 r2 r3
                    go_wp2
                    go_roundw
                    case rel => exact ⟨i + 1, v9, by omega, by go_num, HN.out⟩
                    case measure => simp [intOf]; omega
                · obtain rfl : i = wd := by omega
                  have HD3 : Hid (Dat bz br d s ox oy x y kind k i wo wr Dv ((j + 1) * i)) := Lib.hid (by rw [Nat.succ_mul]; exact HD.out)
                  go_wp2
                  go_roundw
                  case rel => exact ⟨j + 1, Dv, by omega, by go_num, HD3.out⟩
                  case measure => simp [intOf]; omega
            · obtain rfl : j = hg := by omega
              obtain ⟨AD, cD, rfl, _⟩ := own_any HD.out.own
              have hF : PFill wo j wd kind ((2 : Int) ^ d.toNat) k (.slice AD (j * wd) cD) wr := ⟨AD, cD, rfl, by rw [hbz]; exact own_lower HD.out.own (by omega), by rw [hbz]; exact HD.out.bel⟩
              obtain ⟨v6, W4, hr6, hA6⟩ := app_comp HP.out.1 hF (d := d) (s := s) (by omega) (by omega)
              obtain ⟨g6, c6, e6, _⟩ := id hA6
              subst e6
              have hb1 := (HD.out.bel.block (w.heap.size + 1) (by omega)).trans HP.out.2.2
              have m4 : wr.cell? ⟨w.heap.size + 1, 4, none⟩ = some (.slice AC k cC) := by simp [World.cell?, hb1]
              have hzc := HD.out.comp
              have z0 : wr.cell? ⟨bz, 0, none⟩ = some (.int .i64 d) := by simp [World.cell?, hzc]
              have z1 : wr.cell? ⟨bz, 1, none⟩ = some (.bool false) := by simp [World.cell?, hzc]
              have z2 : wr.cell? ⟨bz, 2, none⟩ = some (.int .i64 s) := by simp [World.cell?, hzc]
              have z3 : wr.cell? ⟨bz, 3, none⟩ = some (.int .i64 s) := by simp [World.cell?, hzc]
              have z4 : wr.cell? ⟨bz, 4, none⟩ = some (.slice AD (j * wd) cD) := by simp [World.cell?, hzc]
              obtain ⟨hc9, hf9⟩ := hA6.at HP.out.2.2 (by omega)
              have hwdk : sideF kind ox x k = wd := by unfold sideF; rw [HS.out, HWD.out.1]; omega
              have hhgk : sideF kind oy y k = j := by unfold sideF; rw [HS.out, HWD.out.2]; omega
              obtain ⟨CS', hX⟩ := pic_step HP.out.1 hA6 hF (by omega) HP.out.2.2 HP.out.2.1 HS.out hwdk hhgk
              have HX := Lib.hid hX
              clear hX hA6 hF hb1 hzc hwdk hhgk
              go_wp2
              go_roundw
              case rel => exact ⟨k + 1, _, CS', by push_cast; omega, by go_num, HX.out.1, HX.out.2.1, HX.out.2.2⟩
              case measure => simp [intOf]; omega
    · obtain rfl : n = (k : Int) := by omega
      obtain ⟨hP, hb0, hb1⟩ := HP.out
      have c0 : wr.cell? ⟨w.heap.size, 0, none⟩ = some (.int .i64 0) := by simp [World.cell?, hb0]
      have c1 : wr.cell? ⟨w.heap.size, 1, none⟩ = some (.int .i64 0) := by simp [World.cell?, hb0]
      have c2 : wr.cell? ⟨w.heap.size, 2, none⟩ = some (.int .i64 0) := by simp [World.cell?, hb0]
      have c3 : wr.cell? ⟨w.heap.size, 3, none⟩ = some (.int .i64 0) := by simp [World.cell?, hb0]
      have c4 : wr.cell? ⟨w.heap.size, 4, none⟩ = some (.slice none 0 0) := by simp [World.cell?, hb0]
      have f0 : wr.frozen? ⟨w.heap.size, 0, none⟩ = false := by simp [World.frozen?, hb0]
      have f1 : wr.frozen? ⟨w.heap.size, 1, none⟩ = false := by simp [World.frozen?, hb0]
      have f2 : wr.frozen? ⟨w.heap.size, 2, none⟩ = false := by simp [World.frozen?, hb0]
      have f3 : wr.frozen? ⟨w.heap.size, 3, none⟩ = false := by simp [World.frozen?, hb0]
      have f4 : wr.frozen? ⟨w.heap.size, 4, none⟩ = false := by simp [World.frozen?, hb0]
      have e0 : wr.cell? ⟨w.heap.size + 1, 0, none⟩ = some (.int .i64 x) := by simp [World.cell?, hb1]
      have e1 : wr.cell? ⟨w.heap.size + 1, 1, none⟩ = some (.int .i64 y) := by simp [World.cell?, hb1]
      have e2 : wr.cell? ⟨w.heap.size + 1, 2, none⟩ = some (.int .i64 ox) := by simp [World.cell?, hb1]
      have e3 : wr.cell? ⟨w.heap.size + 1, 3, none⟩ = some (.int .i64 oy) := by simp [World.cell?, hb1]
      have e4 : wr.cell? ⟨w.heap.size + 1, 4, none⟩ = some Cv := by simp [World.cell?, hb1]
      obtain ⟨AC, cC, rfl, _⟩ := own_any hP.own
      have HPP := Lib.hid (And.intro hP hb0)
      clear hb0 hb1 hP
      go_wp2
      refine bodyPost_ret (v := .tuple #[.agg #[.int .i64 x, .int .i64 y, .int .i64 ox, .int .i64 oy, .slice AC k cC], .int .i64 0]) (by simp [results, Try.results10, go_sem, c0, c1, c2, c3, c4, f0, f1, f2, f3, f4]) rfl ⟨.slice AC k cC, rfl, CS, ?_⟩
      refine pic_other HPP.out.1 HPP.out.2 (by simp [World.setCell]) (fun q hq => ?_) ?_
      · exact (Below.heap_setCell _ _ _ q hq).trans ((Below.heap_setCell _ _ _ q hq).trans ((Below.heap_setCell _ _ _ q hq).trans ((Below.heap_setCell _ _ _ q hq).trans (Below.heap_setCell _ _ _ q hq))))
      · exact (((((HPP.out.1.bel.setCell (p := ⟨w.heap.size, 0, none⟩) (Nat.le_refl _) _).setCell (p := ⟨w.heap.size, 1, none⟩) (Nat.le_refl _) _).setCell (p := ⟨w.heap.size, 2, none⟩) (Nat.le_refl _) _).setCell (p := ⟨w.heap.size, 3, none⟩) (Nat.le_refl _) _).setCell (p := ⟨w.heap.size, 4, none⟩) (Nat.le_refl _) _)
end Go.Proofs.Ytjmkkjgchgcleaa
