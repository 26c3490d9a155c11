/- Draw of package sketch, by its contract. -/
import Derived.Test.YtjmkkjgchgcleaaSkFill
import Derived.Deep.AppendLies
import Derived.Deep.CutBlock
import Derived.Deep.CutRange
import Derived.Deep.DeepCutAuto
set_option linter.unusedVariables false
namespace Go.Proofs.Ytjmkkjgchgcleaa
open Go.RowKit

attribute [local go_sem ↓] appSem_eq

/-- How far apart the samples of component k are. -/
def stepF (kind : Int) (k : Nat) : Int := if kind = 4 then 1 + (k : Int) % 2 else 1
theorem step_bd (kind : Int) (k : Nat) : 1 ≤ stepF kind k ∧ stepF kind k ≤ 2 := by unfold stepF; split <;> omega
/-- How wide a component is, from a to b. -/
def sideF (kind a b : Int) (k : Nat) : Nat := (ceilF b (stepF kind k) - ceilF a (stepF kind k)).toNat
/-- The cells of a component. -/
def compC (d s : Int) (v : Value) : List Value := [.int .i64 d, .bool false, .int .i64 s, .int .i64 s, v]
/-- The samples of component k. -/
def dataF (x y ox oy d kind : Int) (k : Nat) : List Int := gridP (smpF kind ((2 : Int) ^ d.toNat) k) (sideF kind ox x k) (sideF kind oy y k * sideF kind ox x k)
/-- Components 0 to k - 1 of a drawn picture. -/
structure Pic (H : Nat) (w W : World) (Cv : Value) (k : Nat) (CS : List (List Value)) (x y ox oy d kind : Int) : Prop where
  own : W.ownsRow H 41 5 Cv k CS.flatten
  len : CS.length = k
  cmp : ∀ i cs, CS[i]? = some cs → ∃ A cap, cs = compC d (stepF kind i) (.slice A (dataF x y ox oy d kind i).length cap) ∧ W.ownsRow H 3 1 (.slice A (dataF x y ox oy d kind i).length cap) (dataF x y ox oy d kind i).length ((dataF x y ox oy d kind i).map (Value.int .i64))
  bel : Below H w W
theorem own_lower {w : World} {b b' : Nat} {e : TypeId} {size n : Nat} {v : Value} {xs : List Value} (h : w.ownsRow b e size v n xs) (hb : b' ≤ b) : w.ownsRow b' e size v n xs := by
  refine ⟨h.1, ?_⟩
  rcases h.2 with h | ⟨g, cap, cur, hv, hg, r⟩
  · exact Or.inl h
  · exact Or.inr ⟨g, cap, cur, hv, Nat.le_trans hb hg, r⟩
theorem own_below {w w' : World} {b : Nat} {e : TypeId} {size n : Nat} {v : Value} {xs : List Value} (h : w.ownsRow b e size v n xs) (hb : Below w.heap.size w w') : w'.ownsRow b e size v n xs :=
  ownsRow_keep h hb.size fun k hk => hb.block k (own_lt h hk).2
theorem Pic.keep {H : Nat} {w W W' : World} {Cv : Value} {k : Nat} {CS : List (List Value)} {x y ox oy d kind : Int} (h : Pic H w W Cv k CS x y ox oy d kind) (hH : H ≤ w.heap.size) (hb : Below W.heap.size W W') : Pic H w W' Cv k CS x y ox oy d kind :=
  ⟨own_below h.own hb, h.len, fun i cs hi => by obtain ⟨A, cap, e, ho⟩ := h.cmp i cs hi; exact ⟨A, cap, e, own_below ho hb⟩, h.bel.trans (hb.mono (Nat.le_trans hH h.bel.size))⟩
theorem rows_apart {w : World} {b b' : Nat} {e e' : TypeId} {s s' n n' : Nat} {v v' : Value} {xs xs' : List Value} (h : w.ownsRow b e s v n xs) (h' : w.ownsRow b' e' s' v' n' xs') (he : e ≠ e') : ∀ g, v.ownBlock = some g → v'.ownBlock ≠ some g := by
  intro g hg hg'
  rcases h.2 with ⟨rfl, _⟩ | ⟨q, cap, cur, rfl, _, hq, _⟩
  · cases hg
  rcases h'.2 with ⟨rfl, _⟩ | ⟨q', cap', cur', rfl, _, hq', _⟩
  · cases hg'
  obtain rfl : q = g := by simpa [Value.ownBlock] using hg
  obtain rfl : q' = q := by simpa [Value.ownBlock] using hg'
  rw [hq] at hq'
  simp at hq'
  exact he hq'.2
theorem Try.infoC : (Try.prog.info? 41).map (fun i => (i.zero, i.size, i.bytes)) = some (some (.agg #[.int .i64 0, .bool false, .int .i64 0, .int .i64 0, .slice none 0 0]), 5, 56) := by kernel_rfl

/-- What fill leaves. -/
def PFill (u : World) (hg wd : Nat) (kind m : Int) (k : Nat) (dv : Value) (W1 : World) : Prop :=
  ∃ A cap, dv = .slice A (hg * wd) cap ∧ W1.ownsRow u.heap.size 3 1 (.slice A (hg * wd) cap) (hg * wd) ((gridP (smpF kind m k) wd (hg * wd)).map (Value.int .i64)) ∧ Below u.heap.size u W1
/-- What the append of a component leaves. -/
def PApp (H : Nat) (u : World) (Cv : Value) (k : Nat) (CS : List (List Value)) (d s : Int) (dv : Value) (W1 : World) (v5 : Value) (W3 : World) : Prop :=
  ∃ g cap, v5 = .slice (some ⟨g, 0, none⟩) (k + 1) cap ∧ W3.ownsRow H 41 5 v5 (k + 1) (CS.flatten ++ compC d s dv) ∧ (W1.alloc (.cells #[.int .i64 d, .bool false, .int .i64 s, .int .i64 s, dv] 41)).grownBy W3 Cv.ownBlock ∧ u.ownsRow H 41 5 Cv k CS.flatten ∧ Below u.heap.size u W1
theorem PApp.old {H : Nat} {u : World} {Cv : Value} {k : Nat} {CS : List (List Value)} {d s : Int} {dv : Value} {W1 : World} {v5 : Value} {W3 : World} (h : PApp H u Cv k CS d s dv W1 v5 W3) {p : Nat} {c : Array Value} {t : TypeId} {fr : Nat × Nat} (hp : u.heap[p]? = some (.cells c t fr)) (ht : t ≠ 41) : W3.heap[p]? = some (.cells c t fr) := by
  obtain ⟨g, cap, _, _, hgr, hC, hb⟩ := h
  have hlt := (Array.getElem?_eq_some_iff.1 hp).1
  have h1 : W1.heap[p]? = some (.cells c t fr) := (hb.block p hlt).trans hp
  have hlt1 := (Array.getElem?_eq_some_iff.1 h1).1
  refine (hgr.block p (by simp; omega) (fun e => ?_)).trans ((Below.heap_alloc W1 _ p hlt1).trans h1)
  rcases hC.2 with ⟨rfl, _⟩ | ⟨q, cp, cur, rfl, _, hq, _⟩
  · cases e
  · obtain rfl : q = p := by simpa [Value.ownBlock] using e.symm
    rw [hq] at hp
    simp at hp
    exact ht hp.2.1.symm
theorem PApp.at {H : Nat} {u : World} {Cv : Value} {k : Nat} {CS : List (List Value)} {d s : Int} {dv : Value} {W1 : World} {v5 : Value} {W3 : World} {x y ox oy : Int} (h : PApp H u Cv k CS d s dv W1 v5 W3) (hu : u.heap[H + 1]? = some (.cells #[.int .i64 x, .int .i64 y, .int .i64 ox, .int .i64 oy, Cv] 25 (0, 0))) (hk : k ≤ 4) :
    W3.cell? ⟨H + 1, 4, none⟩ = some Cv ∧ W3.frozen? ⟨H + 1, 4, none⟩ = false := by
  have h1 := h.old hu (by decide)
  exact ⟨by simp [World.cell?, h1], by simp [World.frozen?, h1]⟩
theorem app_comp {H : Nat} {w u : World} {Cv : Value} {k : Nat} {CS : List (List Value)} {x y ox oy d' kind m : Int} {hg wd : Nat} {dv : Value} {W1 : World} {d s : Int} (hP : Pic H w u Cv k CS x y ox oy d' kind) (hF : PFill u hg wd kind m k dv W1) (hHu : H ≤ u.heap.size) (hk : k ≤ 4) :
    ∃ v6 W4, (appSem #[23, 23] 23 #[Cv, .slice (some ⟨W1.heap.size, 0, none⟩) 1 1]).run Try.prog (W1.alloc (.cells #[.int .i64 d, .bool false, .int .i64 s, .int .i64 s, dv] 41)) = .ok v6 W4 ∧ PApp H u Cv k CS d s dv W1 v6 W4 := by
  obtain ⟨i0, e1, z0, z1, z2⟩ := info_parts Try.infoC
  obtain ⟨A, cap, rfl, hown, hb⟩ := hF
  have hCW := own_below hP.own hb
  have hHs : H ≤ W1.heap.size := Nat.le_trans hHu hb.size
  obtain ⟨v', w', hr, hown', hgrow, _, hat⟩ := run_append_own_at (P := Try.prog) (W1.alloc (.cells #[.int .i64 d, .bool false, .int .i64 s, .int .i64 s, .slice A (hg * wd) cap] 41)) H 23 23 41 i0 _ 5 56 Try.underlying23 e1 z0 z1 z2 rfl (by decide) Cv k CS.flatten (hCW.alloc _) ⟨W1.heap.size, 0, none⟩ 1 1 (compC d s (.slice A (hg * wd) cap)) rfl
    (World.news_of_block (cs := #[.int .i64 d, .bool false, .int .i64 s, .int .i64 s, .slice A (hg * wd) cap]) (t := 41) (fr := (0, 0)) (heap_alloc_new W1 _)) (by simp [compC, Value.oneCell']) (by unfold maxLen; omega) (by omega) (by simp; omega)
  obtain ⟨g, c, rfl⟩ := ownsRow_succ hown'
  exact ⟨_, w', hr, g, c, rfl, hown', hgrow, hP.own, hb⟩

theorem row_off {W : World} {b : Nat} {e t : TypeId} {s n p : Nat} {v : Value} {xs : List Value} {c : Array Value} {fr : Nat × Nat} (h : W.ownsRow b e s v n xs) (hp : W.heap[p]? = some (.cells c t fr)) (hte : t ≠ e) : ∀ q, v.ownBlock = some q → q ≠ p := by
  intro q hq hqp
  subst hqp
  rcases h.2 with ⟨rfl, _⟩ | ⟨g, cap, cur, rfl, _, hg, _⟩
  · cases hq
  · obtain rfl : g = q := by simpa [Value.ownBlock] using hq
    rw [hg] at hp
    simp at hp
    exact hte hp.2.1.symm
theorem pic_other {H : Nat} {w W W' : World} {Cv : Value} {k : Nat} {CS : List (List Value)} {x y ox oy d kind : Int} {c : Array Value} (h : Pic H w W Cv k CS x y ox oy d kind) (hb : W.heap[H]? = some (.cells c 25 (0, 0))) (hz : W.heap.size ≤ W'.heap.size) (hq : ∀ q, q ≠ H → W'.heap[q]? = W.heap[q]?) (hB : Below H w W') : Pic H w W' Cv k CS x y ox oy d kind :=
  ⟨ownsRow_keep h.own hz fun q e => hq q (row_off h.own hb (by decide) q e), h.len, fun i cs hi => by obtain ⟨A, cap, e, ho⟩ := h.cmp i cs hi; exact ⟨A, cap, e, ownsRow_keep ho hz fun q e => hq q (row_off ho hb (by decide) q e)⟩, hB⟩
theorem set4 {W : World} {p : Nat} {a b c d e v : Value} {t : TypeId} (h : W.heap[p]? = some (.cells #[a, b, c, d, e] t (0, 0))) : (W.setCell ⟨p, 4, none⟩ v).heap[p]? = some (.cells #[a, b, c, d, v] t (0, 0)) := by
  obtain ⟨hlt, hk⟩ := Array.getElem?_eq_some_iff.1 h
  show (W.heap.modify p _)[p]? = _
  rw [Array.getElem?_eq_getElem (by rw [Array.size_modify]; exact hlt), Array.getElem_modify_self, hk]
  rfl
theorem row_through {H N : Nat} {u : World} {Cv : Value} {k : Nat} {CS : List (List Value)} {d s : Int} {dv : Value} {W1 : World} {v5 : Value} {W3 : World} {x y ox oy : Int} (h : PApp H u Cv k CS d s dv W1 v5 W3) (hu : u.heap[H + 1]? = some (.cells #[.int .i64 x, .int .i64 y, .int .i64 ox, .int .i64 oy, Cv] 25 (0, 0)))
    {v : Value} {n : Nat} {xs : List Value} (ho : W1.ownsRow N 3 1 v n xs) : (W3.setCell ⟨H + 1, 4, none⟩ v5).ownsRow N 3 1 v n xs := by
  have h1 := h.old hu (by decide)
  obtain ⟨g, cap, rfl, hown, hgr, hC, hb⟩ := h
  have hC1 : (W1.alloc (.cells #[.int .i64 d, .bool false, .int .i64 s, .int .i64 s, dv] 41)).ownsRow H 41 5 Cv k CS.flatten := (own_below hC hb).alloc _
  have ho1 := ho.alloc (.cells #[.int .i64 d, .bool false, .int .i64 s, .int .i64 s, dv] 41)
  have ho3 : W3.ownsRow N 3 1 v n xs := ownsRow_keep ho1 hgr.size fun q hq => hgr.block q (own_lt ho1 hq).2 (fun e => rows_apart ho1 hC1 (by decide) q hq e.symm)
  exact ownsRow_keep ho3 (by simp [World.setCell]) fun q hq => Below.heap_setCell _ _ _ q (row_off ho3 h1 (by decide) q hq)
theorem pic_step {H : Nat} {w u : World} {Cv : Value} {k : Nat} {CS : List (List Value)} {x y ox oy d kind : Int} {hg wd : Nat} {dv : Value} {W1 : World} {s : Int} {v5 : Value} {W3 : World} (hP : Pic H w u Cv k CS x y ox oy d kind) (h : PApp H u Cv k CS d s dv W1 v5 W3) (hF : PFill u hg wd kind ((2 : Int) ^ d.toNat) k dv W1) (hHu : H ≤ u.heap.size)
    (hu : u.heap[H + 1]? = some (.cells #[.int .i64 x, .int .i64 y, .int .i64 ox, .int .i64 oy, Cv] 25 (0, 0))) (hu0 : u.heap[H]? = some (.cells #[.int .i64 0, .int .i64 0, .int .i64 0, .int .i64 0, .slice none 0 0] 25 (0, 0)))
    (hs : stepF kind k = s) (hwd : sideF kind ox x k = wd) (hhg : sideF kind oy y k = hg) :
    ∃ CS', Pic H w (W3.setCell ⟨H + 1, 4, none⟩ v5) v5 (k + 1) CS' x y ox oy d kind ∧ (W3.setCell ⟨H + 1, 4, none⟩ v5).heap[H]? = some (.cells #[.int .i64 0, .int .i64 0, .int .i64 0, .int .i64 0, .slice none 0 0] 25 (0, 0)) ∧
      (W3.setCell ⟨H + 1, 4, none⟩ v5).heap[H + 1]? = some (.cells #[.int .i64 x, .int .i64 y, .int .i64 ox, .int .i64 oy, v5] 25 (0, 0)) := by
  have hh := h
  have h1 := h.old hu (by decide)
  have h0 := h.old hu0 (by decide)
  obtain ⟨g, cap, rfl, hown, hgr, hC, hb⟩ := h
  obtain ⟨A, cp, rfl, q5, q6⟩ := hF
  have hdat : dataF x y ox oy d kind k = gridP (smpF kind ((2 : Int) ^ d.toNat) k) wd (hg * wd) := by unfold dataF; rw [hwd, hhg]
  have hdl : (dataF x y ox oy d kind k).length = hg * wd := by rw [hdat, gridP_len]
  refine ⟨CS ++ [compC d s (.slice A (hg * wd) cp)], ⟨?_, by rw [List.length_append, hP.len]; rfl, fun i cs hi => ?_, ?_⟩, (Below.heap_setCell _ _ _ H (by show H ≠ H + 1; omega)).trans h0, set4 h1⟩
  · rw [List.flatten_append, List.flatten_cons, List.flatten_nil, List.append_nil]
    exact ownsRow_keep hown (by simp [World.setCell]) fun q hq => Below.heap_setCell _ _ _ q (row_off hown h1 (by decide) q hq)
  · by_cases hik : i < k
    · rw [List.getElem?_append_left (by rw [hP.len]; exact hik)] at hi
      obtain ⟨A', c', e', ho⟩ := hP.cmp i cs hi
      exact ⟨A', c', e', row_through hh hu (own_below ho hb)⟩
    · rw [List.getElem?_append_right (by rw [hP.len]; omega), hP.len] at hi
      obtain rfl : i = k := by
        rcases hj : i - k with _ | j
        · omega
        · rw [hj] at hi; simp at hi
      simp at hi
      subst hi
      refine ⟨A, cp, by rw [hdl, hs], ?_⟩
      have := row_through hh hu (own_lower q5 hHu)
      rw [hdl, hdat]
      exact this
  · refine (((hP.bel.trans (q6.mono hHu)).alloc (Nat.le_trans hHu q6.size) _).grown hgr (by have := q6.size; simp; omega) fun q e => (own_lt hC e).1).setCell (p := ⟨H + 1, 4, none⟩) (by show H ≤ H + 1; omega) _

set_option maxRecDepth 100000 in
set_option maxHeartbeats 16000000 in
theorem draw_any (x y ox oy n d kind : Int) (w : World) (h0 : 0 ≤ ox ∧ ox < x ∧ x ≤ 64) (h1 : 0 ≤ oy ∧ oy < y ∧ y ≤ 64) (hn : 1 ≤ n ∧ n ≤ 4) (hd : 1 ≤ d ∧ d ≤ 16) (hk : 0 ≤ kind ∧ kind ≤ 4) :
    Calls Try.prog 9 #[.int .i64 x, .int .i64 y, .int .i64 ox, .int .i64 oy, .int .i64 n, .int .i64 d, .int .i64 kind] w fun e w' => ∃ Cv CS,
      e = .returned (.tuple #[.agg #[.int .i64 x, .int .i64 y, .int .i64 ox, .int .i64 oy, Cv], .int .i64 0]) ∧ Pic w.heap.size w w' Cv n.toNat CS x y ox oy d kind := by
  have hmo : Try.prog.follows .mixedOrders = true := by kernel_rfl
  have t1 : decide (ox < 0) = false := by simp; omega
  have t2 : decide (oy < 0) = false := by simp; omega
  have t3 : decide (x ≤ ox) = false := by simp; omega
  have t4 : decide (y ≤ oy) = false := by simp; omega
  have t5 : decide (64 < x) = false := by simp; omega
  have t6 : decide (64 < y) = false := by simp; omega
  have t7 : decide (n < 1) = false := by simp; omega
  have t8 : decide (4 < n) = false := by simp; omega
  have t9 : decide (d < 1) = false := by simp; omega
  have t10 : decide (16 < d) = false := by simp; omega
  have t11 : decide (kind < 0) = false := by simp; omega
  have t12 : decide (4 < kind) = false := by simp; omega
  go_enter Try.func9, Try.ntmps9
  go_wp2
  obtain ⟨W0, hW0⟩ : ∃ W0, (w.alloc (Obj.cells #[.int .i64 0, .int .i64 0, .int .i64 0, .int .i64 0, .slice none 0 0] 25)).alloc (Obj.cells #[.int .i64 x, .int .i64 y, .int .i64 ox, .int .i64 oy, .slice none 0 0] 25) = W0 := ⟨_, rfl⟩
  have hB0 : Below w.heap.size w W0 := by rw [← hW0]; exact ((Below.refl _ w).alloc (Nat.le_refl _) _).alloc (by simp) _
  have b0 : W0.heap[w.heap.size]? = some (.cells #[.int .i64 0, .int .i64 0, .int .i64 0, .int .i64 0, .slice none 0 0] 25 (0, 0)) := by
    rw [← hW0, Below.heap_alloc _ _ _ (by simp)]; exact World.alloc_heap_new w _
  have b1 : W0.heap[w.heap.size + 1]? = some (.cells #[.int .i64 x, .int .i64 y, .int .i64 ox, .int .i64 oy, .slice none 0 0] 25 (0, 0)) := by
    rw [← hW0, show w.heap.size + 1 = (w.alloc (Obj.cells #[.int .i64 0, .int .i64 0, .int .i64 0, .int .i64 0, .slice none 0 0] 25)).heap.size by simp]; exact World.alloc_heap_new _ _
  rw [hW0]
  have P0 : Pic w.heap.size w W0 (.slice none 0 0) 0 [] x y ox oy d kind := ⟨World.ownsRow_nil _ _ _ _, rfl, fun i cs h => by simp at h, hB0⟩
  have H0 := Lib.hid (And.intro P0 (And.intro b0 b1))
  have HT := Lib.hid (And.intro t1 (And.intro t2 (And.intro t3 (And.intro t4 (And.intro t5 (And.intro t6 t7))))))
  clear hW0 hB0 b0 b1 P0 t1 t2 t3 t4 t5 t6 t7 t8 t9 t10 t11 t12
  go_loopw [75] (fun kv wr => ∃ (k : Nat) (Cv : Value) (CS : List (List Value)), (k : Int) ≤ n ∧ kv = .int .i64 k ∧ Pic w.heap.size w wr Cv k CS x y ox oy d kind ∧ wr.heap[w.heap.size]? = some (.cells #[.int .i64 0, .int .i64 0, .int .i64 0, .int .i64 0, .slice none 0 0] 25 (0, 0)) ∧ wr.heap[w.heap.size + 1]? = some (.cells #[.int .i64 x, .int .i64 y, .int .i64 ox, .int .i64 oy, Cv] 25 (0, 0)))
    (fun kv _ => (n - intOf kv).toNat)
  case atStart => exact ⟨0, _, [], by omega, rfl, H0.out.1, H0.out.2.1, H0.out.2.2⟩
  case round =>
    obtain ⟨k, Cv, CS, hkn, rfl, hP, hb0, hb1⟩ := hrel
    have HP := Lib.hid (And.intro hP (And.intro hb0 hb1))
    have hsz : w.heap.size + 1 < wr.heap.size := (Array.getElem?_eq_some_iff.1 hb1).1
    clear hP hb0 hb1
    by_cases ck : (k : Int) < n
    · have hsb := step_bd kind k
      have hst : Hid (stepF kind k = if kind = 4 then 1 + (k : Int) % 2 else 1) := Lib.hid rfl
      generalize hs : stepF kind k = s at *
      have HS := Lib.hid hs
      clear hs
      go_upto_if 79 with fail
      go_cut [18] from 80 to 83 (fun v wx => v = .int .i64 s ∧ wr = wx)
      case first =>
        by_cases c4 : kind = 4
        · have e := hst.out
          rw [if_pos c4] at e
          subst c4
          have E := Lib.hid e
          clear e
          go_wp2_with fail
          go_meet
          exact ⟨by rw [E.out], rfl⟩
        · have e := hst.out
          rw [if_neg c4] at e
          have E := Lib.hid e
          have c5 : (kind == 4) = false := by simpa using c4
          clear e c4
          go_wp2_with fail
          go_meet
          exact ⟨by rw [E.out], rfl⟩
      case rest =>
        obtain ⟨rfl, hwx⟩ := hcut
        subst hwx
        go_wp2_with fail
        refine (part_any ox oy x y s s _ (by omega) (by omega) (by omega) (by omega) (by omega) (by omega)).mono ?_
        rintro e w1 ⟨rfl, hb1⟩
        go_wp2_with fail
        obtain ⟨R, hR⟩ : ∃ R, w1.alloc (Obj.cells #[.int .i64 (ceilF ox s), .int .i64 (ceilF oy s), .int .i64 (ceilF x s), .int .i64 (ceilF y s)] 47) = R := ⟨_, rfl⟩
        have hbR : Below wr.heap.size wr R := by rw [← hR]; exact hb1.alloc hb1.size _
        have hrR : R.heap[w1.heap.size]? = some (.cells #[.int .i64 (ceilF ox s), .int .i64 (ceilF oy s), .int .i64 (ceilF x s), .int .i64 (ceilF y s)] 47 (0, 0)) := by rw [← hR]; exact World.alloc_heap_new w1 _
        have hw1 := hb1.size
        rw [hR]
        clear hR hb1
        refine (samples_any kind d k R hk hd (by omega)).mono ?_
        rintro e u ⟨bn, bm, rfl, hsmp, hbu⟩
        have hbU := hbR.trans (hbu.mono hbR.size)
        have hPu := HP.out.1.keep (Nat.le_refl _) hbU
        have hu0 := (hbU.block w.heap.size (by omega)).trans HP.out.2.1
        have hu1 := (hbU.block (w.heap.size + 1) (by omega)).trans HP.out.2.2
        have hur := (hbu.block w1.heap.size (Array.getElem?_eq_some_iff.1 hrR).1).trans hrR
        have hurn : w1.heap.size ≠ w.heap.size + 1 := by omega
        clear hbR hrR hbu HP hst hbU hw1
        obtain ⟨br, hbr⟩ : ∃ br, w1.heap.size = br := ⟨_, rfl⟩
        rw [hbr] at hur hurn ⊢
        clear hbr
        go_wp2_with fail
        have g0 : u.drew.cell? ⟨br, 0, none⟩ = some (.int .i64 (ceilF ox s)) := by show u.cell? _ = _; simp [World.cell?, hur]
        have g1 : u.drew.cell? ⟨br, 1, none⟩ = some (.int .i64 (ceilF oy s)) := by show u.cell? _ = _; simp [World.cell?, hur]
        have g2 : u.drew.cell? ⟨br, 2, none⟩ = some (.int .i64 (ceilF x s)) := by show u.cell? _ = _; simp [World.cell?, hur]
        have g3 : u.drew.cell? ⟨br, 3, none⟩ = some (.int .i64 (ceilF y s)) := by show u.cell? _ = _; simp [World.cell?, hur]
        have g4 : u.drew.cell? ⟨w.heap.size + 1, 4, none⟩ = some Cv := by show u.cell? _ = _; simp [World.cell?, hu1]
        have hsmpD : Smp u.drew bn bm kind ((2 : Int) ^ d.toNat) k := hsmp.later (below_drewN (Below.refl _ u) 1)
        have cb1 := ceil_bd ox s h0.1 hsb.1
        have cb2 := ceil_bd x s (by omega) hsb.1
        have cb3 := ceil_bd oy s h1.1 hsb.1
        have cb4 := ceil_bd y s (by omega) hsb.1
        have cm1 := ceil_mono (show ox ≤ x by omega) hsb.1
        have cm2 := ceil_mono (show oy ≤ y by omega) hsb.1
        obtain ⟨wd, hwd⟩ : ∃ wd : Nat, ceilF x s - ceilF ox s = (wd : Int) := ⟨(ceilF x s - ceilF ox s).toNat, by omega⟩
        obtain ⟨hg, hhg⟩ : ∃ hg : Nat, ceilF y s - ceilF oy s = (hg : Int) := ⟨(ceilF y s - ceilF oy s).toNat, by omega⟩
        have hw9 : IntKind.i64.wrap (ceilF x s - ceilF ox s) = (wd : Int) := by rw [← hwd]; exact IntWalk.i64_in _ (by omega)
        have hh9 : IntKind.i64.wrap (ceilF y s - ceilF oy s) = (hg : Int) := by rw [← hhg]; exact IntWalk.i64_in _ (by omega)
        have hwd64 : wd ≤ 64 := by omega
        have hhg64 : hg ≤ 64 := by omega
        have HWD := Lib.hid (And.intro hwd hhg)
        have hk4 : k ≤ 4 := by omega
        have hus : w.heap.size + 1 < u.heap.size := (Array.getElem?_eq_some_iff.1 hu1).1
        clear hwd hhg cb1 cb2 cb3 cb4 cm1 cm2 hsmp
        refine (wpIn_wide (n := 9)).1 (regionIn_inv (Inv := fun L a w' => ∃ (dv : Value) (W1 : World) (v5 : Value) (W3 : World), a = { tmps := #[Value.int IntKind.i64 x, Value.int IntKind.i64 y, Value.int IntKind.i64 ox, Value.int IntKind.i64 oy, Value.int IntKind.i64 n, Value.int IntKind.i64 d, Value.int IntKind.i64 kind, undef, undef, undef, undef, undef, undef, undef, Value.pointer (some { block := w.heap.size, off := 0 }), Value.int IntKind.i64 0, Value.pointer (some { block := w.heap.size + 1, off := 0 }), Value.int IntKind.i64 ↑k, Value.int IntKind.i64 s, Value.pointer (some { block := br, off := 0 }), Value.func (Fn.func 34) #[] #[Value.pointer (some { block := bn, off := 0 }), Value.pointer (some { block := bm, off := 0 })], Value.int IntKind.i64 ox, Value.bool false, Value.bool false, Value.int IntKind.i64 oy, Value.bool false, Value.bool false, Value.bool false, Value.int IntKind.i64 x, Value.int IntKind.i64 ox, Value.bool false, Value.bool false, Value.bool false, Value.int IntKind.i64 x, Value.bool false, Value.bool false, Value.bool false, Value.int IntKind.i64 y, Value.int IntKind.i64 oy, Value.bool false, Value.bool false, Value.bool false, Value.int IntKind.i64 y, Value.bool false, Value.bool false, undef, Value.int IntKind.i64 n, Value.bool false, Value.bool false, Value.int IntKind.i64 n, Value.bool false, Value.bool false, Value.bool false, Value.int IntKind.i64 d, Value.bool false, Value.bool false, Value.bool false, Value.int IntKind.i64 d, Value.bool false, Value.bool false, Value.bool false, Value.int IntKind.i64 kind, Value.bool false, Value.bool false, Value.bool false, Value.int IntKind.i64 kind, Value.bool false, Value.bool false, undef, Value.int IntKind.i64 x, Value.int IntKind.i64 y, Value.int IntKind.i64 ox, Value.int IntKind.i64 oy, Value.agg #[Value.int IntKind.i64 x, Value.int IntKind.i64 y, Value.int IntKind.i64 ox, Value.int IntKind.i64 oy, Value.slice none 0 0], Value.int IntKind.i64 n, Value.int IntKind.i64 ↑k, Value.bool true, Value.int IntKind.i64 ↑k, Value.int IntKind.i64 kind, Value.bool (kind == 4), u80, u81, u82, u83, Value.int IntKind.i64 ox, Value.int IntKind.i64 oy, Value.int IntKind.i64 x, Value.int IntKind.i64 y, Value.agg #[Value.int IntKind.i64 ox, Value.int IntKind.i64 oy, Value.int IntKind.i64 x, Value.int IntKind.i64 y], Value.int IntKind.i64 s, Value.int IntKind.i64 s, Value.agg #[Value.int IntKind.i64 (ceilF ox s), Value.int IntKind.i64 (ceilF oy s), Value.int IntKind.i64 (ceilF x s), Value.int IntKind.i64 (ceilF y s)], Value.int IntKind.i64 kind, Value.int IntKind.i64 d, Value.int IntKind.i64 ↑k, Value.func (Fn.func 34) #[] #[Value.pointer (some { block := bn, off := 0 }), Value.pointer (some { block := bm, off := 0 })], bif L 0 then .pointer (some ⟨w.heap.size + 1, 4, none⟩) else u96, bif L 1 then Cv else u97, bif L 2 then .int .i64 d else u98, bif L 3 then .int .i64 s else u99, bif L 4 then .int .i64 s else u100, bif L 5 then .pointer (some ⟨br, 2, none⟩) else u101, bif L 6 then .int .i64 (ceilF x s) else u102, bif L 7 then .pointer (some ⟨br, 0, none⟩) else u103, bif L 8 then .int .i64 (ceilF ox s) else u104, bif L 9 then .int .i64 (wd : Int) else u105, bif L 10 then .pointer (some ⟨br, 3, none⟩) else u106, bif L 11 then .int .i64 (ceilF y s) else u107, bif L 12 then .pointer (some ⟨br, 1, none⟩) else u108, bif L 13 then .int .i64 (ceilF oy s) else u109, bif L 14 then .int .i64 (hg : Int) else u110, bif L 15 then .func (.func 34) #[] #[.pointer (some ⟨bn, 0, none⟩), .pointer (some ⟨bm, 0, none⟩)] else u111, bif L 16 then dv else u112, bif L 17 then .agg #[.int .i64 d, .bool false, .int .i64 s, .int .i64 s, dv] else u113, bif L 18 then .slice (some ⟨W1.heap.size, 0, none⟩) 1 1 else u114, bif L 19 then v5 else u115, bif L 20 then .pointer (some ⟨w.heap.size + 1, 4, none⟩) else u116, u117, undef], defers := [] } ∧ (L 19 = false → w'.cell? ⟨w.heap.size + 1, 4, none⟩ = some Cv) ∧ (L 16 = false → w' = u.drew) ∧ (L 16 = true → PFill u hg wd kind ((2 : Int) ^ d.toNat) k dv W1) ∧ (L 16 = true → L 18 = false → w' = W1) ∧ (L 18 = true → L 19 = false → w' = W1.alloc (Obj.cells #[.int .i64 d, .bool false, .int .i64 s, .int .i64 s, dv] 41)) ∧ (L 19 = true → PApp w.heap.size u Cv k CS d s dv W1 v5 W3) ∧ (L 19 = true → L 21 = false → w' = W3) ∧ (L 21 = true → w' = W3.setCell ⟨w.heap.size + 1, 4, none⟩ v5)) hmo (by kernel_rfl) ?start ?step ?fin)
        case start => exact ⟨undef, u, undef, u, rfl, fun _ => g4, fun _ => rfl, fun h => (by cases h), fun h => (by cases h), fun h => (by cases h), fun h => (by cases h), fun h => (by cases h), fun h => (by cases h)⟩
        case step =>
          intro i hi L a' w' hI hs hu
          obtain ⟨dv, W1, v5, W3, rfl, hc4, hW0, hF, hW1, hW2, hP3, hW3, hW4⟩ := hI
          have hL := hu.1
          have hi : i < 22 := hi
          obtain rfl | rfl | rfl | rfl | rfl | rfl | rfl | rfl | rfl | rfl | rfl | rfl | rfl | rfl | rfl | rfl | rfl | rfl | rfl | rfl | rfl | rfl := (by omega : i = 0 ∨ i = 1 ∨ i = 2 ∨ i = 3 ∨ i = 4 ∨ i = 5 ∨ i = 6 ∨ i = 7 ∨ i = 8 ∨ i = 9 ∨ i = 10 ∨ i = 11 ∨ i = 12 ∨ i = 13 ∨ i = 14 ∨ i = 15 ∨ i = 16 ∨ i = 17 ∨ i = 18 ∨ i = 19 ∨ i = 20 ∨ i = 21)
          · trace "op 0"
            have n19 : L 19 = false := not_yet hL fun h => shut_at hs 1 0 (by kernel_rfl) (shut_at hs 19 1 (by kernel_rfl) (h))
            have n21 : L 21 = false := not_yet hL fun h => shut_at hs 21 0 (by kernel_rfl) (h)
            refine opIn_run (v := .pointer (some ⟨w.heap.size + 1, 4, none⟩)) (w' := w') rfl rfl (fun c h => by cases h) (fun _ => trivial) ?_ ⟨dv, W1, v5, W3, by simp [Act.put, upd, n19, n21, hL], hc4, hW0, hF, hW1, hW2, hP3, hW3, hW4⟩
            simp only [n19, n21, hL, cond_true, cond_false]
            go_simp
          · trace "op 1"
            have y0 : L 0 = true := up_at hu 0 (by kernel_rfl)
            have n19 : L 19 = false := not_yet hL fun h => shut_at hs 19 1 (by kernel_rfl) (h)
            have n21 : L 21 = false := not_yet hL fun h => shut_at hs 21 1 (by kernel_rfl) (h)
            have hc := hc4 n19
            refine opIn_run (v := Cv) (w' := w') rfl rfl (fun c h => by cases h) (fun _ => trivial) ?_ ⟨dv, W1, v5, W3, by simp [Act.put, upd, y0, n19, n21, hL], hc4, hW0, hF, hW1, hW2, hP3, hW3, hW4⟩
            simp only [y0, n19, n21, hL, cond_true, cond_false]
            go_simp
          · trace "op 2"
            have n17 : L 17 = false := not_yet hL fun h => shut_at hs 17 2 (by kernel_rfl) (h)
            have n18 : L 18 = false := not_yet hL fun h => shut_at hs 17 2 (by kernel_rfl) (shut_at hs 18 17 (by kernel_rfl) (h))
            have n19 : L 19 = false := not_yet hL fun h => shut_at hs 17 2 (by kernel_rfl) (shut_at hs 18 17 (by kernel_rfl) (shut_at hs 19 18 (by kernel_rfl) (h)))
            have n21 : L 21 = false := not_yet hL fun h => shut_at hs 21 2 (by kernel_rfl) (h)
            refine opIn_run (v := .int .i64 d) (w' := w') rfl rfl (fun c h => by cases h) (fun _ => trivial) ?_ ⟨dv, W1, v5, W3, by simp [Act.put, upd, n17, n18, n19, n21, hL], hc4, hW0, hF, hW1, hW2, hP3, hW3, hW4⟩
            simp only [n17, n18, n19, n21, hL, cond_true, cond_false]
            go_simp
          · trace "op 3"
            have n17 : L 17 = false := not_yet hL fun h => shut_at hs 17 3 (by kernel_rfl) (h)
            have n18 : L 18 = false := not_yet hL fun h => shut_at hs 17 3 (by kernel_rfl) (shut_at hs 18 17 (by kernel_rfl) (h))
            have n19 : L 19 = false := not_yet hL fun h => shut_at hs 17 3 (by kernel_rfl) (shut_at hs 18 17 (by kernel_rfl) (shut_at hs 19 18 (by kernel_rfl) (h)))
            have n21 : L 21 = false := not_yet hL fun h => shut_at hs 21 3 (by kernel_rfl) (h)
            refine opIn_run (v := .int .i64 s) (w' := w') rfl rfl (fun c h => by cases h) (fun _ => trivial) ?_ ⟨dv, W1, v5, W3, by simp [Act.put, upd, n17, n18, n19, n21, hL], hc4, hW0, hF, hW1, hW2, hP3, hW3, hW4⟩
            simp only [n17, n18, n19, n21, hL, cond_true, cond_false]
            go_simp
          · trace "op 4"
            have n17 : L 17 = false := not_yet hL fun h => shut_at hs 17 4 (by kernel_rfl) (h)
            have n18 : L 18 = false := not_yet hL fun h => shut_at hs 17 4 (by kernel_rfl) (shut_at hs 18 17 (by kernel_rfl) (h))
            have n19 : L 19 = false := not_yet hL fun h => shut_at hs 17 4 (by kernel_rfl) (shut_at hs 18 17 (by kernel_rfl) (shut_at hs 19 18 (by kernel_rfl) (h)))
            have n21 : L 21 = false := not_yet hL fun h => shut_at hs 21 4 (by kernel_rfl) (h)
            refine opIn_run (v := .int .i64 s) (w' := w') rfl rfl (fun c h => by cases h) (fun _ => trivial) ?_ ⟨dv, W1, v5, W3, by simp [Act.put, upd, n17, n18, n19, n21, hL], hc4, hW0, hF, hW1, hW2, hP3, hW3, hW4⟩
            simp only [n17, n18, n19, n21, hL, cond_true, cond_false]
            go_simp
          · trace "op 5"
            have n16 : L 16 = false := not_yet hL fun h => shut_at hs 6 5 (by kernel_rfl) (shut_at hs 9 6 (by kernel_rfl) (shut_at hs 16 9 (by kernel_rfl) (h)))
            have n17 : L 17 = false := not_yet hL fun h => shut_at hs 6 5 (by kernel_rfl) (shut_at hs 9 6 (by kernel_rfl) (shut_at hs 16 9 (by kernel_rfl) (shut_at hs 17 16 (by kernel_rfl) (h))))
            have n18 : L 18 = false := not_yet hL fun h => shut_at hs 6 5 (by kernel_rfl) (shut_at hs 9 6 (by kernel_rfl) (shut_at hs 16 9 (by kernel_rfl) (shut_at hs 17 16 (by kernel_rfl) (shut_at hs 18 17 (by kernel_rfl) (h)))))
            have n19 : L 19 = false := not_yet hL fun h => shut_at hs 6 5 (by kernel_rfl) (shut_at hs 9 6 (by kernel_rfl) (shut_at hs 16 9 (by kernel_rfl) (shut_at hs 19 16 (by kernel_rfl) (h))))
            have n21 : L 21 = false := not_yet hL fun h => shut_at hs 21 5 (by kernel_rfl) (h)
            refine opIn_run (v := .pointer (some ⟨br, 2, none⟩)) (w' := w') rfl rfl (fun c h => by cases h) (fun _ => trivial) ?_ ⟨dv, W1, v5, W3, by simp [Act.put, upd, n16, n17, n18, n19, n21, hL], hc4, hW0, hF, hW1, hW2, hP3, hW3, hW4⟩
            simp only [n16, n17, n18, n19, n21, hL, cond_true, cond_false]
            go_simp
          · trace "op 6"
            have y5 : L 5 = true := up_at hu 5 (by kernel_rfl)
            have n16 : L 16 = false := not_yet hL fun h => shut_at hs 9 6 (by kernel_rfl) (shut_at hs 16 9 (by kernel_rfl) (h))
            have n17 : L 17 = false := not_yet hL fun h => shut_at hs 9 6 (by kernel_rfl) (shut_at hs 16 9 (by kernel_rfl) (shut_at hs 17 16 (by kernel_rfl) (h)))
            have n18 : L 18 = false := not_yet hL fun h => shut_at hs 9 6 (by kernel_rfl) (shut_at hs 16 9 (by kernel_rfl) (shut_at hs 17 16 (by kernel_rfl) (shut_at hs 18 17 (by kernel_rfl) (h))))
            have n19 : L 19 = false := not_yet hL fun h => shut_at hs 9 6 (by kernel_rfl) (shut_at hs 16 9 (by kernel_rfl) (shut_at hs 19 16 (by kernel_rfl) (h)))
            have n21 : L 21 = false := not_yet hL fun h => shut_at hs 21 6 (by kernel_rfl) (h)
            obtain rfl := hW0 n16
            refine opIn_run (v := .int .i64 (ceilF x s)) (w' := u.drew) rfl rfl (fun c h => by cases h) (fun _ => trivial) ?_ ⟨dv, W1, v5, W3, by simp [Act.put, upd, y5, n16, n17, n18, n19, n21, hL], hc4, (fun _ => rfl), hF, hW1, hW2, hP3, hW3, hW4⟩
            simp only [y5, n16, n17, n18, n19, n21, hL, cond_true, cond_false]
            go_simp
          · trace "op 7"
            have n16 : L 16 = false := not_yet hL fun h => shut_at hs 8 7 (by kernel_rfl) (shut_at hs 9 8 (by kernel_rfl) (shut_at hs 16 9 (by kernel_rfl) (h)))
            have n17 : L 17 = false := not_yet hL fun h => shut_at hs 8 7 (by kernel_rfl) (shut_at hs 9 8 (by kernel_rfl) (shut_at hs 16 9 (by kernel_rfl) (shut_at hs 17 16 (by kernel_rfl) (h))))
            have n18 : L 18 = false := not_yet hL fun h => shut_at hs 8 7 (by kernel_rfl) (shut_at hs 9 8 (by kernel_rfl) (shut_at hs 16 9 (by kernel_rfl) (shut_at hs 17 16 (by kernel_rfl) (shut_at hs 18 17 (by kernel_rfl) (h)))))
            have n19 : L 19 = false := not_yet hL fun h => shut_at hs 8 7 (by kernel_rfl) (shut_at hs 9 8 (by kernel_rfl) (shut_at hs 16 9 (by kernel_rfl) (shut_at hs 19 16 (by kernel_rfl) (h))))
            have n21 : L 21 = false := not_yet hL fun h => shut_at hs 21 7 (by kernel_rfl) (h)
            refine opIn_run (v := .pointer (some ⟨br, 0, none⟩)) (w' := w') rfl rfl (fun c h => by cases h) (fun _ => trivial) ?_ ⟨dv, W1, v5, W3, by simp [Act.put, upd, n16, n17, n18, n19, n21, hL], hc4, hW0, hF, hW1, hW2, hP3, hW3, hW4⟩
            simp only [n16, n17, n18, n19, n21, hL, cond_true, cond_false]
            go_simp
          · trace "op 8"
            have y7 : L 7 = true := up_at hu 7 (by kernel_rfl)
            have n16 : L 16 = false := not_yet hL fun h => shut_at hs 9 8 (by kernel_rfl) (shut_at hs 16 9 (by kernel_rfl) (h))
            have n17 : L 17 = false := not_yet hL fun h => shut_at hs 9 8 (by kernel_rfl) (shut_at hs 16 9 (by kernel_rfl) (shut_at hs 17 16 (by kernel_rfl) (h)))
            have n18 : L 18 = false := not_yet hL fun h => shut_at hs 9 8 (by kernel_rfl) (shut_at hs 16 9 (by kernel_rfl) (shut_at hs 17 16 (by kernel_rfl) (shut_at hs 18 17 (by kernel_rfl) (h))))
            have n19 : L 19 = false := not_yet hL fun h => shut_at hs 9 8 (by kernel_rfl) (shut_at hs 16 9 (by kernel_rfl) (shut_at hs 19 16 (by kernel_rfl) (h)))
            have n21 : L 21 = false := not_yet hL fun h => shut_at hs 21 8 (by kernel_rfl) (h)
            obtain rfl := hW0 n16
            refine opIn_run (v := .int .i64 (ceilF ox s)) (w' := u.drew) rfl rfl (fun c h => by cases h) (fun _ => trivial) ?_ ⟨dv, W1, v5, W3, by simp [Act.put, upd, y7, n16, n17, n18, n19, n21, hL], hc4, (fun _ => rfl), hF, hW1, hW2, hP3, hW3, hW4⟩
            simp only [y7, n16, n17, n18, n19, n21, hL, cond_true, cond_false]
            go_simp
          · trace "op 9"
            have y5 : L 5 = true := shut_at hs 6 5 (by kernel_rfl) (up_at hu 6 (by kernel_rfl))
            have y6 : L 6 = true := up_at hu 6 (by kernel_rfl)
            have y7 : L 7 = true := shut_at hs 8 7 (by kernel_rfl) (up_at hu 8 (by kernel_rfl))
            have y8 : L 8 = true := up_at hu 8 (by kernel_rfl)
            have n16 : L 16 = false := not_yet hL fun h => shut_at hs 16 9 (by kernel_rfl) (h)
            have n17 : L 17 = false := not_yet hL fun h => shut_at hs 16 9 (by kernel_rfl) (shut_at hs 17 16 (by kernel_rfl) (h))
            have n18 : L 18 = false := not_yet hL fun h => shut_at hs 16 9 (by kernel_rfl) (shut_at hs 17 16 (by kernel_rfl) (shut_at hs 18 17 (by kernel_rfl) (h)))
            have n19 : L 19 = false := not_yet hL fun h => shut_at hs 16 9 (by kernel_rfl) (shut_at hs 19 16 (by kernel_rfl) (h))
            have n21 : L 21 = false := not_yet hL fun h => shut_at hs 21 9 (by kernel_rfl) (h)
            refine opIn_run (v := .int .i64 (wd : Int)) (w' := w') rfl rfl (fun c h => by cases h) (fun _ => trivial) ?_ ⟨dv, W1, v5, W3, by simp [Act.put, upd, y5, y6, y7, y8, n16, n17, n18, n19, n21, hL], hc4, hW0, hF, hW1, hW2, hP3, hW3, hW4⟩
            simp only [y5, y6, y7, y8, n16, n17, n18, n19, n21, hL, cond_true, cond_false]
            go_simp
          · trace "op 10"
            have n16 : L 16 = false := not_yet hL fun h => shut_at hs 11 10 (by kernel_rfl) (shut_at hs 14 11 (by kernel_rfl) (shut_at hs 16 14 (by kernel_rfl) (h)))
            have n17 : L 17 = false := not_yet hL fun h => shut_at hs 11 10 (by kernel_rfl) (shut_at hs 14 11 (by kernel_rfl) (shut_at hs 16 14 (by kernel_rfl) (shut_at hs 17 16 (by kernel_rfl) (h))))
            have n18 : L 18 = false := not_yet hL fun h => shut_at hs 11 10 (by kernel_rfl) (shut_at hs 14 11 (by kernel_rfl) (shut_at hs 16 14 (by kernel_rfl) (shut_at hs 17 16 (by kernel_rfl) (shut_at hs 18 17 (by kernel_rfl) (h)))))
            have n19 : L 19 = false := not_yet hL fun h => shut_at hs 11 10 (by kernel_rfl) (shut_at hs 14 11 (by kernel_rfl) (shut_at hs 16 14 (by kernel_rfl) (shut_at hs 19 16 (by kernel_rfl) (h))))
            have n21 : L 21 = false := not_yet hL fun h => shut_at hs 21 10 (by kernel_rfl) (h)
            refine opIn_run (v := .pointer (some ⟨br, 3, none⟩)) (w' := w') rfl rfl (fun c h => by cases h) (fun _ => trivial) ?_ ⟨dv, W1, v5, W3, by simp [Act.put, upd, n16, n17, n18, n19, n21, hL], hc4, hW0, hF, hW1, hW2, hP3, hW3, hW4⟩
            simp only [n16, n17, n18, n19, n21, hL, cond_true, cond_false]
            go_simp
          · trace "op 11"
            have y10 : L 10 = true := up_at hu 10 (by kernel_rfl)
            have n16 : L 16 = false := not_yet hL fun h => shut_at hs 14 11 (by kernel_rfl) (shut_at hs 16 14 (by kernel_rfl) (h))
            have n17 : L 17 = false := not_yet hL fun h => shut_at hs 14 11 (by kernel_rfl) (shut_at hs 16 14 (by kernel_rfl) (shut_at hs 17 16 (by kernel_rfl) (h)))
            have n18 : L 18 = false := not_yet hL fun h => shut_at hs 14 11 (by kernel_rfl) (shut_at hs 16 14 (by kernel_rfl) (shut_at hs 17 16 (by kernel_rfl) (shut_at hs 18 17 (by kernel_rfl) (h))))
            have n19 : L 19 = false := not_yet hL fun h => shut_at hs 14 11 (by kernel_rfl) (shut_at hs 16 14 (by kernel_rfl) (shut_at hs 19 16 (by kernel_rfl) (h)))
            have n21 : L 21 = false := not_yet hL fun h => shut_at hs 21 11 (by kernel_rfl) (h)
            obtain rfl := hW0 n16
            refine opIn_run (v := .int .i64 (ceilF y s)) (w' := u.drew) rfl rfl (fun c h => by cases h) (fun _ => trivial) ?_ ⟨dv, W1, v5, W3, by simp [Act.put, upd, y10, n16, n17, n18, n19, n21, hL], hc4, (fun _ => rfl), hF, hW1, hW2, hP3, hW3, hW4⟩
            simp only [y10, n16, n17, n18, n19, n21, hL, cond_true, cond_false]
            go_simp
          · trace "op 12"
            have n16 : L 16 = false := not_yet hL fun h => shut_at hs 13 12 (by kernel_rfl) (shut_at hs 14 13 (by kernel_rfl) (shut_at hs 16 14 (by kernel_rfl) (h)))
            have n17 : L 17 = false := not_yet hL fun h => shut_at hs 13 12 (by kernel_rfl) (shut_at hs 14 13 (by kernel_rfl) (shut_at hs 16 14 (by kernel_rfl) (shut_at hs 17 16 (by kernel_rfl) (h))))
            have n18 : L 18 = false := not_yet hL fun h => shut_at hs 13 12 (by kernel_rfl) (shut_at hs 14 13 (by kernel_rfl) (shut_at hs 16 14 (by kernel_rfl) (shut_at hs 17 16 (by kernel_rfl) (shut_at hs 18 17 (by kernel_rfl) (h)))))
            have n19 : L 19 = false := not_yet hL fun h => shut_at hs 13 12 (by kernel_rfl) (shut_at hs 14 13 (by kernel_rfl) (shut_at hs 16 14 (by kernel_rfl) (shut_at hs 19 16 (by kernel_rfl) (h))))
            have n21 : L 21 = false := not_yet hL fun h => shut_at hs 21 12 (by kernel_rfl) (h)
            refine opIn_run (v := .pointer (some ⟨br, 1, none⟩)) (w' := w') rfl rfl (fun c h => by cases h) (fun _ => trivial) ?_ ⟨dv, W1, v5, W3, by simp [Act.put, upd, n16, n17, n18, n19, n21, hL], hc4, hW0, hF, hW1, hW2, hP3, hW3, hW4⟩
            simp only [n16, n17, n18, n19, n21, hL, cond_true, cond_false]
            go_simp
          · trace "op 13"
            have y12 : L 12 = true := up_at hu 12 (by kernel_rfl)
            have n16 : L 16 = false := not_yet hL fun h => shut_at hs 14 13 (by kernel_rfl) (shut_at hs 16 14 (by kernel_rfl) (h))
            have n17 : L 17 = false := not_yet hL fun h => shut_at hs 14 13 (by kernel_rfl) (shut_at hs 16 14 (by kernel_rfl) (shut_at hs 17 16 (by kernel_rfl) (h)))
            have n18 : L 18 = false := not_yet hL fun h => shut_at hs 14 13 (by kernel_rfl) (shut_at hs 16 14 (by kernel_rfl) (shut_at hs 17 16 (by kernel_rfl) (shut_at hs 18 17 (by kernel_rfl) (h))))
            have n19 : L 19 = false := not_yet hL fun h => shut_at hs 14 13 (by kernel_rfl) (shut_at hs 16 14 (by kernel_rfl) (shut_at hs 19 16 (by kernel_rfl) (h)))
            have n21 : L 21 = false := not_yet hL fun h => shut_at hs 21 13 (by kernel_rfl) (h)
            obtain rfl := hW0 n16
            refine opIn_run (v := .int .i64 (ceilF oy s)) (w' := u.drew) rfl rfl (fun c h => by cases h) (fun _ => trivial) ?_ ⟨dv, W1, v5, W3, by simp [Act.put, upd, y12, n16, n17, n18, n19, n21, hL], hc4, (fun _ => rfl), hF, hW1, hW2, hP3, hW3, hW4⟩
            simp only [y12, n16, n17, n18, n19, n21, hL, cond_true, cond_false]
            go_simp
          · trace "op 14"
            have y10 : L 10 = true := shut_at hs 11 10 (by kernel_rfl) (up_at hu 11 (by kernel_rfl))
            have y11 : L 11 = true := up_at hu 11 (by kernel_rfl)
            have y12 : L 12 = true := shut_at hs 13 12 (by kernel_rfl) (up_at hu 13 (by kernel_rfl))
            have y13 : L 13 = true := up_at hu 13 (by kernel_rfl)
            have n16 : L 16 = false := not_yet hL fun h => shut_at hs 16 14 (by kernel_rfl) (h)
            have n17 : L 17 = false := not_yet hL fun h => shut_at hs 16 14 (by kernel_rfl) (shut_at hs 17 16 (by kernel_rfl) (h))
            have n18 : L 18 = false := not_yet hL fun h => shut_at hs 16 14 (by kernel_rfl) (shut_at hs 17 16 (by kernel_rfl) (shut_at hs 18 17 (by kernel_rfl) (h)))
            have n19 : L 19 = false := not_yet hL fun h => shut_at hs 16 14 (by kernel_rfl) (shut_at hs 19 16 (by kernel_rfl) (h))
            have n21 : L 21 = false := not_yet hL fun h => shut_at hs 21 14 (by kernel_rfl) (h)
            refine opIn_run (v := .int .i64 (hg : Int)) (w' := w') rfl rfl (fun c h => by cases h) (fun _ => trivial) ?_ ⟨dv, W1, v5, W3, by simp [Act.put, upd, y10, y11, y12, y13, n16, n17, n18, n19, n21, hL], hc4, hW0, hF, hW1, hW2, hP3, hW3, hW4⟩
            simp only [y10, y11, y12, y13, n16, n17, n18, n19, n21, hL, cond_true, cond_false]
            go_simp
          · trace "op 15"
            have n16 : L 16 = false := not_yet hL fun h => shut_at hs 16 15 (by kernel_rfl) (h)
            have n17 : L 17 = false := not_yet hL fun h => shut_at hs 16 15 (by kernel_rfl) (shut_at hs 17 16 (by kernel_rfl) (h))
            have n18 : L 18 = false := not_yet hL fun h => shut_at hs 16 15 (by kernel_rfl) (shut_at hs 17 16 (by kernel_rfl) (shut_at hs 18 17 (by kernel_rfl) (h)))
            have n19 : L 19 = false := not_yet hL fun h => shut_at hs 16 15 (by kernel_rfl) (shut_at hs 19 16 (by kernel_rfl) (h))
            have n21 : L 21 = false := not_yet hL fun h => shut_at hs 21 15 (by kernel_rfl) (h)
            refine opIn_run (v := .func (.func 34) #[] #[.pointer (some ⟨bn, 0, none⟩), .pointer (some ⟨bm, 0, none⟩)]) (w' := w') rfl rfl (fun c h => by cases h) (fun _ => trivial) ?_ ⟨dv, W1, v5, W3, by simp [Act.put, upd, n16, n17, n18, n19, n21, hL], hc4, hW0, hF, hW1, hW2, hP3, hW3, hW4⟩
            simp only [n16, n17, n18, n19, n21, hL, cond_true, cond_false]
            go_simp
          · trace "op 16"
            have y5 : L 5 = true := shut_at hs 6 5 (by kernel_rfl) (shut_at hs 9 6 (by kernel_rfl) (up_at hu 9 (by kernel_rfl)))
            have y6 : L 6 = true := shut_at hs 9 6 (by kernel_rfl) (up_at hu 9 (by kernel_rfl))
            have y7 : L 7 = true := shut_at hs 8 7 (by kernel_rfl) (shut_at hs 9 8 (by kernel_rfl) (up_at hu 9 (by kernel_rfl)))
            have y8 : L 8 = true := shut_at hs 9 8 (by kernel_rfl) (up_at hu 9 (by kernel_rfl))
            have y9 : L 9 = true := up_at hu 9 (by kernel_rfl)
            have y10 : L 10 = true := shut_at hs 11 10 (by kernel_rfl) (shut_at hs 14 11 (by kernel_rfl) (up_at hu 14 (by kernel_rfl)))
            have y11 : L 11 = true := shut_at hs 14 11 (by kernel_rfl) (up_at hu 14 (by kernel_rfl))
            have y12 : L 12 = true := shut_at hs 13 12 (by kernel_rfl) (shut_at hs 14 13 (by kernel_rfl) (up_at hu 14 (by kernel_rfl)))
            have y13 : L 13 = true := shut_at hs 14 13 (by kernel_rfl) (up_at hu 14 (by kernel_rfl))
            have y14 : L 14 = true := up_at hu 14 (by kernel_rfl)
            have y15 : L 15 = true := up_at hu 15 (by kernel_rfl)
            have n17 : L 17 = false := not_yet hL fun h => shut_at hs 17 16 (by kernel_rfl) (h)
            have n18 : L 18 = false := not_yet hL fun h => shut_at hs 17 16 (by kernel_rfl) (shut_at hs 18 17 (by kernel_rfl) (h))
            have n19 : L 19 = false := not_yet hL fun h => shut_at hs 19 16 (by kernel_rfl) (h)
            have n21 : L 21 = false := not_yet hL fun h => shut_at hs 21 16 (by kernel_rfl) (h)
            obtain rfl := hW0 hL
            refine opIn_call (f := 18) (args := #[.int .i64 (wd : Int), .int .i64 (hg : Int), .func (.func 34) #[] #[.pointer (some ⟨bn, 0, none⟩), .pointer (some ⟨bm, 0, none⟩)]]) (w' := u.drew) rfl rfl (fun c h => by cases h) (fun _ => trivial) rfl ?_ ((callsIn_wide.2 (fill_any u.drew wd hg bn bm kind _ k hsmpD (by omega) (by omega))).mono ?_)
            · simp only [y5, y6, y7, y8, y9, y10, y11, y12, y13, y14, y15, n17, n18, n19, n21, hL, cond_true, cond_false]
              go_simp
            · rintro e w2 ⟨A, cap, rfl, hown, hbel⟩
              exact ⟨_, rfl, .slice A (hg * wd) cap, w2, v5, W3, by simp [Act.put, upd, y5, y6, y7, y8, y9, y10, y11, y12, y13, y14, y15, n17, n18, n19, n21, hL], fun _ => (hbel.cell (p := ⟨w.heap.size + 1, 4, none⟩) (by show w.heap.size + 1 < u.heap.size; omega)).trans g4, (fun h => by simp [upd] at h), fun _ => ⟨A, cap, rfl, hown, ⟨hbel.os, hbel.tape, hbel.output, hbel.size, hbel.block⟩⟩, fun _ _ => rfl, (fun h => by rw [upd_ne _ (by decide), n18] at h; cases h), (fun h => by rw [upd_ne _ (by decide), n19] at h; cases h), (fun h => by rw [upd_ne _ (by decide), n19] at h; cases h), (fun h => by rw [upd_ne _ (by decide), n21] at h; cases h)⟩
          · trace "op 17"
            have y2 : L 2 = true := up_at hu 2 (by kernel_rfl)
            have y3 : L 3 = true := up_at hu 3 (by kernel_rfl)
            have y4 : L 4 = true := up_at hu 4 (by kernel_rfl)
            have y5 : L 5 = true := shut_at hs 6 5 (by kernel_rfl) (shut_at hs 9 6 (by kernel_rfl) (shut_at hs 16 9 (by kernel_rfl) (up_at hu 16 (by kernel_rfl))))
            have y6 : L 6 = true := shut_at hs 9 6 (by kernel_rfl) (shut_at hs 16 9 (by kernel_rfl) (up_at hu 16 (by kernel_rfl)))
            have y7 : L 7 = true := shut_at hs 8 7 (by kernel_rfl) (shut_at hs 9 8 (by kernel_rfl) (shut_at hs 16 9 (by kernel_rfl) (up_at hu 16 (by kernel_rfl))))
            have y8 : L 8 = true := shut_at hs 9 8 (by kernel_rfl) (shut_at hs 16 9 (by kernel_rfl) (up_at hu 16 (by kernel_rfl)))
            have y9 : L 9 = true := shut_at hs 16 9 (by kernel_rfl) (up_at hu 16 (by kernel_rfl))
            have y10 : L 10 = true := shut_at hs 11 10 (by kernel_rfl) (shut_at hs 14 11 (by kernel_rfl) (shut_at hs 16 14 (by kernel_rfl) (up_at hu 16 (by kernel_rfl))))
            have y11 : L 11 = true := shut_at hs 14 11 (by kernel_rfl) (shut_at hs 16 14 (by kernel_rfl) (up_at hu 16 (by kernel_rfl)))
            have y12 : L 12 = true := shut_at hs 13 12 (by kernel_rfl) (shut_at hs 14 13 (by kernel_rfl) (shut_at hs 16 14 (by kernel_rfl) (up_at hu 16 (by kernel_rfl))))
            have y13 : L 13 = true := shut_at hs 14 13 (by kernel_rfl) (shut_at hs 16 14 (by kernel_rfl) (up_at hu 16 (by kernel_rfl)))
            have y14 : L 14 = true := shut_at hs 16 14 (by kernel_rfl) (up_at hu 16 (by kernel_rfl))
            have y15 : L 15 = true := shut_at hs 16 15 (by kernel_rfl) (up_at hu 16 (by kernel_rfl))
            have y16 : L 16 = true := up_at hu 16 (by kernel_rfl)
            have n18 : L 18 = false := not_yet hL fun h => shut_at hs 18 17 (by kernel_rfl) (h)
            have n19 : L 19 = false := not_yet hL fun h => shut_at hs 18 17 (by kernel_rfl) (shut_at hs 19 18 (by kernel_rfl) (h))
            have n21 : L 21 = false := not_yet hL fun h => shut_at hs 21 17 (by kernel_rfl) (h)
            obtain ⟨A5, c5, rfl, q5, q6⟩ := hF y16
            refine opIn_run (v := .agg #[.int .i64 d, .bool false, .int .i64 s, .int .i64 s, .slice A5 (hg * wd) c5]) (w' := w') rfl rfl (fun c h => by cases h) (fun _ => trivial) ?_ ⟨_, W1, v5, W3, by simp [Act.put, upd, y2, y3, y4, y5, y6, y7, y8, y9, y10, y11, y12, y13, y14, y15, y16, n18, n19, n21, hL], hc4, hW0, (fun _ => ⟨A5, c5, rfl, q5, q6⟩), hW1, hW2, hP3, hW3, hW4⟩
            clear q5 q6
            simp only [y2, y3, y4, y5, y6, y7, y8, y9, y10, y11, y12, y13, y14, y15, y16, n18, n19, n21, hL, cond_true, cond_false]
            go_simp
          · trace "op 18"
            have y2 : L 2 = true := shut_at hs 17 2 (by kernel_rfl) (up_at hu 17 (by kernel_rfl))
            have y3 : L 3 = true := shut_at hs 17 3 (by kernel_rfl) (up_at hu 17 (by kernel_rfl))
            have y4 : L 4 = true := shut_at hs 17 4 (by kernel_rfl) (up_at hu 17 (by kernel_rfl))
            have y5 : L 5 = true := shut_at hs 6 5 (by kernel_rfl) (shut_at hs 9 6 (by kernel_rfl) (shut_at hs 16 9 (by kernel_rfl) (shut_at hs 17 16 (by kernel_rfl) (up_at hu 17 (by kernel_rfl)))))
            have y6 : L 6 = true := shut_at hs 9 6 (by kernel_rfl) (shut_at hs 16 9 (by kernel_rfl) (shut_at hs 17 16 (by kernel_rfl) (up_at hu 17 (by kernel_rfl))))
            have y7 : L 7 = true := shut_at hs 8 7 (by kernel_rfl) (shut_at hs 9 8 (by kernel_rfl) (shut_at hs 16 9 (by kernel_rfl) (shut_at hs 17 16 (by kernel_rfl) (up_at hu 17 (by kernel_rfl)))))
            have y8 : L 8 = true := shut_at hs 9 8 (by kernel_rfl) (shut_at hs 16 9 (by kernel_rfl) (shut_at hs 17 16 (by kernel_rfl) (up_at hu 17 (by kernel_rfl))))
            have y9 : L 9 = true := shut_at hs 16 9 (by kernel_rfl) (shut_at hs 17 16 (by kernel_rfl) (up_at hu 17 (by kernel_rfl)))
            have y10 : L 10 = true := shut_at hs 11 10 (by kernel_rfl) (shut_at hs 14 11 (by kernel_rfl) (shut_at hs 16 14 (by kernel_rfl) (shut_at hs 17 16 (by kernel_rfl) (up_at hu 17 (by kernel_rfl)))))
            have y11 : L 11 = true := shut_at hs 14 11 (by kernel_rfl) (shut_at hs 16 14 (by kernel_rfl) (shut_at hs 17 16 (by kernel_rfl) (up_at hu 17 (by kernel_rfl))))
            have y12 : L 12 = true := shut_at hs 13 12 (by kernel_rfl) (shut_at hs 14 13 (by kernel_rfl) (shut_at hs 16 14 (by kernel_rfl) (shut_at hs 17 16 (by kernel_rfl) (up_at hu 17 (by kernel_rfl)))))
            have y13 : L 13 = true := shut_at hs 14 13 (by kernel_rfl) (shut_at hs 16 14 (by kernel_rfl) (shut_at hs 17 16 (by kernel_rfl) (up_at hu 17 (by kernel_rfl))))
            have y14 : L 14 = true := shut_at hs 16 14 (by kernel_rfl) (shut_at hs 17 16 (by kernel_rfl) (up_at hu 17 (by kernel_rfl)))
            have y15 : L 15 = true := shut_at hs 16 15 (by kernel_rfl) (shut_at hs 17 16 (by kernel_rfl) (up_at hu 17 (by kernel_rfl)))
            have y16 : L 16 = true := shut_at hs 17 16 (by kernel_rfl) (up_at hu 17 (by kernel_rfl))
            have y17 : L 17 = true := up_at hu 17 (by kernel_rfl)
            have n19 : L 19 = false := not_yet hL fun h => shut_at hs 19 18 (by kernel_rfl) (h)
            have n21 : L 21 = false := not_yet hL fun h => shut_at hs 21 18 (by kernel_rfl) (h)
            have hc := hc4 n19
            obtain rfl := hW1 y16 hL
            refine opIn_run (v := .slice (some ⟨w'.heap.size, 0, none⟩) 1 1) (w' := w'.alloc (Obj.cells #[.int .i64 d, .bool false, .int .i64 s, .int .i64 s, dv] 41)) rfl rfl (fun c h => by cases h) (fun _ => trivial) ?_ ⟨dv, w', v5, W3, by simp [Act.put, upd, y2, y3, y4, y5, y6, y7, y8, y9, y10, y11, y12, y13, y14, y15, y16, y17, n19, n21, hL], fun _ => (World.cell?_alloc_lt w' _ _ (World.block_lt_of_cell? w' _ hc)).trans hc, (fun h => by rw [upd_ne _ (by decide), y16] at h; cases h), hF, (fun _ h => by simp [upd] at h), fun _ _ => rfl, (fun h => by rw [upd_ne _ (by decide), n19] at h; cases h), (fun h => by rw [upd_ne _ (by decide), n19] at h; cases h), (fun h => by rw [upd_ne _ (by decide), n21] at h; cases h)⟩
            simp only [y2, y3, y4, y5, y6, y7, y8, y9, y10, y11, y12, y13, y14, y15, y16, y17, n19, n21, hL, cond_true, cond_false]
            go_simp
          · trace "op 19"
            have y0 : L 0 = true := shut_at hs 1 0 (by kernel_rfl) (up_at hu 1 (by kernel_rfl))
            have y1 : L 1 = true := up_at hu 1 (by kernel_rfl)
            have y2 : L 2 = true := shut_at hs 17 2 (by kernel_rfl) (shut_at hs 18 17 (by kernel_rfl) (up_at hu 18 (by kernel_rfl)))
            have y3 : L 3 = true := shut_at hs 17 3 (by kernel_rfl) (shut_at hs 18 17 (by kernel_rfl) (up_at hu 18 (by kernel_rfl)))
            have y4 : L 4 = true := shut_at hs 17 4 (by kernel_rfl) (shut_at hs 18 17 (by kernel_rfl) (up_at hu 18 (by kernel_rfl)))
            have y5 : L 5 = true := shut_at hs 6 5 (by kernel_rfl) (shut_at hs 9 6 (by kernel_rfl) (shut_at hs 16 9 (by kernel_rfl) (up_at hu 16 (by kernel_rfl))))
            have y6 : L 6 = true := shut_at hs 9 6 (by kernel_rfl) (shut_at hs 16 9 (by kernel_rfl) (up_at hu 16 (by kernel_rfl)))
            have y7 : L 7 = true := shut_at hs 8 7 (by kernel_rfl) (shut_at hs 9 8 (by kernel_rfl) (shut_at hs 16 9 (by kernel_rfl) (up_at hu 16 (by kernel_rfl))))
            have y8 : L 8 = true := shut_at hs 9 8 (by kernel_rfl) (shut_at hs 16 9 (by kernel_rfl) (up_at hu 16 (by kernel_rfl)))
            have y9 : L 9 = true := shut_at hs 16 9 (by kernel_rfl) (up_at hu 16 (by kernel_rfl))
            have y10 : L 10 = true := shut_at hs 11 10 (by kernel_rfl) (shut_at hs 14 11 (by kernel_rfl) (shut_at hs 16 14 (by kernel_rfl) (up_at hu 16 (by kernel_rfl))))
            have y11 : L 11 = true := shut_at hs 14 11 (by kernel_rfl) (shut_at hs 16 14 (by kernel_rfl) (up_at hu 16 (by kernel_rfl)))
            have y12 : L 12 = true := shut_at hs 13 12 (by kernel_rfl) (shut_at hs 14 13 (by kernel_rfl) (shut_at hs 16 14 (by kernel_rfl) (up_at hu 16 (by kernel_rfl))))
            have y13 : L 13 = true := shut_at hs 14 13 (by kernel_rfl) (shut_at hs 16 14 (by kernel_rfl) (up_at hu 16 (by kernel_rfl)))
            have y14 : L 14 = true := shut_at hs 16 14 (by kernel_rfl) (up_at hu 16 (by kernel_rfl))
            have y15 : L 15 = true := shut_at hs 16 15 (by kernel_rfl) (up_at hu 16 (by kernel_rfl))
            have y16 : L 16 = true := up_at hu 16 (by kernel_rfl)
            have y17 : L 17 = true := shut_at hs 18 17 (by kernel_rfl) (up_at hu 18 (by kernel_rfl))
            have y18 : L 18 = true := up_at hu 18 (by kernel_rfl)
            have n21 : L 21 = false := not_yet hL fun h => shut_at hs 21 19 (by kernel_rfl) (h)
            obtain rfl := hW2 y18 hL
            obtain ⟨v6, W4, hr, hp⟩ := app_comp hPu (hF y16) (d := d) (s := s) (by omega) hk4
            refine opIn_run (v := v6) (w' := W4) rfl rfl (fun c h => by cases h) (fun _ => trivial) ?_ ⟨dv, W1, v6, W4, by simp [Act.put, upd, y0, y1, y2, y3, y4, y5, y6, y7, y8, y9, y10, y11, y12, y13, y14, y15, y16, y17, y18, n21, hL], (fun h => by simp [upd] at h), (fun h => by rw [upd_ne _ (by decide), y16] at h; cases h), hF, (fun _ h => by rw [upd_ne _ (by decide), y18] at h; cases h), (fun _ h => by simp [upd] at h), fun _ => hp, fun _ _ => rfl, (fun h => by rw [upd_ne _ (by decide), n21] at h; cases h)⟩
            simp only [y0, y1, y2, y3, y4, y5, y6, y7, y8, y9, y10, y11, y12, y13, y14, y15, y16, y17, y18, n21, hL, cond_true, cond_false]
            go_simp
          · trace "op 20"
            have y0 : L 0 = true := up_at hu 0 (by kernel_rfl)
            have y1 : L 1 = true := up_at hu 1 (by kernel_rfl)
            have y2 : L 2 = true := up_at hu 2 (by kernel_rfl)
            have y3 : L 3 = true := up_at hu 3 (by kernel_rfl)
            have y4 : L 4 = true := up_at hu 4 (by kernel_rfl)
            have y5 : L 5 = true := up_at hu 5 (by kernel_rfl)
            have y6 : L 6 = true := up_at hu 6 (by kernel_rfl)
            have y7 : L 7 = true := up_at hu 7 (by kernel_rfl)
            have y8 : L 8 = true := up_at hu 8 (by kernel_rfl)
            have y9 : L 9 = true := up_at hu 9 (by kernel_rfl)
            have y10 : L 10 = true := up_at hu 10 (by kernel_rfl)
            have y11 : L 11 = true := up_at hu 11 (by kernel_rfl)
            have y12 : L 12 = true := up_at hu 12 (by kernel_rfl)
            have y13 : L 13 = true := up_at hu 13 (by kernel_rfl)
            have y14 : L 14 = true := up_at hu 14 (by kernel_rfl)
            have y15 : L 15 = true := up_at hu 15 (by kernel_rfl)
            have y16 : L 16 = true := up_at hu 16 (by kernel_rfl)
            have y17 : L 17 = true := up_at hu 17 (by kernel_rfl)
            have y18 : L 18 = true := up_at hu 18 (by kernel_rfl)
            have y19 : L 19 = true := up_at hu 19 (by kernel_rfl)
            have n21 : L 21 = false := not_yet hL fun h => shut_at hs 21 20 (by kernel_rfl) (h)
            refine opIn_run (v := .pointer (some ⟨w.heap.size + 1, 4, none⟩)) (w' := w') rfl rfl (fun c h => by cases h) (fun _ => trivial) ?_ ⟨dv, W1, v5, W3, by simp [Act.put, upd, y0, y1, y2, y3, y4, y5, y6, y7, y8, y9, y10, y11, y12, y13, y14, y15, y16, y17, y18, y19, n21, hL], hc4, hW0, hF, hW1, hW2, hP3, hW3, hW4⟩
            simp only [y0, y1, y2, y3, y4, y5, y6, y7, y8, y9, y10, y11, y12, y13, y14, y15, y16, y17, y18, y19, n21, hL, cond_true, cond_false]
            go_simp
          · trace "op 21"
            have y0 : L 0 = true := up_at hu 0 (by kernel_rfl)
            have y1 : L 1 = true := up_at hu 1 (by kernel_rfl)
            have y2 : L 2 = true := up_at hu 2 (by kernel_rfl)
            have y3 : L 3 = true := up_at hu 3 (by kernel_rfl)
            have y4 : L 4 = true := up_at hu 4 (by kernel_rfl)
            have y5 : L 5 = true := up_at hu 5 (by kernel_rfl)
            have y6 : L 6 = true := up_at hu 6 (by kernel_rfl)
            have y7 : L 7 = true := up_at hu 7 (by kernel_rfl)
            have y8 : L 8 = true := up_at hu 8 (by kernel_rfl)
            have y9 : L 9 = true := up_at hu 9 (by kernel_rfl)
            have y10 : L 10 = true := up_at hu 10 (by kernel_rfl)
            have y11 : L 11 = true := up_at hu 11 (by kernel_rfl)
            have y12 : L 12 = true := up_at hu 12 (by kernel_rfl)
            have y13 : L 13 = true := up_at hu 13 (by kernel_rfl)
            have y14 : L 14 = true := up_at hu 14 (by kernel_rfl)
            have y15 : L 15 = true := up_at hu 15 (by kernel_rfl)
            have y16 : L 16 = true := up_at hu 16 (by kernel_rfl)
            have y17 : L 17 = true := up_at hu 17 (by kernel_rfl)
            have y18 : L 18 = true := up_at hu 18 (by kernel_rfl)
            have y19 : L 19 = true := up_at hu 19 (by kernel_rfl)
            have y20 : L 20 = true := up_at hu 20 (by kernel_rfl)
            obtain rfl := hW3 y19 hL
            obtain ⟨hc, hf⟩ := (hP3 y19).at hu1 (by omega)
            obtain ⟨g5, c5, rfl, _⟩ := hP3 y19
            refine opIn_skip (w' := w'.setCell ⟨w.heap.size + 1, 4, none⟩ (.slice (some ⟨g5, 0, none⟩) (k + 1) c5)) rfl rfl (fun c h => by cases h) (fun _ => trivial) ?_ ⟨dv, W1, _, w', by simp [Act.put, upd, y0, y1, y2, y3, y4, y5, y6, y7, y8, y9, y10, y11, y12, y13, y14, y15, y16, y17, y18, y19, y20, hL], (fun h => by rw [upd_ne _ (by decide), y19] at h; cases h), (fun h => by rw [upd_ne _ (by decide), y16] at h; cases h), hF, (fun _ h => by rw [upd_ne _ (by decide), y18] at h; cases h), (fun _ h => by rw [upd_ne _ (by decide), y19] at h; cases h), hP3, (fun _ h => by simp [upd] at h), fun _ => rfl⟩
            simp only [y0, y1, y2, y3, y4, y5, y6, y7, y8, y9, y10, y11, y12, y13, y14, y15, y16, y17, y18, y19, y20, hL, cond_true, cond_false]
            go_simp
        case fin =>
          intro L a' w' hall hI
          obtain ⟨dv, W1, v5, W3, rfl, hc4, hW0, hF, hW1, hW2, hP3, hW3, hW4⟩ := hI
          have l0 := hall 0 (by decide)
          have l1 := hall 1 (by decide)
          have l2 := hall 2 (by decide)
          have l3 := hall 3 (by decide)
          have l4 := hall 4 (by decide)
          have l5 := hall 5 (by decide)
          have l6 := hall 6 (by decide)
          have l7 := hall 7 (by decide)
          have l8 := hall 8 (by decide)
          have l9 := hall 9 (by decide)
          have l10 := hall 10 (by decide)
          have l11 := hall 11 (by decide)
          have l12 := hall 12 (by decide)
          have l13 := hall 13 (by decide)
          have l14 := hall 14 (by decide)
          have l15 := hall 15 (by decide)
          have l16 := hall 16 (by decide)
          have l17 := hall 17 (by decide)
          have l18 := hall 18 (by decide)
          have l19 := hall 19 (by decide)
          have l20 := hall 20 (by decide)
          have l21 := hall 21 (by decide)
          obtain rfl := hW4 l21
          have hP := hP3 l19
          have hFF := hF l16
          simp only [l0, l1, l2, l3, l4, l5, l6, l7, l8, l9, l10, l11, l12, l13, l14, l15, l16, l17, l18, l19, l20, l21, cond_true]
          clear l0 l1 l2 l3 l4 l5 l6 l7 l8 l9 l10 l11 l12 l13 l14 l15 l16 l17 l18 l19 l20 l21 hall hc4 hW0 hF hW1 hW2 hP3 hW3 hW4
          have hwdk : sideF kind ox x k = wd := by unfold sideF; rw [HS.out, HWD.out.1]; omega
          have hhgk : sideF kind oy y k = hg := by unfold sideF; rw [HS.out, HWD.out.2]; omega
          have hX := pic_step hPu hP hFF (Nat.le_trans (Nat.le_add_right _ 1) (Nat.le_of_lt hus)) hu1 hu0 HS.out hwdk hhgk
          obtain ⟨CS', hX⟩ := hX
          have HXX := Lib.hid hX
          clear hX hP hFF hwdk hhgk hPu hu0 hu1 hur g0 g1 g2 g3 g4 hsmpD hw9 hh9
          go_wp2
          go_roundw
          case rel => exact ⟨k + 1, v5, CS', by push_cast; omega, by go_num, HXX.out.1, HXX.out.2.1, HXX.out.2.2⟩
          case measure => simp [intOf]; omega
    · obtain rfl : n = (k : Int) := by omega
      obtain ⟨hP, hb0, hb1⟩ := HP.out
      have c0 : wr.cell? ⟨w.heap.size, 0, none⟩ = some (.int .i64 0) := by simp [World.cell?, hb0]
      have c1 : wr.cell? ⟨w.heap.size, 1, none⟩ = some (.int .i64 0) := by simp [World.cell?, hb0]
      have c2 : wr.cell? ⟨w.heap.size, 2, none⟩ = some (.int .i64 0) := by simp [World.cell?, hb0]
      have c3 : wr.cell? ⟨w.heap.size, 3, none⟩ = some (.int .i64 0) := by simp [World.cell?, hb0]
      have c4 : wr.cell? ⟨w.heap.size, 4, none⟩ = some (.slice none 0 0) := by simp [World.cell?, hb0]
      have f0 : wr.frozen? ⟨w.heap.size, 0, none⟩ = false := by simp [World.frozen?, hb0]
      have f1 : wr.frozen? ⟨w.heap.size, 1, none⟩ = false := by simp [World.frozen?, hb0]
      have f2 : wr.frozen? ⟨w.heap.size, 2, none⟩ = false := by simp [World.frozen?, hb0]
      have f3 : wr.frozen? ⟨w.heap.size, 3, none⟩ = false := by simp [World.frozen?, hb0]
      have f4 : wr.frozen? ⟨w.heap.size, 4, none⟩ = false := by simp [World.frozen?, hb0]
      have e0 : wr.cell? ⟨w.heap.size + 1, 0, none⟩ = some (.int .i64 x) := by simp [World.cell?, hb1]
      have e1 : wr.cell? ⟨w.heap.size + 1, 1, none⟩ = some (.int .i64 y) := by simp [World.cell?, hb1]
      have e2 : wr.cell? ⟨w.heap.size + 1, 2, none⟩ = some (.int .i64 ox) := by simp [World.cell?, hb1]
      have e3 : wr.cell? ⟨w.heap.size + 1, 3, none⟩ = some (.int .i64 oy) := by simp [World.cell?, hb1]
      have e4 : wr.cell? ⟨w.heap.size + 1, 4, none⟩ = some Cv := by simp [World.cell?, hb1]
      obtain ⟨AC, cC, rfl, _⟩ := own_any hP.own
      have HPP := Lib.hid (And.intro hP hb0)
      clear hb0 hb1 hP
      go_wp2
      refine bodyPost_ret (v := .tuple #[.agg #[.int .i64 x, .int .i64 y, .int .i64 ox, .int .i64 oy, .slice AC k cC], .int .i64 0]) (by simp [results, Try.results9, go_sem, c0, c1, c2, c3, c4, f0, f1, f2, f3, f4]) rfl ⟨.slice AC k cC, rfl, CS, ?_⟩
      refine pic_other HPP.out.1 HPP.out.2 (by simp [World.setCell]) (fun q hq => ?_) ?_
      · exact (Below.heap_setCell _ _ _ q hq).trans ((Below.heap_setCell _ _ _ q hq).trans ((Below.heap_setCell _ _ _ q hq).trans ((Below.heap_setCell _ _ _ q hq).trans (Below.heap_setCell _ _ _ q hq))))
      · exact (((((HPP.out.1.bel.setCell (p := ⟨w.heap.size, 0, none⟩) (Nat.le_refl _) _).setCell (p := ⟨w.heap.size, 1, none⟩) (Nat.le_refl _) _).setCell (p := ⟨w.heap.size, 2, none⟩) (Nat.le_refl _) _).setCell (p := ⟨w.heap.size, 3, none⟩) (Nat.le_refl _) _).setCell (p := ⟨w.heap.size, 4, none⟩) (Nat.le_refl _) _)
end Go.Proofs.Ytjmkkjgchgcleaa
