/- Trees: a tree and its reader beside the reference's. -/
import Derived.Test.YthgbnkcbcepjdaaTrH4
import Derived.Test.YthgbnkcbcepjdaaTrTw
set_option linter.unusedVariables false
set_option linter.unusedSimpArgs false
namespace Go.Proofs.Ythgbnkcbcepjdaa
open Go.RowKit
set_option maxRecDepth 100000
set_option maxHeartbeats 4000000 in
theorem ptnew_zero (W H : Nat) (w : World) (h : W = 0 ∨ H = 0) (hW : W ≤ 64 ∧ H ≤ 64) : Calls Try.prog 10 #[.int .i64 (W : Int), .int .i64 (H : Int)] w fun e w' => e = .returned (.pointer (some ⟨w.heap.size, 0, none⟩)) ∧ PL w' w.heap.size 0 ∧ Below w.heap.size w w' := by
  have HP : Hid (PL (w.alloc (Obj.cells #[.slice none 0 0] 55)) w.heap.size 0) := Lib.hid (.inl ⟨rfl, by
    have := World.alloc_heap_new w (Obj.cells #[.slice none 0 0] 55)
    unfold World.cell?
    simp only
    rw [this]
    rfl⟩)
  have HB : Hid (Below w.heap.size w (w.alloc (Obj.cells #[.slice none 0 0] 55))) := Lib.hid ((Below.refl _ w).alloc (Nat.le_refl _) _)
  rcases Nat.eq_zero_or_pos W with rfl | h1
  · clear h
    go_enter Try.func10, Try.ntmps10
    go_wp2
    go_ret
    exact ⟨rfl, HP.out, HB.out⟩
  · obtain rfl : H = 0 := by omega
    have e0 : decide ((W : Int) < 1) = false := by simp; omega
    have e1 : decide ((64 : Int) < (W : Int)) = false := by simp; omega
    clear h
    go_enter Try.func10, Try.ntmps10
    go_wp2
    go_ret
    exact ⟨rfl, HP.out, HB.out⟩
set_option maxHeartbeats 4000000 in
theorem rtnew_zero (W H : Nat) (w : World) (h : W = 0 ∨ H = 0) (hW : W ≤ 64 ∧ H ≤ 64) : Calls Try.prog 11 #[.int .i64 (W : Int), .int .i64 (H : Int)] w fun e w' => e = .returned (.pointer (some ⟨w.heap.size, 0, none⟩)) ∧ w'.heap[w.heap.size]? = some (.cells #[.slice none 0 0, .int .i64 0, .bool false] 64 (0, 0)) ∧ Below w.heap.size w w' := by
  have hm0 : ¬ (W : Int) < 0 ∧ ¬ (H : Int) < 0 := by omega
  have hz : (W : Int) * (H : Int) = 0 := by
    rcases h with rfl | rfl <;> simp
  have HP : Hid ((w.alloc (Obj.cells #[.slice none 0 0, .int .i64 0, .bool false] 64)).heap[w.heap.size]? = some (.cells #[.slice none 0 0, .int .i64 0, .bool false] 64 (0, 0))) := Lib.hid (World.alloc_heap_new w _)
  have HB : Hid (Below w.heap.size w (w.alloc (Obj.cells #[.slice none 0 0, .int .i64 0, .bool false] 64))) := Lib.hid ((Below.refl _ w).alloc (Nat.le_refl _) _)
  clear h
  go_enter Try.func11, Try.ntmps11
  go_wp2
  go_ret
  exact ⟨rfl, HP.out, HB.out⟩
/-- What Decode reads is bounded. -/
theorem loopN_n {F : List Int} {bound : Int} : ∀ (f : Nat) (s : RS) (nd : Nd), (loopN (dstep F bound) bound f (s, nd)).1.n ≤ s.n + f := by
  intro f
  induction f with
  | zero => intro s nd; exact Nat.le_refl _
  | succ f ih =>
    intro s nd
    by_cases hc : nd.low < bound ∧ nd.said = false
    · rw [loopN_go (x := (s, nd)) hc]
      have h1 : (nxt (dstep F bound) (s, nd)).1.n ≤ s.n + 1 := by
        show (rsnext F s).n ≤ s.n + 1
        unfold rsnext pstep
        simp only
        split <;> simp
      have h2 := ih (nxt (dstep F bound) (s, nd)).1 (nxt (dstep F bound) (s, nd)).2
      rw [show ((nxt (dstep F bound) (s, nd)).1, (nxt (dstep F bound) (s, nd)).2) = nxt (dstep F bound) (s, nd) from rfl] at h2
      omega
    · rw [loopN_stop (x := (s, nd)) hc]
      show s.n ≤ _
      omega
theorem walkT_n {F : List Int} {bound : Int} {f W x y : Nat} : ∀ (j : Nat) (s : RS) (T : TT) (lo : Int), (walkT (dstep F bound) bound f W x y j (s, T, lo)).1.n ≤ s.n + j * f := by
  intro j
  induction j with
  | zero => intro s T lo; show s.n ≤ _; omega
  | succ j ih =>
    intro s T lo
    rw [walkT]
    refine Nat.le_trans (ih _ _ _) ?_
    have := loopN_n (F := F) (bound := bound) f s ⟨(T j (y / 2 ^ j * dimF W j + x / 2 ^ j)).num, maxI (T j (y / 2 ^ j * dimF W j + x / 2 ^ j)).low lo, (T j (y / 2 ^ j * dimF W j + x / 2 ^ j)).said⟩
    simp only
    rw [Nat.succ_mul]
    omega
/-- Both sides of TreeHears, each with blocks of its own. -/
structure HS (o : Nat → Nat) (w0 w : World) (p W H d : Nat) (T : TT) (rq : Nat) (F : List Int) (s : RS) (q L tot cap : Nat) (T2 : TT) (r2 : Nat) (a0 : Option Addr) (cap0 : Nat) (s2 : RS) : Prop where
  tr : TrO o 1 w p W H d T ∨ (W * H = 0 ∧ PL w p 0)
  rd : RdO o 2 w rq F s
  xr : (RTr w q L tot cap W H d false T2 ∧ o q = 3 ∧ o L = 3) ∨ (W * H = 0 ∧ w.heap[q]? = some (.cells #[.slice none 0 0, .int .i64 0, .bool false] 64 (0, 0)))
  yr : Qr w r2 a0 cap0 F s2 ∧ o r2 = 4
  ls : Lst w w0.heap.size a0 (F.map (Value.int .u8))
  bs : Bs o w0.heap.size
  bel : Below w0.heap.size w0 w
section
variable {o : Nat → Nat} {w0 w w' : World} {p W H d : Nat} {T : TT} {rq : Nat} {F : List Int} {s : RS} {q L tot cap : Nat} {T2 : TT} {r2 : Nat} {a0 : Option Addr} {cap0 : Nat} {s2 : RS}
theorem HS.below (h : HS o w0 w p W H d T rq F s q L tot cap T2 r2 a0 cap0 s2) (hb : Below w.heap.size w w') : HS o w0 w' p W H d T rq F s q L tot cap T2 r2 a0 cap0 s2 where
  tr := by
    rcases h.tr with h1 | ⟨h1, h2⟩
    · exact .inl (h1.below hb fun _ _ => rfl)
    · exact .inr ⟨h1, h2.below hb⟩
  rd := h.rd.below hb fun _ _ => rfl
  xr := by
    rcases h.xr with ⟨h1, h2⟩ | ⟨h1, h2⟩
    · exact .inl ⟨h1.below hb, h2⟩
    · exact .inr ⟨h1, (hb.block _ (blk_lt h2)).trans h2⟩
  yr := ⟨qr_keep h.yr.1 (hb.block _ (blk_lt (by have := h.yr.1; unfold Qr at this; exact this))), h.yr.2⟩
  ls := h.ls.keep fun a ha => hb.cell (by have := h.bel.size; omega)
  bs := h.bs
  bel := h.bel.trans (hb.mono h.bel.size)
theorem HS.dec (h : HS o w0 w p W H d T rq F s q L tot cap T2 r2 a0 cap0 s2) {k : Nat} (hk : k < W * H) (bound : Int) (hb : -1 ≤ bound ∧ bound ≤ 500) (hl : F.length ≤ 80000) (hF : ∀ x ∈ F, 0 ≤ x ∧ x ≤ 255) (hsl : s.l ≤ 8) (hn : s.n + d * (bound.toNat + 2) ≤ 80000) :
    Calls Try.prog 14 #[.pointer (some ⟨p, 0, none⟩), .pointer (some ⟨rq, 0, none⟩), .int .i64 (k : Int), .int .i64 bound] w fun e w' => e = .returned (.bool (decide (0 ≤ knF (decM F bound W d k s T).2.1 k) && decide (knF (decM F bound W d k s T).2.1 k < bound))) ∧
      HS (onew o w 2) w0 w' p W H d (decM F bound W d k s T).2.1 rq F (decM F bound W d k s T).1 q L tot cap T2 r2 a0 cap0 s2 := by
  rcases h.tr with ht | ⟨h0, _⟩
  · rcases h.xr with ⟨hx, hq, hL⟩ | ⟨h0, _⟩
    · refine (dec_o ht h.rd (by decide) hk bound hb hl hF hsl hn).mono ?_
      rintro e w' ⟨he, h1, h2, h3⟩
      have hol := onew_old o w 2
      have hql := hx.lt
      have hyl : r2 < w.heap.size := blk_lt (by have := h.yr.1; unfold Qr at this; exact this)
      have hbs := h.bel.size
      refine ⟨he, .inl h1, h2, .inl ⟨hx.keep (h3.at hql.1 (by omega) (by omega)) (h3.at hql.2 (by omega) (by omega)), (hol q hql.1).trans hq, (hol L hql.2).trans hL⟩, ⟨qr_keep h.yr.1 (h3.at hyl (by have := h.yr.2; omega) (by have := h.yr.2; omega)), (hol r2 hyl).trans h.yr.2⟩, h.ls.below (h3.base h.bs (by decide) (by decide) hbs), h.bs.new hbs 2, h.bel.trans (h3.base h.bs (by decide) (by decide) hbs)⟩
    · omega
  · omega
theorem HS.rdec (h : HS o w0 w p W H d T rq F s q L tot cap T2 r2 a0 cap0 s2) {k : Nat} (hk : k < W * H) (hWH : W ≤ 64 ∧ H ≤ 64) (hd : 1 ≤ d ∧ d ≤ 8) (bound : Int) (hb : -1 ≤ bound ∧ bound ≤ 500) (hT : LowOk T2) (hl : F.length ≤ 80000) (hF : ∀ x ∈ F, 0 ≤ x ∧ x ≤ 255) (hsl : s2.l ≤ 8) (hn : s2.n + d * (bound.toNat + 2) ≤ 80000) :
    Calls Try.prog 15 #[.pointer (some ⟨q, 0, none⟩), .pointer (some ⟨r2, 0, none⟩), .int .i64 (k : Int), .int .i64 bound] w fun e w' =>
      e = .returned (.bool (((rdecM F bound W d k s2 T2).2.1 0 k).said && decide (((rdecM F bound W d k s2 T2).2.1 0 k).num < bound))) ∧ HS (onew o w 3) w0 w' p W H d T rq F s q L tot cap (rdecM F bound W d k s2 T2).2.1 r2 a0 cap0 (rdecM F bound W d k s2 T2).1 ∧
      LowOk (rdecM F bound W d k s2 T2).2.1 ∧ (rdecM F bound W d k s2 T2).1.n ≤ s2.n + d * (bound.toNat + 2) := by
  rcases h.tr with ht | ⟨h0, _⟩
  · rcases h.xr with ⟨hx, hq, hL⟩ | ⟨h0, _⟩
    · have hbs := h.bel.size
      have hql := hx.lt
      have hyl : r2 < w.heap.size := blk_lt (by have := h.yr.1; unfold Qr at this; exact this)
      have hor := h.yr.2
      have hb0 : ∀ k, o k ≠ 0 → w0.heap.size ≤ k := fun k e => by
        rcases Nat.lt_or_ge k w0.heap.size with h' | h'
        · exact absurd (h.bs k h') e
        · exact h'
      refine (rtdec_any hx h.yr.1 h.ls ⟨hb0 _ (by omega), hb0 _ (by omega), hb0 _ (by omega)⟩ ⟨fun e => by rw [e] at hq; omega, fun e => by rw [e] at hL; omega⟩ hWH hd hk bound hb hT (by omega) hF hsl hn).mono ?_
      rintro e w' ⟨he, h1, h2, h3, h4, h5, h6⟩
      have hO : Onl o 3 4 w w' := h3.mono fun k e hlt => by
        rcases e with rfl | rfl | e
        · exact .inr hor
        · exact .inl hL
        · omega
      have hol := onew_old o w 3
      refine ⟨he, ⟨.inl (ht.other hO hol (by decide) (by decide)), h.rd.other hO hol (by decide) (by decide), .inl ⟨h1, (hol q hql.1).trans hq, (hol L hql.2).trans hL⟩, ⟨h2, (hol r2 hyl).trans hor⟩, h.ls.below (hO.base h.bs (by decide) (by decide) hbs), h.bs.new hbs 3, h.bel.trans (hO.base h.bs (by decide) (by decide) hbs)⟩, h4, h6⟩
    · omega
  · omega
theorem HS.known (h : HS o w0 w p W H d T rq F s q L tot cap T2 r2 a0 cap0 s2) {k : Nat} (hk : k < W * H) :
    Calls Try.prog 16 #[.pointer (some ⟨p, 0, none⟩), .int .i64 (k : Int)] w fun e w' => e = .returned (.int .i64 (knF T k)) ∧ HS o w0 w' p W H d T rq F s q L tot cap T2 r2 a0 cap0 s2 := by
  rcases h.tr with ht | ⟨h0, _⟩
  · exact (known_o ht hk).mono fun e w' ⟨he, hb⟩ => ⟨he, h.below hb⟩
  · omega
theorem HS.rknown (h : HS o w0 w p W H d T rq F s q L tot cap T2 r2 a0 cap0 s2) {k : Nat} (hk : k < W * H) (hd : 1 ≤ d) (hWH : W * H ≤ 4096) :
    Calls Try.prog 17 #[.pointer (some ⟨q, 0, none⟩), .int .i64 (k : Int)] w fun e w' => e = .returned (.int .i64 (knF T2 k)) ∧ HS o w0 w' p W H d T rq F s q L tot cap T2 r2 a0 cap0 s2 := by
  rcases h.xr with ⟨hx, _⟩ | ⟨h0, _⟩
  · exact (rtknown_any hx hd hk hWH).mono fun e w' ⟨he, hb⟩ => ⟨he, hb ▸ h⟩
  · omega
theorem HS.pl (h : HS o w0 w p W H d T rq F s q L tot cap T2 r2 a0 cap0 s2) : PL w p (W * H) := by
  rcases h.tr with ⟨L, cl, sh, h1, h2, rfl, h4, h5⟩ | ⟨h0, h1⟩
  · obtain ⟨I, e, b⟩ := h2.at (i := 0) (by have := h2.len; omega)
    obtain ⟨g0, g1, g2⟩ := h1.lv 0 _ _ I e
    exact .inr ⟨L, sh.length, cl, _, _, h2.len.1, h1.root, g2⟩
  · rw [h0]; exact h1
theorem HS.rpl (h : HS o w0 w p W H d T rq F s q L tot cap T2 r2 a0 cap0 s2) : ∃ V, w.heap[q]? = some (.cells #[V, .int .i64 ((W * H : Nat) : Int), .bool false] 64 (0, 0)) := by
  rcases h.xr with ⟨hx, _⟩ | ⟨h0, h1⟩
  · exact ⟨_, hx.tp⟩
  · exact ⟨_, by rw [h0]; exact h1⟩
theorem HS.dec_no (h : HS o w0 w p W H d T rq F s q L tot cap T2 r2 a0 cap0 s2) {k b : Int} (hk : k < 0 ∨ ((W * H : Nat) : Int) ≤ k) :
    Calls Try.prog 14 #[.pointer (some ⟨p, 0, none⟩), .pointer (some ⟨rq, 0, none⟩), .int .i64 k, .int .i64 b] w fun e w' => e = .returned (.bool false) ∧ HS o w0 w' p W H d T rq F s q L tot cap T2 r2 a0 cap0 s2 :=
  (decode_no h.pl hk).mono fun e w' ⟨he, hb⟩ => ⟨he, h.below hb⟩
theorem HS.rdec_no (h : HS o w0 w p W H d T rq F s q L tot cap T2 r2 a0 cap0 s2) {k b : Int} (hk : k < 0 ∨ ((W * H : Nat) : Int) ≤ k) :
    Calls Try.prog 15 #[.pointer (some ⟨q, 0, none⟩), .pointer (some ⟨r2, 0, none⟩), .int .i64 k, .int .i64 b] w fun e w' => e = .returned (.bool false) ∧ HS o w0 w' p W H d T rq F s q L tot cap T2 r2 a0 cap0 s2 := by
  obtain ⟨V, hV⟩ := h.rpl
  exact (rtdecode_no hV hk).mono fun e w' ⟨he, hb⟩ => ⟨he, hb ▸ h⟩
theorem HS.known_no (h : HS o w0 w p W H d T rq F s q L tot cap T2 r2 a0 cap0 s2) {k : Int} (hk : k < 0 ∨ ((W * H : Nat) : Int) ≤ k) :
    Calls Try.prog 16 #[.pointer (some ⟨p, 0, none⟩), .int .i64 k] w fun e w' => e = .returned (.int .i64 (-1)) ∧ HS o w0 w' p W H d T rq F s q L tot cap T2 r2 a0 cap0 s2 :=
  (Proofs.Ythgbnkcbcepjdaa.known_no h.pl hk).mono fun e w' ⟨he, hb⟩ => ⟨he, hb ▸ h⟩
theorem HS.rknown_no (h : HS o w0 w p W H d T rq F s q L tot cap T2 r2 a0 cap0 s2) {k : Int} (hk : k < 0 ∨ ((W * H : Nat) : Int) ≤ k) :
    Calls Try.prog 17 #[.pointer (some ⟨q, 0, none⟩), .int .i64 k] w fun e w' => e = .returned (.int .i64 (-1)) ∧ HS o w0 w' p W H d T rq F s q L tot cap T2 r2 a0 cap0 s2 := by
  obtain ⟨V, hV⟩ := h.rpl
  exact (rtknown_no hV hk).mono fun e w' ⟨he, hb⟩ => ⟨he, hb ▸ h⟩
theorem HS.fin (h : HS o w0 w p W H d T rq F s q L tot cap T2 r2 a0 cap0 s2) (hl : F.length ≤ 90000) (h1 : s.n ≤ 90000) :
    Calls Try.prog 18 #[.pointer (some ⟨rq, 0, none⟩)] w fun e w' => e = .returned (.tuple #[.int .i64 (endK F s : Int), .int .i64 (endE F s)]) ∧ HS o w0 w' p W H d T rq F s q L tot cap T2 r2 a0 cap0 s2 := by
  obtain ⟨V, hv, _⟩ := h.rd
  exact (rb_end hv.rb hl h1).mono fun e w' ⟨he, n, hw⟩ => ⟨he, by rw [hw]; exact h.below (below_drewN (Below.refl _ w) n)⟩
theorem HS.rfin (h : HS o w0 w p W H d T rq F s q L tot cap T2 r2 a0 cap0 s2) (hl : F.length ≤ 90000) (h1 : s2.n ≤ 90000) (h2 : s2.l ≤ 8) (hF : ∀ x ∈ F, 0 ≤ x ∧ x ≤ 255) :
    Calls Try.prog 19 #[.pointer (some ⟨r2, 0, none⟩)] w fun e w' => e = .returned (.tuple #[.int .i64 (endK F s2 : Int), .int .i64 (endE F s2)]) ∧ HS o w0 w' p W H d T rq F s q L tot cap T2 r2 a0 cap0 s2 := by
  have hr : w0.heap.size ≤ r2 := by
    rcases Nat.lt_or_ge r2 w0.heap.size with h' | h'
    · have := h.bs r2 h'; have := h.yr.2; omega
    · exact h'
  exact (qb_end h.yr.1 h.ls hr hl h1 h2 hF).mono fun e w' ⟨he, hb⟩ => ⟨he, h.below hb⟩
/-- All four as they begin. -/
theorem HS.begin {o : Nat → Nat} {w2 w3 w4 : World} (ht : TrO o 1 w2 p W H d T ∨ (W * H = 0 ∧ PL w2 p 0)) (hx : (RTr w2 q L tot cap W H d false T2 ∧ o q = 3 ∧ o L = 3) ∨ (W * H = 0 ∧ w2.heap[q]? = some (.cells #[.slice none 0 0, .int .i64 0, .bool false] 64 (0, 0)))) (hbs : Bs o w0.heap.size) (hl : Lst w0 w0.heap.size a0 (F.map (Value.int .u8))) (hb2 : Below w0.heap.size w0 w2)
    (hr : Rb w3 w2.heap.size rq F s) (hb3 : Below w2.heap.size w2 w3) (hq : Qr w4 r2 a0 cap0 F s2) (hq2 : w3.heap.size ≤ r2) (hb4 : Below w3.heap.size w3 w4) : HS (onew (onew o w2 2) w3 4) w0 w4 p W H d T rq F s q L tot cap T2 r2 a0 cap0 s2 := by
  have hs2 := hb2.size
  have hs3 := hb3.size
  have o1 : ∀ k, k < w2.heap.size → onew (onew o w2 2) w3 4 k = o k := fun k hk => (onew_old _ w3 4 k (by omega)).trans (onew_old o w2 2 k hk)
  have hb24 : Below w2.heap.size w2 w4 := hb3.trans (hb4.mono hs3)
  refine ⟨?_, ?_, ?_, ⟨hq, onew_new _ w3 4 hq2⟩, hl.below (hb2.trans (hb24.mono hs2)), fun k hk => (o1 k (by omega)).trans (hbs k hk), hb2.trans (hb24.mono hs2)⟩
  · rcases ht with h | ⟨h0, h⟩
    · exact .inl (h.below hb24 o1)
    · exact .inr ⟨h0, h.below hb24⟩
  · obtain ⟨hq, V, h1, h2⟩ := hr
    have hlt : ∀ k, V.ownBlock = some k → w2.heap.size ≤ k ∧ k < w3.heap.size := fun k hk => own_lt h2 hk
    have hrl : rq < w3.heap.size := (Array.getElem?_eq_some_iff.1 h1).1
    exact ⟨V, RbV.keep (w := w3) ⟨h1, own_mono h2 (Nat.zero_le _)⟩ hb4.size (hb4.block _ hrl) (fun k hk => hb4.block _ (hlt k hk).2), (onew_old _ w3 4 rq hrl).trans (onew_new o w2 2 hq), Nat.lt_of_lt_of_le hrl hb4.size, fun k hk => ⟨(onew_old _ w3 4 k (hlt k hk).2).trans (onew_new o w2 2 (hlt k hk).1), Nat.lt_of_lt_of_le (hlt k hk).2 hb4.size⟩⟩
  · rcases hx with ⟨h, h1, h2⟩ | ⟨h0, h⟩
    · exact .inl ⟨h.below hb24, (o1 q h.lt.1).trans h1, (o1 L h.lt.2).trans h2⟩
    · exact .inr ⟨h0, (hb24.block _ (blk_lt h)).trans h⟩
end
end Go.Proofs.Ythgbnkcbcepjdaa
