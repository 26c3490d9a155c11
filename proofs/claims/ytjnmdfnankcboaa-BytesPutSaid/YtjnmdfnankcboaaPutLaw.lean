/- BytesPut, walked. -/
import Derived.Test.YtjnmdfnankcboaaRput
import Derived.Test.YtjnmdfnankcboaaStr
import Derived.Test.YtjnmdfnankcboaaClone8
import Derived.Deep.QuietTactic
import Derived.RegionTactic
import Derived.Deep.RegionWith
set_option linter.unusedVariables false
namespace Go.Proofs.Ytjnmdfnankcboaa
open Go.RowKit

theorem wpList_clone8s {w : World} {ops : Array Oper} {rest : List Oper} {o : Oper} {a : Act} {Q : Exit → Act → World → Prop} (hgd : o.guard = none) (s x : Operand)
    (ho : o.op = .call { callee := .builtin .append, args := #[s, x], argTypes := #[22, 22] }) {A : Option Addr} {n c : Nat} {l : List Int} {B : Nat}
    (hs : a.eval s = .slice (some ⟨w.heap.size, 0, none⟩) 0 0) (hx : a.eval x = .slice A n c) (hln : l.length = n) (hA : A = none → n = 0 ∧ c = 0) (h : Lst w B A (l.map (Value.int .u8))) (hn : n ≤ 100000)
    (hK : ∀ g cv w1, w1.ownsRow w.heap.size 5 1 (.slice (some ⟨g, 0, none⟩) n cv) n (l.map (Value.int .u8)) → Below w.heap.size w w1 → wpList Try.prog ops Q rest (a.put o.dst (.slice (some ⟨g, 0, none⟩) n cv)) w1) :
    wpList Try.prog ops Q (o :: rest) a (w.alloc (Obj.cells #[] 5)) := by
  obtain ⟨i0, hi, hz0, hz1, hz2⟩ := info_parts Try.info5
  have hb0 : Below w.heap.size w (w.alloc (Obj.cells #[] 5)) := (Below.refl _ _).alloc (Nat.le_refl _) _
  rcases A with _ | A
  · obtain ⟨rfl, rfl⟩ := hA rfl
    obtain rfl : l = [] := List.eq_nil_of_length_eq_zero hln
    refine wpList_append_own_none hgd s x 22 ho w.heap.size 5 i0 1 Try.underlying22 hi (.slice (some ⟨w.heap.size, 0, none⟩) 0 0) 0 [] hs (World.ownsRow_made w #[] 0 (Nat.le_refl _) (by unfold maxLen; omega) rfl) hx ?_
    exact hK _ _ _ (World.ownsRow_made w #[] 0 (Nat.le_refl _) (by unfold maxLen; omega) rfl) hb0
  · have hcells := h.add rfl
    refine wpList_append_own _ hgd s x 22 ho w.heap.size 5 i0 (.int .u8 0) 1 1 Try.underlying22 hi hz0 hz1 hz2 rfl (by decide) (.slice (some ⟨w.heap.size, 0, none⟩) 0 0) 0 [] hs (World.ownsRow_made w #[] 0 (Nat.le_refl _) (by unfold maxLen; omega) rfl) A n c (l.map (Value.int .u8)) hx (by simp [hln]) (fun j u hu => (World.cell?_alloc_lt w _ _ (World.block_lt_of_cell? w _ (hcells j u hu))).trans (hcells j u hu)) (ints_oneCell .u8 l) (by unfold maxLen; omega) (by omega) (by simp) ?_
    intro v1 w1 hown hg hnil
    have hb1 : Below w.heap.size w w1 := hb0.grown hg (by simp) (by simp [Value.ownBlock])
    rw [Nat.zero_add, List.nil_append] at hown
    rcases hown.2 with ⟨hv, _⟩ | ⟨g, cap, cur, hv, _⟩
    · exact absurd (hnil.1 hv).1 (by simp)
    · subst hv
      exact hK _ _ _ hown hb1

/-- The two rows that the law hands about: the argument's, and the law's own. -/
structure St (w : World) (lo : Nat) (a0 : Option Addr) (g n cv : Nat) (l : List Int) (u : World) : Prop where
  own : u.ownsRow lo 5 1 (.slice (some ⟨g, 0, none⟩) n cv) n (l.map (Value.int .u8))
  lst : Lst u w.heap.size a0 (l.map (Value.int .u8))
  base : lo ≤ u.heap.size
  low : w.heap.size ≤ lo
  bel : Below w.heap.size w u
section
variable {w : World} {lo : Nat} {a0 : Option Addr} {g n cv : Nat} {l : List Int} {u u' : World}
theorem St.drew (h : St w lo a0 g n cv l u) (k : Nat) : St w lo a0 g n cv l (u.drewN k) := ⟨h.own, h.lst, h.base, h.low, below_drewN h.bel k⟩
theorem St.size (h : St w lo a0 g n cv l u) : g < u.heap.size := (own_lt h.own (k := g) rfl).2
theorem St.below (h : St w lo a0 g n cv l u) (b : Below u.heap.size u u') : St w lo a0 g n cv l u' :=
  ⟨ownsRow_keep h.own b.size (fun k hk => b.block k (own_lt h.own hk).2), h.lst.keep fun p hp => b.cell (by have := h.bel.size; omega), Nat.le_trans h.base b.size, h.low, h.bel.trans (b.mono h.bel.size)⟩
theorem St.only (h : St w lo a0 g n cv l u) (o : Only (fun k => k = g ∨ u.heap.size ≤ k) u u') (hown : u'.ownsRow lo 5 1 (.slice (some ⟨g, 0, none⟩) n cv) n (l.map (Value.int .u8))) : St w lo a0 g n cv l u' := by
  have hg := own_lt h.own (k := g) rfl
  have := h.low
  have := h.bel.size
  exact ⟨hown, h.lst.keep fun p hp => o.cell (by omega), Nat.le_trans h.base o.size, h.low, h.bel.trans (o.below (lo := w.heap.size) (fun k hk => by omega))⟩
end
theorem keep_a {u u1 u2 : World} {A : Option Addr} {m c g : Nat} {xs : List Value} (h : u1.ownsRow u.heap.size 5 1 (.slice A m c) m xs) (o : Only (fun k => k = g ∨ u1.heap.size ≤ k) u1 u2) (hg : g < u.heap.size) : u2.ownsRow u.heap.size 5 1 (.slice A m c) m xs :=
  ownsRow_keep h o.size (fun k hk => o.block k (by have := own_lt h hk; omega))
def outP (l : List Int) (m s : Int) : List Int := l ++ putSaid m s
theorem fa_any {w : World} {lo : Nat} {a0 : Option Addr} {g n cv c0 : Nat} {l : List Int} {u : World} (m s : Int) (hl : l.length = n) (hA : a0 = none → n = 0 ∧ c0 = 0) (hn : n ≤ 1000) (h : St w lo a0 g n cv l u) :
    Calls Try.prog 12 #[.slice a0 n c0, .int .i64 s, .int .i64 m] u fun e u' => ∃ A' c', e = .returned (.slice A' (outP l m s).length c') ∧ u'.ownsRow u.heap.size 5 1 (.slice A' (outP l m s).length c') (outP l m s).length ((outP l m s).map (Value.int .u8)) ∧ Below u.heap.size u u' := by
  have hL := h.lst.more h.bel.size
  by_cases hs : 1 ≤ s ∧ s ≤ 8
  · have hlen : (outP l m s).length = n + s.toNat := by unfold outP putSaid; rw [if_pos hs, List.length_append, putL_len, hl]
    have hmap : (outP l m s).map (Value.int .u8) = l.map (Value.int .u8) ++ (putL m s.toNat).map (Value.int .u8) := by unfold outP putSaid; rw [if_pos hs, List.map_append]
    rw [hlen, hmap]
    refine (put_some a0 n c0 _ u s m (by simp [hl]) hA hL (u8_one l) (by omega) hs).mono ?_
    rintro e u' ⟨g', cap, rfl, hown, hb⟩
    exact ⟨_, _, rfl, hown, hb⟩
  · have hout : outP l m s = l := by unfold outP putSaid; rw [if_neg hs, List.append_nil]
    rw [hout, hl]
    refine (put_none a0 n c0 _ u s m (by simp [hl]) hA hL (u8_one l) (by omega) hs).mono ?_
    rintro e u' ⟨v, rfl, hown, hb⟩
    obtain ⟨A', c', rfl, _⟩ := own_any hown
    exact ⟨_, _, rfl, hown, hb⟩
theorem fr_any {w : World} {lo : Nat} {a0 : Option Addr} {g n cv : Nat} {l : List Int} {u : World} (m s : Int) (hl : l.length = n) (hn : n ≤ 1000) (h : St w lo a0 g n cv l u) :
    Calls Try.prog 13 #[.slice (some ⟨g, 0, none⟩) n cv, .int .i64 s, .int .i64 m] u fun e u' => ∃ A' c', e = .returned (.slice A' (outP l m s).length c') ∧ u'.ownsRow lo 5 1 (.slice A' (outP l m s).length c') (outP l m s).length ((outP l m s).map (Value.int .u8)) ∧ St w lo a0 g n cv l u' ∧ Only (fun k => k = g ∨ u.heap.size ≤ k) u u' := by
  by_cases hs : 1 ≤ s ∧ s ≤ 8
  · have hlen : (outP l m s).length = n + s.toNat := by unfold outP putSaid; rw [if_pos hs, List.length_append, putL_len, hl]
    have hmap : (outP l m s).map (Value.int .u8) = l.map (Value.int .u8) ++ (putL m s.toNat).map (Value.int .u8) := by unfold outP putSaid; rw [if_pos hs, List.map_append]
    rw [hlen, hmap]
    refine (rput_yes h.own h.base hn hs).mono ?_
    rintro e u' ⟨A', c', rfl, hown, hold, ho⟩
    exact ⟨_, _, rfl, hown, h.only ho hold, ho⟩
  · have hout : outP l m s = l := by unfold outP putSaid; rw [if_neg hs, List.append_nil]
    rw [hout, hl]
    refine (rput_no hs).mono ?_
    rintro e u' ⟨rfl, rfl⟩
    exact ⟨_, _, rfl, h.own, h, Only.refl _ _⟩

set_option maxHeartbeats 64000000 in
theorem walk_bytesPut (a0 : Option Addr) (len0 cap0 : Nat) (z0 : List Int) (a1 a2 : Int) (w : World) (w0 : IsRow .u8 w a0 len0 cap0 z0) (w1 : (Lit.int .i64 a1).wf = true) (w2 : (Lit.int .i64 a2).wf = true) :
    Calls Try.prog 3 #[.slice a0 len0 cap0, .int .i64 a1, .int .i64 a2] w fun e w' => e = .returned (.bool true) ∧ Below w.heap.size w w' := by
  have hl := lst_of_row w0
  obtain ⟨hlen, hlc, hcm, hnil⟩ := row_len w0
  clear w0
  generalize hz : z0.take len0 = l at *
  clear hz
  have HL := Lib.hid hl
  have HLen := Lib.hid hlen
  have HNil := Lib.hid hnil
  unfold maxLen at hcm
  clear hl hlen hnil
  by_cases c : len0 ≤ 200
  · have cni : ¬ (200 : Int) < (len0 : Int) := by omega
    have hr := within_rng a1 8 (by omega)
    have WI := Lib.hid (fun (u : World) => within1 a1 8 u (by omega) (by omega))
    generalize a1 % 8 = r at *
    have hr1 : IntKind.i64.wrap (1 + r) = 1 + r := IntWalk.i64_in _ (by omega)
    go_enter Try.func3, Try.ntmps3
    go_wp2_with fail
    refine (known1 _).mono ?_
    rintro e w1 ⟨rfl, b1⟩
    have s1 := b1.size
    have HL1 := Lib.hid (HL.out.below b1)
    go_wp2_with (at_builtin; refine wpList_clone8s rfl (.tmp 14) (.tmp 15) rfl rfl rfl HLen.out HNil.out HL1.out (by omega) ?_)
    intro g cv w2 hown2 b2
    have S2 : Hid (St w w1.heap.size a0 g len0 cv l w2) := Lib.hid ⟨hown2, HL1.out.keep fun p hp => b2.cell (by omega), b2.size, s1, b1.trans (b2.mono s1)⟩
    clear hown2 b2 HL1 b1
    go_wp2_with fail
    refine (WI.out _).mono ?_
    rintro e w3 ⟨rfl, rfl⟩
    have FA1 := Lib.hid (fun (u : World) (h : St w w1.heap.size a0 g len0 cv l u) => fa_any (c0 := cap0) a2 a1 HLen.out HNil.out (by omega) h)
    have FR1 := Lib.hid (fun (u : World) (h : St w w1.heap.size a0 g len0 cv l u) => fr_any a2 a1 HLen.out (by omega) h)
    have FA2 := Lib.hid (fun (u : World) (h : St w w1.heap.size a0 g len0 cv l u) => fa_any (c0 := cap0) a2 (1 + r) HLen.out HNil.out (by omega) h)
    have FR2 := Lib.hid (fun (u : World) (h : St w w1.heap.size a0 g len0 cv l u) => fr_any a2 (1 + r) HLen.out (by omega) h)
    generalize outP l a2 a1 = L1 at *
    generalize outP l a2 (1 + r) = L2 at *
    have CV1 : Hid (∀ (u : World) (Bd : Nat) (A : Option Addr) (c : Nat), Lst u Bd A (L1.map (Value.int .u8)) → (convert 22 9 (.slice A L1.length c)).run Try.prog u = .ok (.string (strOf L1)) u) := Lib.hid (fun u Bd A c hu => conv_str rfl hu)
    have CV2 : Hid (∀ (u : World) (Bd : Nat) (A : Option Addr) (c : Nat), Lst u Bd A (L2.map (Value.int .u8)) → (convert 22 9 (.slice A L2.length c)).run Try.prog u = .ok (.string (strOf L2)) u) := Lib.hid (fun u Bd A c hu => conv_str rfl hu)
    generalize strOf L1 = Z1 at *
    generalize strOf L2 = Z2 at *
    have SD := S2.out.drew 1
    clear S2 WI HL HLen HNil hcm hlc hr
    trace "region"
    go_wp2
    go_region_with (first
      | (go_at_call_of 12 (Value.int IntKind.i64 a1); refine (FA1.out _ SD).mono ?_; rintro e up1 ⟨Ap1, cp1, rfl, hvp1, op1⟩; have hcp1 := CV1.out _ _ _ cp1 (Lst.own hvp1); have SA1 := St.below SD op1; have SZ1 := St.size SD)
      | (go_at_call_of 13 (Value.int IntKind.i64 a1); refine (FR1.out _ SA1).mono ?_; rintro e uq1 ⟨Aq1, cq1, rfl, hvq1, SF, oq1⟩; have hcq1 := CV1.out _ _ _ cq1 (Lst.own hvq1); have hcc1 := CV1.out _ _ _ cp1 (Lst.own (keep_a hvp1 oq1 SZ1)))
      | (go_at_call 12; refine (FA2.out _ SF).mono ?_; rintro e up2 ⟨Ap2, cp2, rfl, hvp2, op2⟩; have hcp2 := CV2.out _ _ _ cp2 (Lst.own hvp2); have SA2 := St.below SF op2; have SZ2 := St.size SF)
      | (go_at_call 13; refine (FR2.out _ SA2).mono ?_; rintro e uq2 ⟨Aq2, cq2, rfl, hvq2, SG, oq2⟩; have hcq2 := CV2.out _ _ _ cq2 (Lst.own hvq2); have hcc2 := CV2.out _ _ _ cp2 (Lst.own (keep_a hvp2 oq2 SZ2))))
    trace "walked"
    all_goals
      have hbel := SG.bel
      go_wp2
      go_ret
      refine ⟨?_, hbel⟩
      first | rfl | (simp; done)
  · have cni : (200 : Int) < (len0 : Int) := by omega
    go_enter Try.func3, Try.ntmps3
    go_wp2_with fail
    refine (known1 _).mono ?_
    rintro e w1 ⟨rfl, h1⟩
    go_wp2
    go_ret
    exact ⟨rfl, h1⟩
end Go.Proofs.Ytjnmdfnankcboaa
