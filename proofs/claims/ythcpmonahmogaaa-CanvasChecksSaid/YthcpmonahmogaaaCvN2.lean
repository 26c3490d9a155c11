/- canvas: components in memory, each with its samples; one more of either. -/
import Derived.Test.YthcpmonahmogaaaCvN0
import Derived.Test.YthcpmonahmogaaaCvSa0
set_option linter.unusedVariables false
set_option linter.unusedSimpArgs false
namespace Go.Proofs.Ythcpmonahmogaaa
open Go.RowKit
set_option maxRecDepth 100000
theorem own_ne {w : World} {lo lo' : Nat} {e e' : TypeId} {s s' n n' : Nat} {v v' : Value} {xs xs' : List Value} (h : w.ownsRow lo e s v n xs) (h' : w.ownsRow lo' e' s' v' n' xs') (hne : e ≠ e') : ∀ k, v.ownBlock = some k → v'.ownBlock ≠ some k := by
  intro k hk hk'
  rcases h.2 with ⟨rfl, _⟩ | ⟨g, cap, cur, rfl, _, hg, _⟩
  · simp [Value.ownBlock] at hk
  · rcases h'.2 with ⟨rfl, _⟩ | ⟨g', cap', cur', rfl, _, hg', _⟩
    · simp [Value.ownBlock] at hk'
    · have e1 : g = k := by simpa [Value.ownBlock] using hk
      have e2 : g' = k := by simpa [Value.ownBlock] using hk'
      subst e1 e2
      rw [hg] at hg'
      simp at hg'
      exact hne hg'.2
def cpV (c : Cp) : List Value := [.int .i64 c.d, .bool c.sg, .int .i64 c.dx, .int .i64 c.dy, .slice c.A c.n c.cap]
/-- A component's samples: its own, and within its bounds. -/
def DatIn (lo : Nat) (w : World) (c : Cp) : Prop := ∃ l : List Int, w.ownsRow lo 3 1 (.slice c.A c.n c.cap) c.n (l.map (Value.int .i64)) ∧ ∀ v ∈ l, leastF c.d.toNat c.sg ≤ v ∧ v ≤ mostF c.d.toNat c.sg
/-- Components in memory, all from block lo on. -/
structure CRow (lo : Nat) (w : World) (V : Value) (cs : List Cp) : Prop where
  own : w.ownsRow lo 39 5 V cs.length (cs.flatMap cpV)
  dat : ∀ c ∈ cs, DatIn lo w c
section
variable {lo : Nat} {w w' : World} {V : Value} {cs : List Cp}
theorem DatIn.keep {c : Cp} (h : DatIn lo w c) (hs : w.heap.size ≤ w'.heap.size) (hk : ∀ k, (Value.slice c.A c.n c.cap).ownBlock = some k → w'.heap[k]? = w.heap[k]?) : DatIn lo w' c := by
  obtain ⟨l, h1, h2⟩ := h
  exact ⟨l, ownsRow_keep h1 hs hk, h2⟩
theorem DatIn.below {c : Cp} (h : DatIn lo w c) (hb : Below w.heap.size w w') : DatIn lo w' c := by
  obtain ⟨l, h1, h2⟩ := h
  exact ⟨l, ownsRow_keep h1 hb.size (fun k e => hb.block k (own_lt h1 e).2), h2⟩
theorem own_low {w : World} {lo lo' n s : Nat} {e : TypeId} {v : Value} {xs : List Value} (h : w.ownsRow lo e s v n xs) (hl : lo' ≤ lo) : w.ownsRow lo' e s v n xs := by
  refine ⟨h.1, ?_⟩
  rcases h.2 with h | ⟨g, cap, cur, hv, hg, r⟩
  · exact Or.inl h
  · exact Or.inr ⟨g, cap, cur, hv, Nat.le_trans hl hg, r⟩
theorem DatIn.low {c : Cp} {lo' : Nat} (h : DatIn lo w c) (hl : lo' ≤ lo) : DatIn lo' w c := by
  obtain ⟨l, h1, h2⟩ := h
  exact ⟨l, own_low h1 hl, h2⟩
theorem CRow.below (h : CRow lo w V cs) (hb : Below w.heap.size w w') : CRow lo w' V cs :=
  ⟨ownsRow_keep h.own hb.size (fun k e => hb.block k (own_lt h.own e).2), fun c hc => (h.dat c hc).below hb⟩
theorem CRow.drewN (h : CRow lo w V cs) (n : Nat) : CRow lo (w.drewN n) V cs := h.below (below_drewN (Below.refl _ _) n)
theorem CRow.nil (lo : Nat) (w : World) : CRow lo w (.slice none 0 0) [] := ⟨World.ownsRow_nil _ _ _ _, fun c hc => by cases hc⟩
theorem CRow.setCell (h : CRow lo w V cs) {b k : Nat} {cc : Array Value} {t : TypeId} (hb : w.heap[b]? = some (.cells cc t (0, 0))) (h1 : t ≠ 39) (h2 : t ≠ 3) (u : Value) : CRow lo (w.setCell ⟨b, k, none⟩ u) V cs := by
  have hne : ∀ {lo' : Nat} {e : TypeId} {s n : Nat} {v : Value} {xs : List Value}, w.ownsRow lo' e s v n xs → t ≠ e → ∀ q, v.ownBlock = some q → q ≠ b := by
    intro lo' e s n v xs ho hte q hq hqb
    subst hqb
    exact blk_not_row hb hte ho hq
  have kp : ∀ q, q ≠ b → (w.setCell ⟨b, k, none⟩ u).heap[q]? = w.heap[q]? := fun q hq => Below.heap_setCell _ _ _ _ (by simpa using hq)
  refine ⟨ownsRow_keep h.own (by rw [size_setCell]; exact Nat.le_refl _) (fun q e => kp q (hne h.own h1 q e)), fun c hc => ?_⟩
  obtain ⟨l, g1, g2⟩ := h.dat c hc
  exact ⟨l, ownsRow_keep g1 (by rw [size_setCell]; exact Nat.le_refl _) (fun q e => kp q (hne g1 h2 q e)), g2⟩
end
theorem CRow.setRow {lo : Nat} {w : World} {V : Value} {cs : List Cp} (h : CRow lo w V cs) {b : Nat} {cc : Array Value} {t : TypeId} (hb : w.heap[b]? = some (.cells cc t (0, 0))) (h1 : t ≠ 39) (h2 : t ≠ 3) (u : Array Value) : CRow lo (w.setRow b u) V cs := by
  have hne : ∀ {lo' : Nat} {e : TypeId} {s n : Nat} {v : Value} {xs : List Value}, w.ownsRow lo' e s v n xs → t ≠ e → ∀ q, v.ownBlock = some q → q ≠ b := by
    intro lo' e s n v xs ho hte q hq hqb
    subst hqb
    exact blk_not_row hb hte ho hq
  refine ⟨ownsRow_keep h.own (by rw [setRow_size]; exact Nat.le_refl _) (fun q e => setRow_ne w b q u (hne h.own h1 q e)), fun c hc => ?_⟩
  obtain ⟨l, g1, g2⟩ := h.dat c hc
  exact ⟨l, ownsRow_keep g1 (by rw [setRow_size]; exact Nat.le_refl _) (fun q e => setRow_ne w b q u (hne g1 h2 q e)), g2⟩
theorem MkW.grown {w0 w w' : World} {B : Nat} {l : List (Array Value × TypeId)} {row : Option Nat} (h : MkW w0 B l w) (hg : w.grownBy w' row) (hr : ∀ k, row = some k → B + l.length ≤ k) : MkW w0 B l w' :=
  ⟨fun i c e => (hg.block _ (Array.getElem?_eq_some_iff.1 (h.b i c e)).1 (fun e' => by have := hr _ e'.symm; have := (List.getElem?_eq_some_iff.1 e).1; omega)).trans (h.b i c e),
    h.bel.grown hg (by have := h.sz; omega) (fun k e => by have := hr k e; omega), Nat.le_trans h.sz hg.size⟩
/-- One more component. -/
theorem app_cp {lo z : Nat} {w : World} {V : Value} {cs : List Cp} (c : Cp) (h : CRow lo w V cs) (hz : w.heap[z]? = some (.cells #[.int .i64 c.d, .bool c.sg, .int .i64 c.dx, .int .i64 c.dy, .slice c.A c.n c.cap] 39 (0, 0))) (hd : DatIn lo w c) (hb : lo ≤ w.heap.size) (hm : cs.length ≤ 100000) :
    ∃ A cap w', (appSem #[22, 22] 22 #[V, .slice (some ⟨z, 0, none⟩) 1 1]).run Try.prog w = .ok (.slice A (cs.length + 1) cap) w' ∧ CRow lo w' (.slice A (cs.length + 1) cap) (cs ++ [c]) ∧ w.grownBy w' V.ownBlock := by
  obtain ⟨i0, hi, hzz⟩ := Option.map_eq_some_iff.1 Try.info39
  simp only [Prod.mk.injEq] at hzz
  obtain ⟨hz0, hz1, hz2⟩ := hzz
  obtain ⟨v', w', hr, hown', hg, _, hat⟩ := run_append_own_at (P := Try.prog) w lo 22 22 39 i0 _ 5 56 (by kernel_rfl) hi hz0 hz1 hz2 rfl (by decide) V cs.length (cs.flatMap cpV) h.own ⟨z, 0, none⟩ 1 1 (cpV c) rfl (fun j u hu => by
    rcases j with _ | _ | _ | _ | _ | j
    · simp [cpV] at hu; subst hu; simp [World.cell?, Addr.add, hz]
    · simp [cpV] at hu; subst hu; simp [World.cell?, Addr.add, hz]
    · simp [cpV] at hu; subst hu; simp [World.cell?, Addr.add, hz]
    · simp [cpV] at hu; subst hu; simp [World.cell?, Addr.add, hz]
    · simp [cpV] at hu; subst hu; simp [World.cell?, Addr.add, hz]
    · simp [cpV] at hu) (fun u hu => by
    simp [cpV] at hu
    rcases hu with rfl | rfl | rfl | rfl | rfl <;> rfl) (by unfold maxLen; omega) (by omega) hb
  obtain ⟨A, cap, rfl, _⟩ := own_any hown'
  have kd : ∀ c' : Cp, DatIn lo w c' → DatIn lo w' c' := fun c' hc' => by
    obtain ⟨l, g1, g2⟩ := hc'
    exact ⟨l, ownsRow_keep g1 hg.size (fun q e => hg.block q (own_lt g1 e).2 (fun e' => own_ne g1 h.own (by decide) q e e'.symm)), g2⟩
  refine ⟨A, cap, w', hr, ⟨by simpa [List.length_append, List.flatMap_append] using hown', fun c' hc' => ?_⟩, hg⟩
  rcases List.mem_append.1 hc' with hc' | hc'
  · exact kd c' (h.dat c' hc')
  · simp at hc'
    subst hc'
    exact kd _ hd
/-- A component's samples while they grow. -/
structure XDat (w0 : World) (xb : Nat) (d : Int) (sg : Bool) (dx dy : Int) (V : Value) (l : List Int) (w : World) : Prop where
  comp : w.heap[xb]? = some (.cells #[.int .i64 d, .bool sg, .int .i64 dx, .int .i64 dy, V] 39 (0, 0))
  own : w.ownsRow (xb + 1) 3 1 V l.length (l.map (Value.int .i64))
  bel : Below xb w0 w
section
variable {w0 w w' : World} {xb : Nat} {d dx dy : Int} {sg : Bool} {V : Value} {l : List Int}
theorem XDat.lt (h : XDat w0 xb d sg dx dy V l w) : xb < w.heap.size := (Array.getElem?_eq_some_iff.1 h.comp).1
theorem XDat.drewN (h : XDat w0 xb d sg dx dy V l w) (n : Nat) : XDat w0 xb d sg dx dy V l (w.drewN n) := ⟨h.comp, h.own, below_drewN h.bel n⟩
theorem XDat.drew (h : XDat w0 xb d sg dx dy V l w) : XDat w0 xb d sg dx dy V l w.drew := h.drewN 1
theorem XDat.below (h : XDat w0 xb d sg dx dy V l w) (hb : Below w.heap.size w w') : XDat w0 xb d sg dx dy V l w' :=
  ⟨(hb.block _ h.lt).trans h.comp, ownsRow_keep h.own hb.size (fun k e => hb.block k (own_lt h.own e).2), h.bel.trans (hb.mono (Nat.le_of_lt h.lt))⟩
theorem XDat.alloc (h : XDat w0 xb d sg dx dy V l w) (o : Obj) : XDat w0 xb d sg dx dy V l (w.alloc o) := h.below ((Below.refl _ _).alloc (Nat.le_refl _) o)
/-- Behind the append, ahead of the store. -/
theorem XDat.app (h : XDat w0 xb d sg dx dy V l w) {z : Nat} {x : Int} (hz : w.heap[z]? = some (.cells #[.int .i64 x] 3 (0, 0))) (hm : l.length ≤ 100000) :
    ∃ U w', (appSem #[27, 27] 27 #[V, .slice (some ⟨z, 0, none⟩) 1 1]).run Try.prog w = .ok U w' ∧ w'.heap[xb]? = some (.cells #[.int .i64 d, .bool sg, .int .i64 dx, .int .i64 dy, V] 39 (0, 0)) ∧ w'.ownsRow (xb + 1) 3 1 U (l ++ [x]).length ((l ++ [x]).map (Value.int .i64)) ∧ Below xb w0 w' := by
  obtain ⟨U, w', hr, ho, hg, _⟩ := app_int h.own hz (by have := h.lt; omega) hm
  refine ⟨U, w', hr, ?_, by simpa using ho, h.bel.grown hg (Nat.le_of_lt h.lt) (fun k e => by have := (own_lt h.own e).1; omega)⟩
  rw [← h.comp]
  exact hg.block _ h.lt (fun e => by have := (own_lt h.own e.symm).1; omega)
theorem XDat.set {U : Value} {l2 : List Int} (hc : w.heap[xb]? = some (.cells #[.int .i64 d, .bool sg, .int .i64 dx, .int .i64 dy, V] 39 (0, 0))) (ho : w.ownsRow (xb + 1) 3 1 U l2.length (l2.map (Value.int .i64))) (hb : Below xb w0 w) : XDat w0 xb d sg dx dy U l2 (w.setCell ⟨xb, 4, none⟩ U) := by
  refine ⟨?_, ownsRow_keep ho (by rw [size_setCell]; exact Nat.le_refl _) (fun k e => Below.heap_setCell _ _ _ _ (by show k ≠ xb; have := (own_lt ho e).1; omega)), hb.setCell (p := ⟨xb, 4, none⟩) (Nat.le_refl _) _⟩
  simp [World.setCell, Array.getElem?_modify, hc]
end
theorem MkW.other {w0 w : World} {B : Nat} {l : List (Array Value × TypeId)} (h : MkW w0 B l w) {p : Addr} (hp : B + l.length ≤ p.block) (u : Value) : MkW w0 B l (w.setCell p u) :=
  ⟨fun i c e => (Below.heap_setCell _ _ _ _ (by have := (List.getElem?_eq_some_iff.1 e).1; omega)).trans (h.b i c e), h.bel.setCell (by omega) u, by rw [size_setCell]; exact h.sz⟩
section
variable {w0 w : World} {xb : Nat} {d dx dy : Int} {sg : Bool} {V : Value} {l : List Int}
theorem XDat.fro (h : XDat w0 xb d sg dx dy V l w) (k : Nat) : w.frozen? ⟨xb, k, none⟩ = false := by simp [World.frozen?, h.comp]
theorem XDat.own_set (h : XDat w0 xb d sg dx dy V l w) (k : Nat) (u : Value) : (w.setCell ⟨xb, k, none⟩ u).ownsRow (xb + 1) 3 1 V l.length (l.map (Value.int .i64)) :=
  ownsRow_keep h.own (by rw [size_setCell]; exact Nat.le_refl _) (fun q e => Below.heap_setCell _ _ _ _ (by show q ≠ xb; have := (own_lt h.own e).1; omega))
theorem XDat.set0 (h : XDat w0 xb d sg dx dy V l w) (v : Int) : XDat w0 xb v sg dx dy V l (w.setCell ⟨xb, 0, none⟩ (.int .i64 v)) :=
  ⟨by simp [World.setCell, Array.getElem?_modify, h.comp], h.own_set 0 _, h.bel.setCell (p := ⟨xb, 0, none⟩) (Nat.le_refl _) _⟩
theorem XDat.set2 (h : XDat w0 xb d sg dx dy V l w) (v : Int) : XDat w0 xb d sg v dy V l (w.setCell ⟨xb, 2, none⟩ (.int .i64 v)) :=
  ⟨by simp [World.setCell, Array.getElem?_modify, h.comp], h.own_set 2 _, h.bel.setCell (p := ⟨xb, 2, none⟩) (Nat.le_refl _) _⟩
theorem XDat.set3 (h : XDat w0 xb d sg dx dy V l w) (v : Int) : XDat w0 xb d sg dx v V l (w.setCell ⟨xb, 3, none⟩ (.int .i64 v)) :=
  ⟨by simp [World.setCell, Array.getElem?_modify, h.comp], h.own_set 3 _, h.bel.setCell (p := ⟨xb, 3, none⟩) (Nat.le_refl _) _⟩
theorem XDat.new (w : World) (d : Int) (sg : Bool) (dx dy : Int) : XDat w w.heap.size d sg dx dy (.slice none 0 0) [] (w.alloc (.cells #[.int .i64 d, .bool sg, .int .i64 dx, .int .i64 dy, .slice none 0 0] 39)) :=
  ⟨World.alloc_heap_new w _, World.ownsRow_nil _ _ _ _, (Below.refl _ _).alloc (Nat.le_refl _) _⟩
end
theorem tdiv_bd {a b : Int} (ha : -9223372036854775808 ≤ a ∧ a ≤ 9223372036854775807) (hb : 2 ≤ b) : -4611686018427387904 ≤ a.tdiv b ∧ a.tdiv b ≤ 4611686018427387904 := by
  have key : ∀ x : Int, 0 ≤ x → x ≤ 9223372036854775808 → 0 ≤ x / b ∧ x / b ≤ 4611686018427387904 := fun x h0 h1 => by
    refine ⟨Int.ediv_nonneg h0 (by omega), ?_⟩
    have h2 : x / b ≤ x / 2 := by
      have e := Int.ediv_nonneg h0 (show (0 : Int) ≤ b by omega)
      have e1 : b * (x / b) ≤ x := Int.mul_ediv_self_le (by omega)
      have e2 : 2 * (x / b) ≤ b * (x / b) := Int.mul_le_mul_of_nonneg_right hb e
      omega
    omega
  by_cases h : 0 ≤ a
  · rw [Int.tdiv_eq_ediv_of_nonneg h]
    have := key a h (by omega)
    omega
  · have e : a.tdiv b = -((-a) / b) := by
      rw [← Int.tdiv_eq_ediv_of_nonneg (show 0 ≤ -a by omega), Int.neg_tdiv]
      omega
    have := key (-a) (by omega) (by omega)
    omega
/-- All that the append of a component leaves behind, once the picture's field is set. -/
theorem add_cp {w0 w9 wi : World} {B xb : Nat} {l : List (Array Value × TypeId)} {V : Value} {cs : List Cp} {c : Cp} {x y ox oy : Int} (ls : List Int)
    (HW : MkW w0 B l w9) (h3 : l[3]? = some (#[.int .i64 x, .int .i64 y, .int .i64 ox, .int .i64 oy, V], 24)) (hl : l.length = 5) (HC : CRow (B + 5) w9 V cs) (hxb : w9.heap.size = xb) (hm : cs.length ≤ 1000)
    (HX : XDat w9 xb c.d c.sg c.dx c.dy (.slice c.A c.n c.cap) ls wi) (hlen : ls.length = c.n) (hb : ∀ v ∈ ls, leastF c.d.toNat c.sg ≤ v ∧ v ≤ mostF c.d.toNat c.sg) :
    ∃ A cap w', (appSem #[22, 22] 22 #[V, .slice (some ⟨wi.heap.size, 0, none⟩) 1 1]).run Try.prog (wi.alloc (.cells #[.int .i64 c.d, .bool c.sg, .int .i64 c.dx, .int .i64 c.dy, .slice c.A c.n c.cap] 39)) = .ok (.slice A (cs.length + 1) cap) w' ∧
      w'.cell? ⟨B + 3, 4, none⟩ = some V ∧ w'.frozen? ⟨B + 3, 4, none⟩ = false ∧
      MkW w0 B (l.set 3 (#[.int .i64 x, .int .i64 y, .int .i64 ox, .int .i64 oy, .slice A (cs.length + 1) cap], 24)) (w'.setCell ⟨B + 3, 4, none⟩ (.slice A (cs.length + 1) cap)) ∧
      CRow (B + 5) (w'.setCell ⟨B + 3, 4, none⟩ (.slice A (cs.length + 1) cap)) (.slice A (cs.length + 1) cap) (cs ++ [c]) := by
  subst hxb
  have hsz := HW.sz
  rw [hl] at hsz
  have HCi : CRow (B + 5) wi V cs := HC.below HX.bel
  have HWi : MkW w0 B l wi := HW.keepN HX.bel (by omega)
  have hd : DatIn (B + 5) wi c := by
    have := own_low HX.own (show B + 5 ≤ w9.heap.size + 1 by omega)
    rw [hlen] at this
    exact ⟨ls, this, hb⟩
  have ba : Below wi.heap.size wi (wi.alloc (.cells #[.int .i64 c.d, .bool c.sg, .int .i64 c.dx, .int .i64 c.dy, .slice c.A c.n c.cap] 39)) := (Below.refl _ _).alloc (Nat.le_refl _) _
  have hwi := HWi.sz
  rw [hl] at hwi
  obtain ⟨A, cap, w', hr, hCR, hg⟩ := app_cp (lo := B + 5) (w := wi.alloc (.cells #[.int .i64 c.d, .bool c.sg, .int .i64 c.dx, .int .i64 c.dy, .slice c.A c.n c.cap] 39)) c (HCi.below ba) (World.alloc_heap_new wi _) (hd.below ba) (by simp; omega) (by omega)
  have HW' : MkW w0 B l w' := (HWi.alloc _).grown hg (fun k e => by rw [hl]; exact (own_lt (HCi.below ba).own e).1)
  have hb3 := HW'.b 3 _ h3
  have hset := HW'.set (i := 3) h3 rfl 4 (.slice A (cs.length + 1) cap)
  exact ⟨A, cap, w', hr, blk_cell hb3 4, HW'.fro h3 4, hset, hCR.setCell (t := 24) hb3 (by decide) (by decide) _⟩
/-- What the law makes of its numbers for a component: its depth, its steps. -/
def cpK (sb DP : Int) (c : Nat) : Int × Int × Int := if sb.tmod 5 = 1 ∧ 0 < c then (1 + (DP + c) % 10, 1 + (sb.tdiv 5 + c) % 3, 1 + (sb.tdiv 15) % 3) else (DP, 1, 1)
theorem cpK_bd {sb DP : Int} (c : Nat) (h : 1 ≤ DP ∧ DP ≤ 10) : (1 ≤ (cpK sb DP c).1 ∧ (cpK sb DP c).1 ≤ 10) ∧ (1 ≤ (cpK sb DP c).2.1 ∧ (cpK sb DP c).2.1 ≤ 3) ∧ (1 ≤ (cpK sb DP c).2.2 ∧ (cpK sb DP c).2.2 ≤ 3) := by
  unfold cpK
  split
  · simp only
    omega
  · simp only
    omega
def areaF (X Y OX OY dx dy : Int) : Int := (ceilF X dx - ceilF OX dx) * (ceilF Y dy - ceilF OY dy)
/-- A component is what the law's numbers say. -/
def KeyIs (X Y OX OY sb DP : Int) (sg : Bool) (i : Nat) (c : Cp) : Prop := c.d = (cpK sb DP i).1 ∧ c.sg = sg ∧ c.dx = (cpK sb DP i).2.1 ∧ c.dy = (cpK sb DP i).2.2 ∧ (c.n : Int) = areaF X Y OX OY c.dx c.dy
end Go.Proofs.Ythcpmonahmogaaa
