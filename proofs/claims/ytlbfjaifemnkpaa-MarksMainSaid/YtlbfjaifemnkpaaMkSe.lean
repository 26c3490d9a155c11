/- marks: what the laws over two Heads share: things made in a region that draws its order, in a bag. -/
import Derived.Test.YtlbfjaifemnkpaaMkSd
import Derived.Laws.Rows
set_option linter.unusedVariables false
set_option linter.unusedSimpArgs false
namespace Go.Proofs.Ytlbfjaifemnkpaa
open Go.RowKit
set_option maxRecDepth 100000
theorem within17 (a n : Int) (w : World) (hn : 1 ≤ n) (hm : n ≤ 4611686018427387904) :
    Calls Try.prog 19 #[.int .i64 a, .int .i64 n] w fun e w' => e = .returned (.int .i64 (a % n)) ∧ w = w' := by
  have hb := within_bd a n hn
  have hk := within_key a n hn
  have HK := Lib.hid hk
  clear hk
  have h0 : ¬ n = 0 := by omega
  by_cases hc : a.tmod n < 0
  · go_enter Try.func19, Try.ntmps19
    go_wp2
    go_ret
    refine ⟨ret_i64 ?_, rfl⟩
    rw [← HK.out, if_pos (by omega)]
  · go_enter Try.func19, Try.ntmps19
    go_wp2
    go_ret
    refine ⟨ret_i64 ?_, rfl⟩
    rw [← HK.out, if_neg (by omega)]
/-- A whole struct is loaded in a region that draws its order. -/
theorem run_load_many {P : Program} {tmps : Array Value} {df : List Deferred} {ty : TypeId} {kx : Nat} {d : Option Tmp} {tt : TypeId} {ps : String} {af : Array Edge} {gd : Option (Nat × Bool)} {w : World} {g : Nat} {cs : Array Value} {t : TypeId} {fr : Nat × Nat} {ds : TypeDesc} (hx : tmps[kx]?.getD undef = .pointer (some ⟨g, 0, none⟩)) 
    (hg : w.heap[g]? = some (.cells cs t fr)) (hu : P.underlying ty = some ds) (hd : (match ds with | .struct _ | .array _ _ => true | _ => false) = true) (hi : (P.info? ty).map (·.size) = some cs.size) :
    (execOp (Act.eval ⟨tmps, df⟩) ⟨d, .load ty (.tmp kx), tt, ps, af, gd⟩).run P w = .ok (.value (.agg cs)) w := by
  have hx' : Act.eval ⟨tmps, df⟩ (.tmp kx) = .pointer (some ⟨g, 0, none⟩) := (Array.getD_eq_getD_getElem? ..).trans hx
  unfold execOp
  simp only [hx', Instr.loadAt, Instr.sureAddr, Sem.run_bind, Sem.run_pure, Result.andThen_ok, run_loadVar_row w g t ty cs fr ds hg hu hd hi]
theorem wpList_load_row_g {P : Program} {ops : Array Oper} {rest : List Oper} {o : Oper} {a : Act} {w : World} {Q : Exit → Act → World → Prop} (hw : Region.wanted o (yielded ops a.tmps) = true) (ty : TypeId) (x : Operand) (ho : o.op = .load ty x)
    (g : Nat) (hx : a.eval x = .pointer (some ⟨g, 0, none⟩)) (t : TypeId) (cs : Array Value) (fr : Nat × Nat) (d : TypeDesc) (hg : w.heap[g]? = some (.cells cs t fr))
    (hu : P.underlying ty = some d) (hd : (match d with | .struct _ | .array _ _ => true | _ => false) = true) (hi : (P.info? ty).map (·.size) = some cs.size)
    (h : wpList P ops Q rest (a.put o.dst (.agg cs)) w) : wpList P ops Q (o :: rest) a w :=
  wpList_step fun K hK => by rw [if_pos hw]; exact wp_load_row ty x ho g hx t cs fr d hg hu hd hi (hK _ _ h)
/-- Things made since W0 in any order: blocks (flag, block, cells, type) and rows of components (flag, from where on, row, components). -/
structure Bag (L : Nat → Bool) (lo : Nat) (W0 w : World) (bs : List (Nat × Nat × Array Value × TypeId)) (rs : List (Nat × Nat × Value × List Cp)) : Prop where
  bel : Below lo W0 w
  sz : lo ≤ w.heap.size
  b : ∀ x ∈ bs, L x.1 = true → lo ≤ x.2.1 ∧ w.heap[x.2.1]? = some (.cells x.2.2.1 x.2.2.2 (0, 0))
  ne : ∀ x ∈ bs, ∀ y ∈ bs, L x.1 = true → L y.1 = true → x.1 ≠ y.1 → x.2.1 ≠ y.2.1
  r : ∀ x ∈ rs, L x.1 = true → CRow lo w x.2.2.1 x.2.2.2
  rn : ∀ x ∈ rs, ∀ y ∈ rs, L x.1 = true → L y.1 = true → x.1 ≠ y.1 → ∀ q, x.2.2.1.ownBlock = some q → y.2.2.1.ownBlock ≠ some q
section
variable {L : Nat → Bool} {lo i : Nat} {W0 w w' : World} {bs bs' : List (Nat × Nat × Array Value × TypeId)} {rs rs' : List (Nat × Nat × Value × List Cp)}
theorem upd_at (L : Nat → Bool) {i k : Nat} (h : k ≠ i) (e : upd L i k = true) : L k = true := by rwa [upd_ne L h] at e
theorem Bag.skip (h : Bag L lo W0 w bs rs) (i : Nat) (hb : ∀ x ∈ bs, x.1 ≠ i) (hr : ∀ x ∈ rs, x.1 ≠ i) : Bag (upd L i) lo W0 w bs rs :=
  ⟨h.bel, h.sz, fun x hx e => h.b x hx (upd_at L (hb x hx) e), fun x hx y hy e e' => h.ne x hx y hy (upd_at L (hb x hx) e) (upd_at L (hb y hy) e'), fun x hx e => h.r x hx (upd_at L (hr x hx) e), fun x hx y hy e e' => h.rn x hx y hy (upd_at L (hr x hx) e) (upd_at L (hr y hy) e')⟩
theorem Bag.keep (h : Bag L lo W0 w bs rs) (hb : Below w.heap.size w w') : Bag L lo W0 w' bs rs :=
  ⟨h.bel.trans (hb.mono h.sz), Nat.le_trans h.sz hb.size, fun x hx e => ⟨(h.b x hx e).1, (hb.block _ (Array.getElem?_eq_some_iff.1 (h.b x hx e).2).1).trans (h.b x hx e).2⟩, h.ne, fun x hx e => (h.r x hx e).below hb, h.rn⟩
/-- A new block. -/
theorem Bag.new (h : Bag L lo W0 w bs rs) (i : Nat) (cs : Array Value) (t : TypeId) (hb : ∀ x ∈ bs', x.1 ≠ i → x ∈ bs) (hi : ∀ x ∈ bs', x.1 = i → x = (i, w.heap.size, cs, t)) (hr : ∀ x ∈ rs, x.1 ≠ i) : Bag (upd L i) lo W0 (w.alloc (.cells cs t)) bs' rs := by
  have hw : Below w.heap.size w (w.alloc (.cells cs t)) := (Below.refl _ _).alloc (Nat.le_refl _) _
  have k := h.keep hw
  have lt : ∀ x ∈ bs, L x.1 = true → x.2.1 < w.heap.size := fun x hx e => (Array.getElem?_eq_some_iff.1 (h.b x hx e).2).1
  refine ⟨k.bel, k.sz, fun x hx e => ?_, fun x hx y hy e e' hn => ?_, fun x hx e => k.r x hx (upd_at L (hr x hx) e), fun x hx y hy e e' => h.rn x hx y hy (upd_at L (hr x hx) e) (upd_at L (hr y hy) e')⟩
  · by_cases hxi : x.1 = i
    · rw [hi x hx hxi]
      exact ⟨h.sz, World.alloc_heap_new w _⟩
    · exact k.b x (hb x hx hxi) (upd_at L hxi e)
  · by_cases hxi : x.1 = i
    · have hyi : y.1 ≠ i := fun e => hn (hxi.trans e.symm)
      have := lt y (hb y hy hyi) (upd_at L hyi e')
      rw [hi x hx hxi]
      exact Nat.ne_of_gt this
    · by_cases hyi : y.1 = i
      · have := lt x (hb x hx hxi) (upd_at L hxi e)
        rw [hi y hy hyi]
        exact Nat.ne_of_lt this
      · exact h.ne x (hb x hx hxi) y (hb y hy hyi) (upd_at L hxi e) (upd_at L hyi e') hn
/-- A call that makes a row. -/
theorem Bag.call (h : Bag L lo W0 w bs rs) (hw : Below w.heap.size w w') (i : Nat) {V : Value} {cs : List Cp} (hc : CRow w.heap.size w' V cs) (m : Nat) (hb : ∀ x ∈ bs', x.1 ≠ i) (hbm : ∀ x ∈ bs', x ∈ bs) (hr : ∀ x ∈ rs', x.1 ≠ i → x ∈ rs) (hi : ∀ x ∈ rs', x.1 = i → x = (i, m, V, cs)) : Bag (upd L i) lo W0 w' bs' rs' := by
  have k := h.keep hw
  have lt : ∀ x ∈ rs, L x.1 = true → ∀ q, x.2.2.1.ownBlock = some q → q < w.heap.size := fun x hx e q hq => (own_lt (h.r x hx e).own hq).2
  refine ⟨k.bel, k.sz, fun x hx e => k.b x (hbm x hx) (upd_at L (hb x hx) e), fun x hx y hy e e' => h.ne x (hbm x hx) y (hbm y hy) (upd_at L (hb x hx) e) (upd_at L (hb y hy) e'), fun x hx e => ?_, fun x hx y hy e e' hn q hq => ?_⟩
  · by_cases hxi : x.1 = i
    · rw [hi x hx hxi]
      exact ⟨own_low hc.own h.sz, fun c hcc => (hc.dat c hcc).low h.sz⟩
    · exact k.r x (hr x hx hxi) (upd_at L hxi e)
  · by_cases hxi : x.1 = i
    · have hyi : y.1 ≠ i := fun e => hn (hxi.trans e.symm)
      rw [hi x hx hxi] at hq
      have h1 := (own_lt hc.own hq).1
      intro hq'
      have := lt y (hr y hy hyi) (upd_at L hyi e') q hq'
      omega
    · have h1 := lt x (hr x hx hxi) (upd_at L hxi e) q hq
      by_cases hyi : y.1 = i
      · rw [hi y hy hyi]
        intro hq'
        have := (own_lt hc.own hq').1
        omega
      · exact h.rn x (hr x hx hxi) y (hr y hy hyi) (upd_at L hxi e) (upd_at L hyi e') hn q hq
/-- A block is written whole. -/
theorem Bag.put (h : Bag L lo W0 w bs rs) (i : Nat) {j g : Nat} {old : Array Value} {t : TypeId} (cs : Array Value) (ht : t ≠ 45) (ht2 : t ≠ 3) (hj : (j, g, old, t) ∈ bs) (hL : L j = true) (hb0 : ∀ x ∈ bs', x.1 ≠ i) (hb : ∀ x ∈ bs', x.1 ≠ j → x ∈ bs) (hi : ∀ x ∈ bs', x.1 = j → x = (j, g, cs, t)) (hr : ∀ x ∈ rs, x.1 ≠ i) : Bag (upd L i) lo W0 (w.setRow g cs) bs' rs := by
  have hg := h.b _ hj hL
  simp only at hg
  refine ⟨below_setRow h.bel hg.1 cs, by rw [setRow_size]; exact h.sz, fun x hx e => ?_, fun x hx y hy e e' hn => ?_, fun x hx e => (h.r x hx (upd_at L (hr x hx) e)).setRow hg.2 ht ht2 cs, fun x hx y hy e e' => h.rn x hx y hy (upd_at L (hr x hx) e) (upd_at L (hr y hy) e')⟩
  · have e := upd_at L (hb0 x hx) e
    by_cases hxj : x.1 = j
    · rw [hi x hx hxj]
      exact ⟨hg.1, setRow_heap _ _ _ _ _ _ hg.2⟩
    · have hxb := hb x hx hxj
      have h1 := h.b x hxb e
      exact ⟨h1.1, (setRow_ne _ _ _ _ (h.ne x hxb _ hj e hL hxj)).trans h1.2⟩
  · have e := upd_at L (hb0 x hx) e
    have e' := upd_at L (hb0 y hy) e'
    by_cases hxj : x.1 = j
    · by_cases hyj : y.1 = j
      · exact absurd (hxj.trans hyj.symm) hn
      · rw [hi x hx hxj]
        exact h.ne (j, g, old, t) hj y (hb y hy hyj) hL e' (fun e => hyj e.symm)
    · by_cases hyj : y.1 = j
      · rw [hi y hy hyj]
        exact h.ne x (hb x hx hxj) (j, g, old, t) hj e hL hxj
      · exact h.ne x (hb x hx hxj) y (hb y hy hyj) e e' hn
end
/-- A Head made of a picture's and params' numbers. -/
@[reducible] def PN.hv (m : PN) (A : Option Addr) (N C : Nat) (SA : Option Addr) (sn sc : Nat) : HV := ⟨m.X, m.Y, m.OX, m.OY, A, N, C, m.TX, m.TY, m.LV, m.BW, m.BH, m.PR, m.ST, m.OD, m.LY, m.RC, m.SO, m.EP, SA, sn, sc⟩
theorem head_hv (f : FN) (A0 : Option Addr) (len0 cap0 : Nat) (z0 : List Int) (SA : Option Addr) (sn sc : Nat) (w : World) (w0 : IsRow .i64 w A0 len0 cap0 z0) (s0 : -9223372036854775808 ≤ f.sb ∧ f.sb ≤ 9223372036854775807) :
    Calls Try.prog 12 #[.agg (f.arr A0 len0 cap0), .slice SA sn sc] w fun e w' => ∃ (A2 : Option Addr) (C2 : Nat) (cs : List Cp), e = .returned (.agg ((mkPN f 8).hv A2 (mkN f) C2 SA sn sc).arr) ∧ cs.length = mkN f ∧ CRow w.heap.size w' (.slice A2 (mkN f) C2) cs ∧
      (∀ i c, cs[i]? = some c → KeyIs (mkPN f 8).X (mkPN f 8).Y (mkPN f 8).OX (mkPN f 8).OY f.sb (mkDP f) f.sg i c) ∧ Below w.heap.size w w' ∧ ((1 ≤ (mkPN f 8).TX ∧ (mkPN f 8).TX ≤ 832) ∧ (1 ≤ (mkPN f 8).TY ∧ (mkPN f 8).TY ≤ 832) ∧ cntT (mkPN f 8).X (mkPN f 8).Y (mkPN f 8).TX (mkPN f 8).TY ≤ 6) :=
  head_any f A0 len0 cap0 z0 SA sn sc w w0 s0
end Go.Proofs.Ytlbfjaifemnkpaa
