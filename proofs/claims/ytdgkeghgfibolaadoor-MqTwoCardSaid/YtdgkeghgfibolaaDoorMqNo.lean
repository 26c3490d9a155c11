/- MqNone, walked. -/
import Derived.Test.YtdgkeghgfibolaaDoorMqBe
import Derived.Test.YtdgkeghgfibolaaDoorMqEq
import Derived.Test.YtdgkeghgfibolaaDoorAnyInv
import Derived.Test.YtdgkeghgfibolaaDoorStr
set_option linter.unusedVariables false
set_option linter.unusedSimpArgs false
namespace Go.Proofs.YtdgkeghgfibolaaDoor
open Go.RowKit

section
variable {F : Fence} {n : Nat} {P : Program} {ops : Array Oper} {Q : Exit → Act → World → Prop}
theorem opIn_run_g {i j : Nat} {b : Bool} {o : Oper} {a : Act} {w w' : World} {K : Act → World → Prop} {v : Value} (hi : ops[i]? = some o) (hg : o.guard = some (j, b)) (hy : yielded ops a.tmps j = some b) (hd : ∀ c, o.op ≠ .defer c) (hF : ∀ f, F.fn f)
    (hrun : (execOp a.eval o).run P w = .ok (.value v) w') (hK : K (a.put o.dst v) w') : wpOpIn F n P ops Q i K a w := by
  unfold wpOpIn
  simp only [hi]
  rw [if_pos (by simp [Region.wanted, hg, hy])]
  refine ⟨fun f _ => hF f, ?_⟩
  rw [Oper.semAt_eq _ _ _ hd, hrun]
  exact hK
theorem opIn_call_g {i j : Nat} {b : Bool} {o : Oper} {a : Act} {w w' : World} {K : Act → World → Prop} {f : FuncId} {args : Array Value} (hi : ops[i]? = some o) (hg : o.guard = some (j, b)) (hy : yielded ops a.tmps j = some b) (hd : ∀ c, o.op ≠ .defer c) (hF : ∀ f, F.fn f) (hdp : F.depth = none)
    (hrun : (execOp a.eval o).run P w = .ok (.enter f args) w') (hc : CallsIn F (n - 1) P f args w' fun e w'' => ∃ v, e = .returned v ∧ K (a.put o.dst v) w'') : wpOpIn F n P ops Q i K a w := by
  unfold wpOpIn
  simp only [hi]
  rw [if_pos (by simp [Region.wanted, hg, hy])]
  refine ⟨fun f _ => hF f, ?_⟩
  rw [Oper.semAt_eq _ _ _ hd, hrun]
  refine ⟨(fun h => by rw [hdp] at h; cases h), hc.mono ?_⟩
  rintro e w'' ⟨v, rfl, hk⟩
  exact hk
end
/-- The string of such bytes. -/
def strN (l : List Nat) : ByteArray := strOf (l.map fun n : Nat => (n : Int))
/-- V is a row with these bytes. -/
def Row8 (lo : Nat) (w : World) (V : Value) (l : List Nat) : Prop := w.ownsRow lo 5 1 V l.length (l.map bv)
theorem Row8.conv {lo : Nat} {w : World} {V : Value} {l : List Nat} (h : Row8 lo w V l) : (convert 44 9 V).run Tryd.prog w = .ok (.string (strN l)) w := by
  obtain ⟨A, c, hv, _⟩ := own_any h
  unfold Row8 at h
  rw [hv] at h ⊢
  refine conv_str (B := w.heap.size) (by simp) ?_
  have := Lst.own h
  rw [bv_int] at this
  exact this
theorem Row8.only {lo : Nat} {w w' : World} {V : Value} {l : List Nat} {P : Nat → Prop} (h : Row8 lo w V l) (o : Only P w w') (hP : ∀ k, lo ≤ k → k < w.heap.size → ¬ P k) : Row8 lo w' V l :=
  ownsRow_keep h o.size fun k hk => o.block k (hP k (own_lt h hk).1 (own_lt h hk).2)
/-- Two encoders that have had the same sign, and their contexts; then the first one's bytes; then both. -/
def St0 (W : World) (q p1 p2 : Nat) (e : E) (cx : List Nat) (w : World) : Prop := ∃ A B, EW A w p1 e ∧ EW B w p2 e ∧ (∀ i, A i → B i → False) ∧ (∀ i, A i → q + 1 < i ∧ i < w.heap.size) ∧ (∀ i, B i → q + 1 < i ∧ i < w.heap.size) ∧ (Cb w q cx ∧ Cb w (q + 1) cx) ∧ Fine e ∧ e.pre.length ≤ 16 ∧ cx.length = 38 ∧ Below W.heap.size W w ∧ W.heap.size ≤ q
structure St1 (W : World) (q p2 : Nat) (e : E) (cx : List Nat) (V1 : Value) (w : World) : Prop where
  ew : ∃ B lo, EW B w p2 e ∧ (∀ i, B i → q + 1 < i ∧ i < lo) ∧ Row8 lo w V1 (mCode e) ∧ lo ≤ w.heap.size
  r1 : ∃ lo, Row8 lo w V1 (mCode e)
  cb : Cb w q cx ∧ Cb w (q + 1) cx
  fine : Fine e
  ln : e.pre.length ≤ 16
  cl : cx.length = 38
  bel : Below W.heap.size W w
  hq : W.heap.size ≤ q
structure St2 (W : World) (q : Nat) (e : E) (cx : List Nat) (V1 V2 : Value) (w : World) : Prop where
  r1 : ∃ lo, Row8 lo w V1 (mCode e)
  r2 : ∃ lo, Row8 lo w V2 (mCode e)
  cb : Cb w q cx ∧ Cb w (q + 1) cx
  cl : cx.length = 38
  bel : Below W.heap.size W w
theorem ex_conv {w : World} {V : Value} {l : List Nat} (h : ∃ lo, Row8 lo w V l) : (convert 44 9 V).run Tryd.prog w = .ok (.string (strN l)) w := by
  obtain ⟨lo, h⟩ := h; exact h.conv
theorem cb_load {w : World} {q : Nat} {cx : List Nat} (h : Cb w q cx) : (loadVar 28 ⟨q, 0, none⟩).run Tryd.prog w = .ok (.agg (cxA cx)) w :=
  run_loadVar_row (P := Tryd.prog) w q _ 28 (cxA cx) (0, 0) _ h.2 Tryd.underlying28 rfl (by
    have e : (cxA cx).size = 38 := by simp [cxA, h.1]
    rw [e]
    show (Tryd.prog.info? 28).map (·.size) = some 38
    kernel_rfl)
theorem load_ctx {a : Act} {o : Oper} {x : Operand} {g : Nat} {cs : Array Value} {w : World} (ho : o.op = .load 28 x) (hx : a.eval x = .pointer (some ⟨g, 0, none⟩)) (h : (loadVar 28 ⟨g, 0, none⟩).run Tryd.prog w = .ok (.agg cs) w) : (execOp a.eval o).run Tryd.prog w = .ok (.value (.agg cs)) w := by
  unfold execOp
  simp only [ho, hx, Instr.loadAt, Instr.sureAddr, Sem.run_bind, Sem.run_pure, Result.andThen_ok, h]
theorem St0.flush {W : World} {q p1 p2 : Nat} {e : E} {cx : List Nat} {w : World} (h : St0 W q p1 p2 e cx w) : Calls Tryd.prog 24 #[.pointer (some ⟨p1, 0, none⟩)] w fun x w' => ∃ V, x = .returned V ∧ St1 W q p2 e cx V w' := by
  obtain ⟨A, B, h1, h2, hd, hA, hB, hc, hf, hl, hcl, hb, hq⟩ := h
  refine (flush_any (P := fun i => A i ∨ w.heap.size ≤ i) (h1.imp fun i _ h => Or.inl h) hf (by omega) (fun i hi => Or.inr hi)).mono ?_
  rintro x w' ⟨V, rfl, ho, o⟩
  have hqw : q + 1 < w.heap.size := hc.2.lt
  refine ⟨V, rfl, ⟨⟨B, w.heap.size, h2.only o (fun i hi hb ha => ?_), fun i hi => hB i hi, ho, o.size⟩, ⟨_, ho⟩, ⟨hc.1.only o (fun ha => ?_), hc.2.only o (fun ha => ?_)⟩, hf, hl, hcl, hb.trans (Only.below o fun i hi => ?_), hq⟩⟩
  · rcases ha with ha | ha
    · exact hd i ha hb
    · omega
  · rcases ha with ha | ha
    · have := hA _ ha; omega
    · omega
  · rcases ha with ha | ha
    · have := hA _ ha; omega
    · omega
  · rcases hi with ha | ha
    · have := hA _ ha; omega
    · omega
theorem St1.flush {W : World} {q p2 : Nat} {e : E} {cx : List Nat} {V1 : Value} {w : World} (h : St1 W q p2 e cx V1 w) : Calls Tryd.prog 24 #[.pointer (some ⟨p2, 0, none⟩)] w fun x w' => ∃ V, x = .returned V ∧ St2 W q e cx V1 V w' := by
  obtain ⟨⟨B, lo, h2, hB, hr, hlo⟩, _, hc, hf, hl, hcl, hb, hq⟩ := h
  refine (flush_any (P := fun i => B i ∨ w.heap.size ≤ i) (h2.imp fun i _ h => Or.inl h) hf (by omega) (fun i hi => Or.inr hi)).mono ?_
  rintro x w' ⟨V, rfl, ho, o⟩
  have hqw : q + 1 < w.heap.size := hc.2.lt
  refine ⟨V, rfl, ⟨⟨lo, hr.only o (fun i h1 h2 ha => ?_)⟩, ⟨_, ho⟩, ⟨hc.1.only o (fun ha => ?_), hc.2.only o (fun ha => ?_)⟩, hcl, hb.trans (Only.below o fun i hi => ?_)⟩⟩
  · rcases ha with ha | ha
    · have := hB _ ha; omega
    · omega
  · rcases ha with ha | ha
    · have := hB _ ha; omega
    · omega
  · rcases ha with ha | ha
    · have := hB _ ha; omega
    · omega
  · rcases hi with ha | ha
    · have := hB _ ha; omega
    · omega
set_option maxRecDepth 100000 in
set_option maxHeartbeats 4000000 in
theorem walk_mqNone (k : Int) (bit : Int) (a2 : Option Addr) (len2 cap2 : Nat) (z2 : List Int) (W : World) (hT : Tab W) (w0 : (Lit.int .i64 k).wf = true) (w1 : (Lit.int .i64 bit).wf = true) (w2 : IsRow .u8 W a2 len2 cap2 z2) : Calls Tryd.prog 11 #[.int .i64 k, .int .i64 bit, .slice a2 len2 cap2] W fun e w' => e = .returned (.bool true) ∧ Below W.heap.size W w' := by
  have KN := Lib.hid (known_any W)
  have hkb := bd_i64 w0
  have FR := Lib.hid (fun u : World => fresh_any u)
  have NW := Lib.hid (fun u : World => new_any u)
  have HT := Lib.hid hT
  by_cases h50 : 50 < len2
  · have e1 : (50 : Int) < (len2 : Int) := by omega
    go_enter Tryd.func11, Tryd.ntmps11
    go_wp2_with fail
    refine KN.out.mono ?_
    rintro x w1 ⟨rfl, b1⟩
    have B1 := Lib.hid b1
    clear b1 KN
    go_wp2
    go_ret
    exact ⟨rfl, B1.out⟩
  have e1 : ¬ (50 : Int) < (len2 : Int) := by omega
  have hr0 := row_len w2
  obtain ⟨hbv, hb255⟩ := nats_of (zs := z2.take len2) (fun n hn => row_wf w2 n (List.mem_of_mem_take hn))
  have L0' := lst_of_row w2
  rw [← hbv] at L0'
  have hlen0 : ((z2.take len2).map Int.toNat).length = len2 := by rw [List.length_map]; exact hr0.1
  obtain ⟨bs0, hbs0⟩ : ∃ bs : List Nat, (z2.take len2).map Int.toNat = bs := ⟨_, rfl⟩
  rw [hbs0] at L0' hlen0 hb255
  have L0 := Lib.hid L0'
  have HL0 := Lib.hid hlen0
  have HB255 := Lib.hid hb255
  have HA0 := Lib.hid hr0.2.2.2
  have hpos := hT.pos
  obtain ⟨b, hb1, hb2, hb3⟩ := bit_of bit
  clear hb3
  have hband := and_bit bit
  rw [hb2] at hband
  have HB2 := Lib.hid hb2
  clear hbv L0' hlen0 hb255 hbs0 hr0 w2 w1 w0 hT hb2 h50
  go_enter Tryd.func11, Tryd.ntmps11
  go_wp2_with fail
  refine KN.out.mono ?_
  rintro x w1 ⟨rfl, b1⟩
  have B1 := Lib.hid b1
  clear b1 KN
  go_upto_region 5 with fail
  go_cut [23] from 18 to 23 (fun t wx => w1 = wx ∧ t = .bool (decide (0 ≤ k) && decide (k < 19)))
  case first =>
    by_cases h0 : 0 ≤ k
    · by_cases h1 : k < 19
      · go_wp2
        go_meet
        exact ⟨rfl, by simp [h0, h1]⟩
      · go_wp2
        go_meet
        exact ⟨rfl, by simp [h0, h1]⟩
    · go_wp2
      go_meet
      exact ⟨rfl, by simp; omega⟩
  case rest =>
    obtain ⟨rfl, rfl⟩ := hcut
    obtain ⟨tb, htb⟩ : ∃ tb, (decide (0 ≤ k) && decide (k < 19)) = tb := ⟨_, rfl⟩
    rw [htb]
    have HTB := Lib.hid htb
    clear htb
    go_upto_if 23 with fail
    go_cut [0] from 24 to 25 (fun v wx => w1 = wx ∧ ∃ k' : Int, v = .int .i64 k' ∧ (k' < 0 ∨ 19 ≤ k'))
    case first =>
      cases tb with
      | true =>
        have := HTB.out
        simp at this
        go_wp2
        go_meet
        exact ⟨rfl, k + 19, rfl, by omega⟩
      | false =>
        have := HTB.out
        simp at this
        have HH := Lib.hid this
        clear this
        go_wp2
        go_meet
        exact ⟨rfl, k, rfl, by by_cases h : 0 ≤ k; exact Or.inr (HH.out h); exact Or.inl (by omega)⟩
    case rest =>
      obtain ⟨rfl, k', rfl, hk'⟩ := hcut
      have HK := Lib.hid hk'
      clear hk'
      go_wp2_with fail
      refine (FR.out _).mono ?_
      rintro x w4 ⟨rfl, b4⟩
      have B4 := Lib.hid (B1.out.trans (b4.mono B1.out.size))
      clear b4 B1
      go_wp2_with fail
      refine (FR.out _).mono ?_
      rintro x w5 ⟨rfl, b5⟩
      have B5 := Lib.hid (B4.out.trans (b5.mono B4.out.size))
      clear b5 B4
      go_wp2_with (refine wpList_fresh2 (o := ⟨none, _, _, _, _, _⟩) (o2 := ⟨none, _, _, _, _, _⟩) rfl _ _ rfl rfl _ _ rfl rfl rfl rfl rfl rfl ?_)
      intro w6 hc61 hc62 b6
      have B6 := Lib.hid (B5.out.trans (b6.mono B5.out.size))
      have HC6 := Lib.hid (And.intro hc61 hc62)
      have hq5 : W.heap.size ≤ w5.heap.size := B5.out.size
      have hs6 : w5.heap.size + 1 < w6.heap.size := hc62.lt
      clear b6 hc61 hc62 B5
      go_wp2_with fail
      refine (NW.out _).mono ?_
      rintro x w7 ⟨p1, rfl, he1, b7⟩
      have B7 := Lib.hid (B6.out.trans (b7.mono B6.out.size))
      have HC7 := Lib.hid (And.intro (HC6.out.1.below b7) (HC6.out.2.below b7))
      have HE1 := Lib.hid he1
      have hs7 := b7.size
      clear b7 he1 B6 HC6
      go_wp2_with fail
      refine (NW.out _).mono ?_
      rintro x w8 ⟨p2, rfl, he2, b8⟩
      have B8 := Lib.hid (B7.out.trans (b8.mono B7.out.size))
      have HC8 := Lib.hid (And.intro (HC7.out.1.below b8) (HC7.out.2.below b8))
      have HE8 : Hid (EW (fun i => w6.heap.size ≤ i ∧ i < w7.heap.size) w8 p1 mNew ∧ EW (fun i => w7.heap.size ≤ i ∧ i < w8.heap.size) w8 p2 mNew) := Lib.hid ⟨HE1.out.below b8, he2⟩
      have hs8 := b8.size
      clear b8 he2 B7 HC7 HE1
      have EN := Lib.hid (encode_none (w := w8) (p := p1) (q := w5.heap.size) (b := bit) HK.out)
      go_wp2_with fail
      refine EN.out.mono ?_
      rintro x wx ⟨rfl, rfl⟩
      clear EN
      -- the first encoder's sign
      have E1 := Lib.hid (encode_any (P := fun i => (w6.heap.size ≤ i ∧ i < w7.heap.size) ∨ w8.heap.size ≤ i) (bit := bit) (b := b) (HE8.out.1.imp fun i _ h => Or.inl h) HC8.out.1 (by omega) (HT.out.below hpos B8.out) (by omega) (by omega) f19_ok mNew_fine (k := 5) (by omega) HB2.out (by show 0 ≤ 70000; omega) (fun i hi => Or.inr hi))
      go_wp2_with fail
      refine E1.out.mono ?_
      rintro x w9 ⟨rfl, he9, hc9, o9⟩
      have hi9 : ∀ i, EC (fun i => (w6.heap.size ≤ i ∧ i < w7.heap.size) ∨ w8.heap.size ≤ i) w5.heap.size i → W.heap.size ≤ i := fun i hi => by
        rcases hi with (hi | hi) | hi <;> omega
      have B9 := Lib.hid (B8.out.trans (Only.below o9 fun i hi => hi9 i hi))
      have hc92 := HC8.out.2.only o9 (fun h => by rcases h with (h | h) | h <;> omega)
      have he92 := HE8.out.2.only o9 (fun i _ h1 h => by rcases h with (h | h) | h <;> omega)
      have HE9 := Lib.hid (And.intro he9 he92)
      have HC9 := Lib.hid (And.intro hc9 hc92)
      have hs9 := o9.size
      clear he9 hc9 o9 hi9 hc92 he92 E1 HE8 HC8 B8
      have E2 := Lib.hid (encode_any (P := fun i => (w7.heap.size ≤ i ∧ i < w8.heap.size) ∨ w9.heap.size ≤ i) (bit := (b : Int)) (b := b) (HE9.out.2.imp fun i _ h => Or.inl h) HC9.out.2 (by omega) (HT.out.below hpos B9.out) (by omega) (by omega) f19_ok mNew_fine (k := 5) (by omega) (by omega) (by show 0 ≤ 70000; omega) (fun i hi => Or.inr hi))
      go_wp2_with fail
      refine E2.out.mono ?_
      rintro x wA ⟨rfl, heA, hcA, oA⟩
      have hiA : ∀ i, EC (fun i => (w7.heap.size ≤ i ∧ i < w8.heap.size) ∨ w9.heap.size ≤ i) (w5.heap.size + 1) i → W.heap.size ≤ i := fun i hi => by
        rcases hi with (hi | hi) | hi <;> omega
      have BA := Lib.hid (B9.out.trans (Only.below oA fun i hi => hiA i hi))
      have hcA1 := HC9.out.1.only oA (fun h => by rcases h with (h | h) | h <;> omega)
      have heA1 := (HE9.out.1.imp (Q := fun i => (w6.heap.size ≤ i ∧ i < w7.heap.size) ∨ (w8.heap.size ≤ i ∧ i < w9.heap.size)) fun i hi h => by
        rcases h with h | h
        · exact Or.inl h
        · exact Or.inr ⟨h, hi⟩).only oA (fun i _ h1 h => by rcases h with (h | h) | h <;> rcases h1 with h1 | h1 <;> omega)
      have heA2 := heA.imp (Q := fun i => (w7.heap.size ≤ i ∧ i < w8.heap.size) ∨ (w9.heap.size ≤ i ∧ i < wA.heap.size)) fun i hi h => by
        rcases h with h | h
        · exact Or.inl h
        · exact Or.inr ⟨h, hi⟩
      obtain ⟨cx, hcx⟩ : ∃ cx, sC mNew (cxF 19) 5 b = cx := ⟨_, rfl⟩
      obtain ⟨ee, hee⟩ : ∃ ee, sE mNew (cxF 19) 5 b = ee := ⟨_, rfl⟩
      have hok : COk cx := by rw [← hcx]; exact sC_ok f19_ok (by omega) b
      have hfi : Fine ee := by rw [← hee]; exact sE_fine mNew_fine f19_ok (by omega) b
      have hln : ee.pre.length ≤ 16 := by rw [← hee]; exact sE_len mNew (cxF 19) 5 b
      rw [hcx] at hcA1 hcA
      rw [hee] at heA1 heA2
      have HEA := Lib.hid (And.intro heA1 heA2)
      have HCA := Lib.hid (And.intro hcA1 hcA)
      have HFI := Lib.hid (And.intro hfi (And.intro hln hok))
      have hsA := oA.size
      clear heA hcA oA hiA hcA1 heA1 heA2 E2 HE9 HC9 B9 hcx hee hok hfi hln
      have D1 := Lib.hid (dnew_any (w := wA) (c := cap2) HB255.out (by rw [HL0.out]; exact HA0.out) (L0.out.below BA.out) (by rw [HL0.out]; omega))
      rw [HL0.out] at D1
      go_wp2_with fail
      refine D1.out.mono ?_
      rintro x wB ⟨p3, rfl, _, bB⟩
      have BB := Lib.hid (BA.out.trans (bB.mono BA.out.size))
      have HEB := Lib.hid (And.intro (HEA.out.1.below bB) (HEA.out.2.below bB))
      have HCB := Lib.hid (And.intro (HCA.out.1.below bB) (HCA.out.2.below bB))
      have hsB := bB.size
      clear bB D1 BA HEA HCA
      have DN := Lib.hid (decode_none (w := wB) (p := p3) (q := w5.heap.size) HK.out)
      go_wp2_with fail
      refine DN.out.mono ?_
      rintro x wx ⟨rfl, rfl⟩
      clear DN
      -- FACTS
      have HS0 : Hid (St0 W w5.heap.size p1 p2 ee cx wB.drew) := Lib.hid ⟨fun i => (w6.heap.size ≤ i ∧ i < w7.heap.size) ∨ (w8.heap.size ≤ i ∧ i < w9.heap.size), fun i => (w7.heap.size ≤ i ∧ i < w8.heap.size) ∨ (w9.heap.size ≤ i ∧ i < wA.heap.size), HEB.out.1, HEB.out.2, fun i h1 h2 => by rcases h1 with h1 | h1 <;> rcases h2 with h2 | h2 <;> omega, fun i h => by show _ ∧ i < wB.heap.size; rcases h with h | h <;> omega, fun i h => by show _ ∧ i < wB.heap.size; rcases h with h | h <;> omega, HCB.out, HFI.out.1, HFI.out.2.1, HFI.out.2.2.len, below_drewN BB.out 1, hq5⟩
      have F1 : Hid (∀ u, St0 W w5.heap.size p1 p2 ee cx u → Calls Tryd.prog 24 #[.pointer (some ⟨p1, 0, none⟩)] u fun x w' => ∃ V, x = .returned V ∧ St1 W w5.heap.size p2 ee cx V w') := Lib.hid fun u h => h.flush
      have F2 : Hid (∀ V1 u, St1 W w5.heap.size p2 ee cx V1 u → Calls Tryd.prog 24 #[.pointer (some ⟨p2, 0, none⟩)] u fun x w' => ∃ V, x = .returned V ∧ St2 W w5.heap.size ee cx V1 V w') := Lib.hid fun V1 u h => h.flush
      clear HEB HCB BB
      go_wp2
      -- REGION
      refine (wpIn_wide (n := 9)).1 (regionIn_inv (Inv := fun L a' w' => ∃ (V1 : Value) (V2 : Value), a' = { tmps := #[.int .i64 k', .int .i64 bit, .slice a2 len2 cap2, undef, undef, undef, bif L 16 then .bool true else .bool false, .pointer (some ⟨w5.heap.size, 0, none⟩), .pointer (some ⟨w5.heap.size + 1, 0, none⟩), .pointer (some ⟨p1, 0, none⟩), .pointer (some ⟨p2, 0, none⟩), .pointer (some ⟨p3, 0, none⟩), .int .i64 0, .bool true, .bool false, .slice a2 len2 cap2, .int .i64 (len2 : Int), .bool (decide (50 < (len2 : Int))), u18, u19, u20, u21, u22, .bool tb, u24, u25, .agg (cxA (cxF 19)), .agg (cxA (cxF 19)), .pointer (some ⟨p1, 0, none⟩), .pointer (some ⟨p2, 0, none⟩), .pointer (some ⟨p1, 0, none⟩), .int .i64 k', .int .i64 bit, .tuple #[], .pointer (some ⟨p1, 0, none⟩), .int .i64 bit, .tuple #[], .pointer (some ⟨p2, 0, none⟩), .int .i64 bit, .int .i64 (b : Int), .tuple #[], .slice a2 len2 cap2, .pointer (some ⟨p3, 0, none⟩), .pointer (some ⟨p3, 0, none⟩), .int .i64 k', .int .i64 0, bif L 0 then .int .i64 0 else undef, bif L 1 then .bool true else undef, bif L 2 then .bool true else undef, bif L 3 then .pointer (some ⟨p1, 0, none⟩) else undef, bif L 4 then V1 else undef, bif L 5 then .string (strN (mCode ee)) else undef, bif L 6 then .pointer (some ⟨p2, 0, none⟩) else undef, bif L 7 then V2 else undef, bif L 8 then .string (strN (mCode ee)) else undef, bif L 9 then .bool true else undef, bif L 10 then .bool true else undef, bif L 11 then .bool true else undef, bif L 12 then .agg (cxA cx) else undef, bif L 13 then .agg (cxA cx) else undef, bif L 14 then .bool true else undef, bif L 15 then .bool true else undef], defers := [] } ∧ (True) ∧ (bif L 7 then (St2 W w5.heap.size ee cx V1 V2 w') else (bif L 4 then (St1 W w5.heap.size p2 ee cx V1 w') else St0 W w5.heap.size p1 p2 ee cx w'))) (by kernel_rfl) (by kernel_rfl) ?start ?step ?fin)
      case start => exact ⟨undef, undef, rfl, trivial, HS0.out⟩
      case step =>
        intro i hi L a' w' hI hs hu
        obtain ⟨V1, V2, rfl, hcm, hph⟩ := hI
        have hL := hu.1
        have hi : i < 17 := hi
        obtain rfl | rfl | rfl | rfl | rfl | rfl | rfl | rfl | rfl | rfl | rfl | rfl | rfl | rfl | rfl | rfl | rfl := (by omega : i = 0 ∨ i = 1 ∨ i = 2 ∨ i = 3 ∨ i = 4 ∨ i = 5 ∨ i = 6 ∨ i = 7 ∨ i = 8 ∨ i = 9 ∨ i = 10 ∨ i = 11 ∨ i = 12 ∨ i = 13 ∨ i = 14 ∨ i = 15 ∨ i = 16)
        · skip
          have n4 : L 4 = false := not_yet hL fun h => shut_at hs 1 0 (by kernel_rfl) (shut_at hs 2 1 (by kernel_rfl) (shut_at hs 4 2 (by kernel_rfl) (h)))
          have n7 : L 7 = false := not_yet hL fun h => shut_at hs 1 0 (by kernel_rfl) (shut_at hs 2 1 (by kernel_rfl) (shut_at hs 7 2 (by kernel_rfl) (h)))
          refine opIn_run (v := .int .i64 0) (w' := w') rfl rfl (fun c h => by cases h) (fun _ => trivial) ?_ ⟨V1, V2, by simp [Act.put, upd, n4, n7, hL], hcm, by simpa [upd] using hph⟩
          simp only [n4, n7, hL, cond_true, cond_false]
          go_simp
        · skip
          have y0 : L 0 = true := up_at hu 0 (by kernel_rfl)
          have n4 : L 4 = false := not_yet hL fun h => shut_at hs 2 1 (by kernel_rfl) (shut_at hs 4 2 (by kernel_rfl) (h))
          have n7 : L 7 = false := not_yet hL fun h => shut_at hs 2 1 (by kernel_rfl) (shut_at hs 7 2 (by kernel_rfl) (h))
          refine opIn_run (v := .bool true) (w' := w') rfl rfl (fun c h => by cases h) (fun _ => trivial) ?_ ⟨V1, V2, by simp [Act.put, upd, y0, n4, n7, hL], hcm, by simpa [upd] using hph⟩
          simp only [y0, n4, n7, hL, cond_true, cond_false]
          go_simp
        · skip
          have y0 : L 0 = true := shut_at hs 1 0 (by kernel_rfl) (up_at hu 1 (by kernel_rfl))
          have y1 : L 1 = true := up_at hu 1 (by kernel_rfl)
          have n4 : L 4 = false := not_yet hL fun h => shut_at hs 4 2 (by kernel_rfl) (h)
          have n7 : L 7 = false := not_yet hL fun h => shut_at hs 7 2 (by kernel_rfl) (h)
          refine opIn_run (v := .bool true) (w' := w') rfl rfl (fun c h => by cases h) (fun _ => trivial) ?_ ⟨V1, V2, by simp [Act.put, upd, y0, y1, n4, n7, hL], hcm, by simpa [upd] using hph⟩
          simp only [y0, y1, n4, n7, hL, cond_true, cond_false]
          go_simp
        · skip
          have y0 : L 0 = true := shut_at hs 1 0 (by kernel_rfl) (shut_at hs 2 1 (by kernel_rfl) (up_at hu 2 (by kernel_rfl)))
          have y1 : L 1 = true := shut_at hs 2 1 (by kernel_rfl) (up_at hu 2 (by kernel_rfl))
          have y2 : L 2 = true := up_at hu 2 (by kernel_rfl)
          have n4 : L 4 = false := not_yet hL fun h => shut_at hs 4 3 (by kernel_rfl) (h)
          have n7 : L 7 = false := not_yet hL fun h => shut_at hs 4 3 (by kernel_rfl) (shut_at hs 7 4 (by kernel_rfl) (h))
          refine opIn_run_g (v := .pointer (some ⟨p1, 0, none⟩)) (w' := w') (j := 2) (b := true) rfl rfl (by simp [yielded, y0, y1, y2, n4, n7, hL]) (fun c h => by cases h) (fun _ => trivial) ?_ ⟨V1, V2, by simp [Act.put, upd, y0, y1, y2, n4, n7, hL], hcm, by simpa [upd] using hph⟩
          simp only [y0, y1, y2, n4, n7, hL, cond_true, cond_false]
          go_simp
        · skip
          have y0 : L 0 = true := shut_at hs 1 0 (by kernel_rfl) (shut_at hs 2 1 (by kernel_rfl) (up_at hu 2 (by kernel_rfl)))
          have y1 : L 1 = true := shut_at hs 2 1 (by kernel_rfl) (up_at hu 2 (by kernel_rfl))
          have y2 : L 2 = true := up_at hu 2 (by kernel_rfl)
          have y3 : L 3 = true := up_at hu 3 (by kernel_rfl)
          have n7 : L 7 = false := not_yet hL fun h => shut_at hs 7 4 (by kernel_rfl) (h)
          simp only [y0, y1, y2, y3, n7, hL, cond_false, cond_true] at hph
          refine opIn_call_g (f := 24) (args := #[.pointer (some ⟨p1, 0, none⟩)]) (w' := w') (j := 2) (b := true) rfl rfl (by simp [yielded, y0, y1, y2, y3, n7, hL]) (fun c h => by cases h) (fun _ => trivial) rfl ?_ ((callsIn_wide.2 (F1.out w' hph)).mono ?_)
          · simp only [y0, y1, y2, y3, n7, hL, cond_true, cond_false]
            go_simp
          · rintro e w2 ⟨Vn, rfl, hx⟩
            exact ⟨_, rfl, Vn, V2, by simp [Act.put, upd, y0, y1, y2, y3, n7, hL], trivial, by simp only [upd, y0, y1, y2, y3, n7, hL]; exact hx⟩
        · skip
          have y0 : L 0 = true := shut_at hs 1 0 (by kernel_rfl) (shut_at hs 2 1 (by kernel_rfl) (up_at hu 2 (by kernel_rfl)))
          have y1 : L 1 = true := shut_at hs 2 1 (by kernel_rfl) (up_at hu 2 (by kernel_rfl))
          have y2 : L 2 = true := up_at hu 2 (by kernel_rfl)
          have y3 : L 3 = true := shut_at hs 4 3 (by kernel_rfl) (up_at hu 4 (by kernel_rfl))
          have y4 : L 4 = true := up_at hu 4 (by kernel_rfl)
          have hcv : (convert 44 9 V1).run Tryd.prog w' = .ok (.string (strN (mCode ee))) w' := by
            cases h7 : L 7 with
            | true => simp only [h7, y4, cond_true, cond_false] at hph; exact ex_conv hph.r1
            | false => simp only [h7, y4, cond_true, cond_false] at hph; exact ex_conv hph.r1
          refine opIn_run_g (v := .string (strN (mCode ee))) (w' := w') (j := 2) (b := true) rfl rfl (by simp [yielded, y0, y1, y2, y3, y4, hL]) (fun c h => by cases h) (fun _ => trivial) ?_ ⟨V1, V2, by simp [Act.put, upd, y0, y1, y2, y3, y4, hL], hcm, by simpa [upd] using hph⟩
          simp only [y0, y1, y2, y3, y4, hL, cond_true, cond_false]
          go_simp
        · skip
          have y0 : L 0 = true := shut_at hs 1 0 (by kernel_rfl) (shut_at hs 2 1 (by kernel_rfl) (up_at hu 2 (by kernel_rfl)))
          have y1 : L 1 = true := shut_at hs 2 1 (by kernel_rfl) (up_at hu 2 (by kernel_rfl))
          have y2 : L 2 = true := up_at hu 2 (by kernel_rfl)
          have n7 : L 7 = false := not_yet hL fun h => shut_at hs 7 6 (by kernel_rfl) (h)
          refine opIn_run_g (v := .pointer (some ⟨p2, 0, none⟩)) (w' := w') (j := 2) (b := true) rfl rfl (by simp [yielded, y0, y1, y2, n7, hL]) (fun c h => by cases h) (fun _ => trivial) ?_ ⟨V1, V2, by simp [Act.put, upd, y0, y1, y2, n7, hL], hcm, by simpa [upd] using hph⟩
          simp only [y0, y1, y2, n7, hL, cond_true, cond_false]
          go_simp
        · skip
          have y0 : L 0 = true := shut_at hs 1 0 (by kernel_rfl) (shut_at hs 2 1 (by kernel_rfl) (up_at hu 2 (by kernel_rfl)))
          have y1 : L 1 = true := shut_at hs 2 1 (by kernel_rfl) (up_at hu 2 (by kernel_rfl))
          have y2 : L 2 = true := up_at hu 2 (by kernel_rfl)
          have y3 : L 3 = true := shut_at hs 4 3 (by kernel_rfl) (up_at hu 4 (by kernel_rfl))
          have y4 : L 4 = true := up_at hu 4 (by kernel_rfl)
          have y6 : L 6 = true := up_at hu 6 (by kernel_rfl)
          simp only [y0, y1, y2, y3, y4, y6, hL, cond_false, cond_true] at hph
          refine opIn_call_g (f := 24) (args := #[.pointer (some ⟨p2, 0, none⟩)]) (w' := w') (j := 2) (b := true) rfl rfl (by simp [yielded, y0, y1, y2, y3, y4, y6, hL]) (fun c h => by cases h) (fun _ => trivial) rfl ?_ ((callsIn_wide.2 (F2.out V1 w' hph)).mono ?_)
          · simp only [y0, y1, y2, y3, y4, y6, hL, cond_true, cond_false]
            go_simp
          · rintro e w2 ⟨Vn, rfl, hx⟩
            exact ⟨_, rfl, V1, Vn, by simp [Act.put, upd, y0, y1, y2, y3, y4, y6, hL], trivial, by simp only [upd, y0, y1, y2, y3, y4, y6, hL]; exact hx⟩
        · skip
          have y0 : L 0 = true := shut_at hs 1 0 (by kernel_rfl) (shut_at hs 2 1 (by kernel_rfl) (up_at hu 2 (by kernel_rfl)))
          have y1 : L 1 = true := shut_at hs 2 1 (by kernel_rfl) (up_at hu 2 (by kernel_rfl))
          have y2 : L 2 = true := up_at hu 2 (by kernel_rfl)
          have y3 : L 3 = true := shut_at hs 4 3 (by kernel_rfl) (shut_at hs 7 4 (by kernel_rfl) (up_at hu 7 (by kernel_rfl)))
          have y4 : L 4 = true := shut_at hs 7 4 (by kernel_rfl) (up_at hu 7 (by kernel_rfl))
          have y6 : L 6 = true := shut_at hs 7 6 (by kernel_rfl) (up_at hu 7 (by kernel_rfl))
          have y7 : L 7 = true := up_at hu 7 (by kernel_rfl)
          have hcv : (convert 44 9 V2).run Tryd.prog w' = .ok (.string (strN (mCode ee))) w' := by
            simp only [y7, cond_true] at hph; exact ex_conv hph.r2
          refine opIn_run_g (v := .string (strN (mCode ee))) (w' := w') (j := 2) (b := true) rfl rfl (by simp [yielded, y0, y1, y2, y3, y4, y6, y7, hL]) (fun c h => by cases h) (fun _ => trivial) ?_ ⟨V1, V2, by simp [Act.put, upd, y0, y1, y2, y3, y4, y6, y7, hL], hcm, by simpa [upd] using hph⟩
          simp only [y0, y1, y2, y3, y4, y6, y7, hL, cond_true, cond_false]
          go_simp
        · skip
          have y0 : L 0 = true := shut_at hs 1 0 (by kernel_rfl) (shut_at hs 2 1 (by kernel_rfl) (up_at hu 2 (by kernel_rfl)))
          have y1 : L 1 = true := shut_at hs 2 1 (by kernel_rfl) (up_at hu 2 (by kernel_rfl))
          have y2 : L 2 = true := up_at hu 2 (by kernel_rfl)
          have y3 : L 3 = true := shut_at hs 4 3 (by kernel_rfl) (shut_at hs 5 4 (by kernel_rfl) (up_at hu 5 (by kernel_rfl)))
          have y4 : L 4 = true := shut_at hs 5 4 (by kernel_rfl) (up_at hu 5 (by kernel_rfl))
          have y5 : L 5 = true := up_at hu 5 (by kernel_rfl)
          have y6 : L 6 = true := shut_at hs 7 6 (by kernel_rfl) (shut_at hs 8 7 (by kernel_rfl) (up_at hu 8 (by kernel_rfl)))
          have y7 : L 7 = true := shut_at hs 8 7 (by kernel_rfl) (up_at hu 8 (by kernel_rfl))
          have y8 : L 8 = true := up_at hu 8 (by kernel_rfl)
          refine opIn_run_g (v := .bool true) (w' := w') (j := 2) (b := true) rfl rfl (by simp [yielded, y0, y1, y2, y3, y4, y5, y6, y7, y8, hL]) (fun c h => by cases h) (fun _ => trivial) ?_ ⟨V1, V2, by simp [Act.put, upd, y0, y1, y2, y3, y4, y5, y6, y7, y8, hL], hcm, by simpa [upd] using hph⟩
          simp only [y0, y1, y2, y3, y4, y5, y6, y7, y8, hL, cond_true, cond_false]
          go_simp
        · skip
          have y0 : L 0 = true := shut_at hs 1 0 (by kernel_rfl) (shut_at hs 2 1 (by kernel_rfl) (up_at hu 2 (by kernel_rfl)))
          have y1 : L 1 = true := shut_at hs 2 1 (by kernel_rfl) (up_at hu 2 (by kernel_rfl))
          have y2 : L 2 = true := up_at hu 2 (by kernel_rfl)
          have y3 : L 3 = true := shut_at hs 4 3 (by kernel_rfl) (shut_at hs 5 4 (by kernel_rfl) (shut_at hs 9 5 (by kernel_rfl) (up_at hu 9 (by kernel_rfl))))
          have y4 : L 4 = true := shut_at hs 5 4 (by kernel_rfl) (shut_at hs 9 5 (by kernel_rfl) (up_at hu 9 (by kernel_rfl)))
          have y5 : L 5 = true := shut_at hs 9 5 (by kernel_rfl) (up_at hu 9 (by kernel_rfl))
          have y6 : L 6 = true := shut_at hs 7 6 (by kernel_rfl) (shut_at hs 8 7 (by kernel_rfl) (shut_at hs 9 8 (by kernel_rfl) (up_at hu 9 (by kernel_rfl))))
          have y7 : L 7 = true := shut_at hs 8 7 (by kernel_rfl) (shut_at hs 9 8 (by kernel_rfl) (up_at hu 9 (by kernel_rfl)))
          have y8 : L 8 = true := shut_at hs 9 8 (by kernel_rfl) (up_at hu 9 (by kernel_rfl))
          have y9 : L 9 = true := up_at hu 9 (by kernel_rfl)
          refine opIn_run (v := .bool true) (w' := w') rfl rfl (fun c h => by cases h) (fun _ => trivial) ?_ ⟨V1, V2, by simp [Act.put, upd, y0, y1, y2, y3, y4, y5, y6, y7, y8, y9, hL], hcm, by simpa [upd] using hph⟩
          simp only [y0, y1, y2, y3, y4, y5, y6, y7, y8, y9, hL, cond_true, cond_false]
          go_simp
        · skip
          have y0 : L 0 = true := shut_at hs 1 0 (by kernel_rfl) (shut_at hs 2 1 (by kernel_rfl) (shut_at hs 7 2 (by kernel_rfl) (up_at hu 7 (by kernel_rfl))))
          have y1 : L 1 = true := shut_at hs 2 1 (by kernel_rfl) (shut_at hs 7 2 (by kernel_rfl) (up_at hu 7 (by kernel_rfl)))
          have y2 : L 2 = true := shut_at hs 7 2 (by kernel_rfl) (up_at hu 7 (by kernel_rfl))
          have y3 : L 3 = true := shut_at hs 4 3 (by kernel_rfl) (shut_at hs 7 4 (by kernel_rfl) (up_at hu 7 (by kernel_rfl)))
          have y4 : L 4 = true := shut_at hs 7 4 (by kernel_rfl) (up_at hu 7 (by kernel_rfl))
          have y5 : L 5 = true := shut_at hs 9 5 (by kernel_rfl) (shut_at hs 10 9 (by kernel_rfl) (up_at hu 10 (by kernel_rfl)))
          have y6 : L 6 = true := shut_at hs 7 6 (by kernel_rfl) (up_at hu 7 (by kernel_rfl))
          have y7 : L 7 = true := up_at hu 7 (by kernel_rfl)
          have y8 : L 8 = true := shut_at hs 9 8 (by kernel_rfl) (shut_at hs 10 9 (by kernel_rfl) (up_at hu 10 (by kernel_rfl)))
          have y9 : L 9 = true := shut_at hs 10 9 (by kernel_rfl) (up_at hu 10 (by kernel_rfl))
          have y10 : L 10 = true := up_at hu 10 (by kernel_rfl)
          refine opIn_run (v := .bool true) (w' := w') rfl rfl (fun c h => by cases h) (fun _ => trivial) ?_ ⟨V1, V2, by simp [Act.put, upd, y0, y1, y2, y3, y4, y5, y6, y7, y8, y9, y10, hL], hcm, by simpa [upd] using hph⟩
          simp only [y0, y1, y2, y3, y4, y5, y6, y7, y8, y9, y10, hL, cond_true, cond_false]
          go_simp
        · skip
          have y0 : L 0 = true := shut_at hs 1 0 (by kernel_rfl) (shut_at hs 2 1 (by kernel_rfl) (shut_at hs 7 2 (by kernel_rfl) (shut_at hs 11 7 (by kernel_rfl) (up_at hu 11 (by kernel_rfl)))))
          have y1 : L 1 = true := shut_at hs 2 1 (by kernel_rfl) (shut_at hs 7 2 (by kernel_rfl) (shut_at hs 11 7 (by kernel_rfl) (up_at hu 11 (by kernel_rfl))))
          have y2 : L 2 = true := shut_at hs 7 2 (by kernel_rfl) (shut_at hs 11 7 (by kernel_rfl) (up_at hu 11 (by kernel_rfl)))
          have y3 : L 3 = true := shut_at hs 4 3 (by kernel_rfl) (shut_at hs 7 4 (by kernel_rfl) (shut_at hs 11 7 (by kernel_rfl) (up_at hu 11 (by kernel_rfl))))
          have y4 : L 4 = true := shut_at hs 7 4 (by kernel_rfl) (shut_at hs 11 7 (by kernel_rfl) (up_at hu 11 (by kernel_rfl)))
          have y5 : L 5 = true := shut_at hs 9 5 (by kernel_rfl) (shut_at hs 10 9 (by kernel_rfl) (shut_at hs 11 10 (by kernel_rfl) (up_at hu 11 (by kernel_rfl))))
          have y6 : L 6 = true := shut_at hs 7 6 (by kernel_rfl) (shut_at hs 11 7 (by kernel_rfl) (up_at hu 11 (by kernel_rfl)))
          have y7 : L 7 = true := shut_at hs 11 7 (by kernel_rfl) (up_at hu 11 (by kernel_rfl))
          have y8 : L 8 = true := shut_at hs 9 8 (by kernel_rfl) (shut_at hs 10 9 (by kernel_rfl) (shut_at hs 11 10 (by kernel_rfl) (up_at hu 11 (by kernel_rfl))))
          have y9 : L 9 = true := shut_at hs 10 9 (by kernel_rfl) (shut_at hs 11 10 (by kernel_rfl) (up_at hu 11 (by kernel_rfl)))
          have y10 : L 10 = true := shut_at hs 11 10 (by kernel_rfl) (up_at hu 11 (by kernel_rfl))
          have y11 : L 11 = true := up_at hu 11 (by kernel_rfl)
          have hld : (loadVar 28 ⟨w5.heap.size, 0, none⟩).run Tryd.prog w' = .ok (.agg (cxA cx)) w' := by
            simp only [y7, cond_true] at hph; exact cb_load hph.cb.1
          refine opIn_run_g (v := .agg (cxA cx)) (w' := w') (j := 11) (b := true) rfl rfl (by simp [yielded, y0, y1, y2, y3, y4, y5, y6, y7, y8, y9, y10, y11, hL]) (fun c h => by cases h) (fun _ => trivial) ?_ ⟨V1, V2, by simp [Act.put, upd, y0, y1, y2, y3, y4, y5, y6, y7, y8, y9, y10, y11, hL], hcm, by simpa [upd] using hph⟩
          simp only [y0, y1, y2, y3, y4, y5, y6, y7, y8, y9, y10, y11, hL, cond_true, cond_false]
          exact load_ctx rfl rfl hld
        · skip
          have y0 : L 0 = true := shut_at hs 1 0 (by kernel_rfl) (shut_at hs 2 1 (by kernel_rfl) (shut_at hs 7 2 (by kernel_rfl) (shut_at hs 11 7 (by kernel_rfl) (up_at hu 11 (by kernel_rfl)))))
          have y1 : L 1 = true := shut_at hs 2 1 (by kernel_rfl) (shut_at hs 7 2 (by kernel_rfl) (shut_at hs 11 7 (by kernel_rfl) (up_at hu 11 (by kernel_rfl))))
          have y2 : L 2 = true := shut_at hs 7 2 (by kernel_rfl) (shut_at hs 11 7 (by kernel_rfl) (up_at hu 11 (by kernel_rfl)))
          have y3 : L 3 = true := shut_at hs 4 3 (by kernel_rfl) (shut_at hs 7 4 (by kernel_rfl) (shut_at hs 11 7 (by kernel_rfl) (up_at hu 11 (by kernel_rfl))))
          have y4 : L 4 = true := shut_at hs 7 4 (by kernel_rfl) (shut_at hs 11 7 (by kernel_rfl) (up_at hu 11 (by kernel_rfl)))
          have y5 : L 5 = true := shut_at hs 9 5 (by kernel_rfl) (shut_at hs 10 9 (by kernel_rfl) (shut_at hs 11 10 (by kernel_rfl) (up_at hu 11 (by kernel_rfl))))
          have y6 : L 6 = true := shut_at hs 7 6 (by kernel_rfl) (shut_at hs 11 7 (by kernel_rfl) (up_at hu 11 (by kernel_rfl)))
          have y7 : L 7 = true := shut_at hs 11 7 (by kernel_rfl) (up_at hu 11 (by kernel_rfl))
          have y8 : L 8 = true := shut_at hs 9 8 (by kernel_rfl) (shut_at hs 10 9 (by kernel_rfl) (shut_at hs 11 10 (by kernel_rfl) (up_at hu 11 (by kernel_rfl))))
          have y9 : L 9 = true := shut_at hs 10 9 (by kernel_rfl) (shut_at hs 11 10 (by kernel_rfl) (up_at hu 11 (by kernel_rfl)))
          have y10 : L 10 = true := shut_at hs 11 10 (by kernel_rfl) (up_at hu 11 (by kernel_rfl))
          have y11 : L 11 = true := up_at hu 11 (by kernel_rfl)
          have hld : (loadVar 28 ⟨w5.heap.size + 1, 0, none⟩).run Tryd.prog w' = .ok (.agg (cxA cx)) w' := by
            simp only [y7, cond_true] at hph; exact cb_load hph.cb.2
          refine opIn_run_g (v := .agg (cxA cx)) (w' := w') (j := 11) (b := true) rfl rfl (by simp [yielded, y0, y1, y2, y3, y4, y5, y6, y7, y8, y9, y10, y11, hL]) (fun c h => by cases h) (fun _ => trivial) ?_ ⟨V1, V2, by simp [Act.put, upd, y0, y1, y2, y3, y4, y5, y6, y7, y8, y9, y10, y11, hL], hcm, by simpa [upd] using hph⟩
          simp only [y0, y1, y2, y3, y4, y5, y6, y7, y8, y9, y10, y11, hL, cond_true, cond_false]
          exact load_ctx rfl rfl hld
        · skip
          have y0 : L 0 = true := shut_at hs 1 0 (by kernel_rfl) (shut_at hs 2 1 (by kernel_rfl) (shut_at hs 7 2 (by kernel_rfl) (shut_at hs 11 7 (by kernel_rfl) (up_at hu 11 (by kernel_rfl)))))
          have y1 : L 1 = true := shut_at hs 2 1 (by kernel_rfl) (shut_at hs 7 2 (by kernel_rfl) (shut_at hs 11 7 (by kernel_rfl) (up_at hu 11 (by kernel_rfl))))
          have y2 : L 2 = true := shut_at hs 7 2 (by kernel_rfl) (shut_at hs 11 7 (by kernel_rfl) (up_at hu 11 (by kernel_rfl)))
          have y3 : L 3 = true := shut_at hs 4 3 (by kernel_rfl) (shut_at hs 7 4 (by kernel_rfl) (shut_at hs 11 7 (by kernel_rfl) (up_at hu 11 (by kernel_rfl))))
          have y4 : L 4 = true := shut_at hs 7 4 (by kernel_rfl) (shut_at hs 11 7 (by kernel_rfl) (up_at hu 11 (by kernel_rfl)))
          have y5 : L 5 = true := shut_at hs 9 5 (by kernel_rfl) (shut_at hs 10 9 (by kernel_rfl) (shut_at hs 11 10 (by kernel_rfl) (up_at hu 11 (by kernel_rfl))))
          have y6 : L 6 = true := shut_at hs 7 6 (by kernel_rfl) (shut_at hs 11 7 (by kernel_rfl) (up_at hu 11 (by kernel_rfl)))
          have y7 : L 7 = true := shut_at hs 11 7 (by kernel_rfl) (up_at hu 11 (by kernel_rfl))
          have y8 : L 8 = true := shut_at hs 9 8 (by kernel_rfl) (shut_at hs 10 9 (by kernel_rfl) (shut_at hs 11 10 (by kernel_rfl) (up_at hu 11 (by kernel_rfl))))
          have y9 : L 9 = true := shut_at hs 10 9 (by kernel_rfl) (shut_at hs 11 10 (by kernel_rfl) (up_at hu 11 (by kernel_rfl)))
          have y10 : L 10 = true := shut_at hs 11 10 (by kernel_rfl) (up_at hu 11 (by kernel_rfl))
          have y11 : L 11 = true := up_at hu 11 (by kernel_rfl)
          have y12 : L 12 = true := up_at hu 12 (by kernel_rfl)
          have y13 : L 13 = true := up_at hu 13 (by kernel_rfl)
          have heq := eq_ctx10 cx HFI.out.2.2.len w'
          refine opIn_run_g (v := .bool true) (w' := w') (j := 11) (b := true) rfl rfl (by simp [yielded, y0, y1, y2, y3, y4, y5, y6, y7, y8, y9, y10, y11, y12, y13, hL]) (fun c h => by cases h) (fun _ => trivial) ?_ ⟨V1, V2, by simp [Act.put, upd, y0, y1, y2, y3, y4, y5, y6, y7, y8, y9, y10, y11, y12, y13, hL], hcm, by simpa [upd] using hph⟩
          simp only [y0, y1, y2, y3, y4, y5, y6, y7, y8, y9, y10, y11, y12, y13, hL, cond_true, cond_false]
          go_simp
        · skip
          have y0 : L 0 = true := shut_at hs 1 0 (by kernel_rfl) (shut_at hs 2 1 (by kernel_rfl) (shut_at hs 7 2 (by kernel_rfl) (shut_at hs 11 7 (by kernel_rfl) (up_at hu 11 (by kernel_rfl)))))
          have y1 : L 1 = true := shut_at hs 2 1 (by kernel_rfl) (shut_at hs 7 2 (by kernel_rfl) (shut_at hs 11 7 (by kernel_rfl) (up_at hu 11 (by kernel_rfl))))
          have y2 : L 2 = true := shut_at hs 7 2 (by kernel_rfl) (shut_at hs 11 7 (by kernel_rfl) (up_at hu 11 (by kernel_rfl)))
          have y3 : L 3 = true := shut_at hs 4 3 (by kernel_rfl) (shut_at hs 7 4 (by kernel_rfl) (shut_at hs 11 7 (by kernel_rfl) (up_at hu 11 (by kernel_rfl))))
          have y4 : L 4 = true := shut_at hs 7 4 (by kernel_rfl) (shut_at hs 11 7 (by kernel_rfl) (up_at hu 11 (by kernel_rfl)))
          have y5 : L 5 = true := shut_at hs 9 5 (by kernel_rfl) (shut_at hs 10 9 (by kernel_rfl) (shut_at hs 11 10 (by kernel_rfl) (up_at hu 11 (by kernel_rfl))))
          have y6 : L 6 = true := shut_at hs 7 6 (by kernel_rfl) (shut_at hs 11 7 (by kernel_rfl) (up_at hu 11 (by kernel_rfl)))
          have y7 : L 7 = true := shut_at hs 11 7 (by kernel_rfl) (up_at hu 11 (by kernel_rfl))
          have y8 : L 8 = true := shut_at hs 9 8 (by kernel_rfl) (shut_at hs 10 9 (by kernel_rfl) (shut_at hs 11 10 (by kernel_rfl) (up_at hu 11 (by kernel_rfl))))
          have y9 : L 9 = true := shut_at hs 10 9 (by kernel_rfl) (shut_at hs 11 10 (by kernel_rfl) (up_at hu 11 (by kernel_rfl)))
          have y10 : L 10 = true := shut_at hs 11 10 (by kernel_rfl) (up_at hu 11 (by kernel_rfl))
          have y11 : L 11 = true := up_at hu 11 (by kernel_rfl)
          have y12 : L 12 = true := shut_at hs 14 12 (by kernel_rfl) (up_at hu 14 (by kernel_rfl))
          have y13 : L 13 = true := shut_at hs 14 13 (by kernel_rfl) (up_at hu 14 (by kernel_rfl))
          have y14 : L 14 = true := up_at hu 14 (by kernel_rfl)
          refine opIn_run (v := .bool true) (w' := w') rfl rfl (fun c h => by cases h) (fun _ => trivial) ?_ ⟨V1, V2, by simp [Act.put, upd, y0, y1, y2, y3, y4, y5, y6, y7, y8, y9, y10, y11, y12, y13, y14, hL], hcm, by simpa [upd] using hph⟩
          simp only [y0, y1, y2, y3, y4, y5, y6, y7, y8, y9, y10, y11, y12, y13, y14, hL, cond_true, cond_false]
          go_simp
        · skip
          have y0 : L 0 = true := up_at hu 0 (by kernel_rfl)
          have y1 : L 1 = true := up_at hu 1 (by kernel_rfl)
          have y2 : L 2 = true := up_at hu 2 (by kernel_rfl)
          have y3 : L 3 = true := up_at hu 3 (by kernel_rfl)
          have y4 : L 4 = true := up_at hu 4 (by kernel_rfl)
          have y5 : L 5 = true := up_at hu 5 (by kernel_rfl)
          have y6 : L 6 = true := up_at hu 6 (by kernel_rfl)
          have y7 : L 7 = true := up_at hu 7 (by kernel_rfl)
          have y8 : L 8 = true := up_at hu 8 (by kernel_rfl)
          have y9 : L 9 = true := up_at hu 9 (by kernel_rfl)
          have y10 : L 10 = true := up_at hu 10 (by kernel_rfl)
          have y11 : L 11 = true := up_at hu 11 (by kernel_rfl)
          have y12 : L 12 = true := up_at hu 12 (by kernel_rfl)
          have y13 : L 13 = true := up_at hu 13 (by kernel_rfl)
          have y14 : L 14 = true := up_at hu 14 (by kernel_rfl)
          have y15 : L 15 = true := up_at hu 15 (by kernel_rfl)
          refine opIn_run (v := .bool true) (w' := w') rfl rfl (fun c h => by cases h) (fun _ => trivial) ?_ ⟨V1, V2, by simp [Act.put, upd, y0, y1, y2, y3, y4, y5, y6, y7, y8, y9, y10, y11, y12, y13, y14, y15, hL], hcm, by simpa [upd] using hph⟩
          simp only [y0, y1, y2, y3, y4, y5, y6, y7, y8, y9, y10, y11, y12, y13, y14, y15, hL, cond_true, cond_false]
          go_simp
      case fin =>
        intro L a' w' hall hI
        obtain ⟨V1, V2, rfl, hcm, hph⟩ := hI
        have l0 := hall 0 (by decide)
        have l1 := hall 1 (by decide)
        have l2 := hall 2 (by decide)
        have l3 := hall 3 (by decide)
        have l4 := hall 4 (by decide)
        have l5 := hall 5 (by decide)
        have l6 := hall 6 (by decide)
        have l7 := hall 7 (by decide)
        have l8 := hall 8 (by decide)
        have l9 := hall 9 (by decide)
        have l10 := hall 10 (by decide)
        have l11 := hall 11 (by decide)
        have l12 := hall 12 (by decide)
        have l13 := hall 13 (by decide)
        have l14 := hall 14 (by decide)
        have l15 := hall 15 (by decide)
        have l16 := hall 16 (by decide)
        simp only [l0, l1, l2, l3, l4, l5, l6, l7, l8, l9, l10, l11, l12, l13, l14, l15, l16, cond_true] at hph ⊢
        clear l0 l1 l2 l3 l4 l5 l6 l7 l8 l9 l10 l11 l12 l13 l14 l15 l16 hall
        have HB := Lib.hid hph.bel
        clear hph hcm F1 F2 HS0
        go_wp2
        go_ret
        exact ⟨rfl, HB.out⟩
      -- END
end Go.Proofs.YtdgkeghgfibolaaDoor
