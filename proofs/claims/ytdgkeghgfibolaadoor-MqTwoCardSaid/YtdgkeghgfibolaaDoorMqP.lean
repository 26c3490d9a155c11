/- The encoder of package mq: a byte goes out. -/
import Derived.Test.YtdgkeghgfibolaaDoorMqC
import Derived.Test.YtdgkeghgfibolaaDoorAnyInv
import Derived.Maps.AppendAt
import Derived.Deep.RegionWith
import Derived.Deep.RegionLaw
import Derived.Deep.CutBlock
import Derived.Deep.CutRange
set_option linter.unusedVariables false
set_option linter.unusedSimpArgs false
namespace Go.Proofs.YtdgkeghgfibolaaDoor
open Go.RowKit

/-- What append comes to, as one word: so that the walk leaves it whole till its equation is at hand. -/
def appSem (ts : Array TypeId) (ty : TypeId) (args : Array Value) : Sem Value := Builtin.append_ ts ty args
theorem appSem_eq {ts : Array TypeId} {ty : TypeId} {args : Array Value} : Builtin.append_ ts ty args = appSem ts ty args := rfl
attribute [local go_sem ↓] appSem_eq

def bv (x : Nat) : Value := .int .u8 (x : Int)
/-- Block p is an encoder, all of whose blocks are of P. -/
def EW (P : Nat → Prop) (w : World) (p : Nat) (e : E) : Prop :=
  P p ∧ ∃ V, Eb w p e.a e.c e.ct V ∧ w.ownsRow 0 5 1 V (e.pre.length + 1) ((e.pre ++ [e.last]).map bv) ∧ ∀ k, V.ownBlock = some k → P k
section
variable {P Q : Nat → Prop} {w w' : World} {p : Nat} {e : E}
theorem EW.imp (h : EW P w p e) (hPQ : ∀ k, k < w.heap.size → P k → Q k) : EW Q w p e := by
  obtain ⟨hp, V, hb, hv, hV⟩ := h
  exact ⟨hPQ _ hb.lt hp, V, hb, hv, fun k hk => hPQ _ (hv.lt k hk).2 (hV k hk)⟩
theorem EW.keep (h : EW P w p e) (hs : w.heap.size ≤ w'.heap.size) (hk : ∀ k, P k → w'.heap[k]? = w.heap[k]?) : EW P w' p e := by
  obtain ⟨hp, V, hb, hv, hV⟩ := h
  exact ⟨hp, V, (hk p hp).trans hb, ownsRow_keep hv hs (fun k h => hk k (hV k h)), hV⟩
theorem EW.lt (h : EW P w p e) : p < w.heap.size := by
  obtain ⟨_, V, hb, _⟩ := h
  exact hb.lt
end
theorem and_mask (c m k : Nat) (hk : m + 1 = 2 ^ k) (hc : c < 4294967296) (hm : m < 4294967296) : bits .and .u32 (c : Int) (m : Int) = ((c % (m + 1) : Nat) : Int) := by
  show IntKind.u32.wrap ((BitVec.ofInt 32 (c : Int) &&& BitVec.ofInt 32 (m : Int)).toNat : Int) = _
  have e1 : (BitVec.ofInt 32 (c : Int)).toNat = c := by
    rw [BitVec.toNat_ofInt]; omega
  have e2 : (BitVec.ofInt 32 (m : Int)).toNat = m := by
    rw [BitVec.toNat_ofInt]; omega
  rw [BitVec.toNat_and, e1, e2, show m = 2 ^ k - 1 from by omega, Nat.and_two_pow_sub_one_eq_mod]
  rw [show 2 ^ k - 1 + 1 = 2 ^ k from by omega]
  have : c % 2 ^ k ≤ c := Nat.mod_le _ _
  exact IntWalk.u32_in _ (by omega)
theorem mask20 (c : Nat) (hc : c < 4294967296) : bits .and .u32 (c : Int) 1048575 = ((c % 1048576 : Nat) : Int) := and_mask c 1048575 20 (by decide) hc (by decide)
theorem mask19 (c : Nat) (hc : c < 4294967296) : bits .and .u32 (c : Int) 524287 = ((c % 524288 : Nat) : Int) := and_mask c 524287 19 (by decide) hc (by decide)

/-- What lies in an encoder's blocks ahead of the byte that goes out. -/
structure Pw (P : Nat → Prop) (w0 w : World) (p g m cap a c ct : Nat) (pre : List Nat) (l : Nat) : Prop where
  blk : Eb w p a c ct (.slice (some ⟨g, 0, none⟩) (m + 1) cap)
  own : w.ownsRow 0 5 1 (.slice (some ⟨g, 0, none⟩) (m + 1) cap) (m + 1) ((pre ++ [l]).map bv)
  only : Only P w0 w
section
variable {P : Nat → Prop} {w0 w : World} {p g m cap a c ct : Nat} {pre : List Nat} {l : Nat}
theorem Pw.ne (h : Pw P w0 w p g m cap a c ct pre l) : g ≠ p := by
  have := blk_not_row h.blk (by decide) h.own
  simpa [Value.ownBlock] using this
theorem Pw.last (h : Pw P w0 w p g m cap a c ct pre l) (hm : pre.length = m) : w.cell? ⟨g, m, none⟩ = some (bv l) := by
  have f1 := h.own.cellAt m (by omega)
  have e1 : ((pre ++ [l]).map bv)[m]? = some (bv l) := by
    rw [List.getElem?_map, List.getElem?_append_right (by omega), show m - pre.length = 0 from by omega]; rfl
  rw [e1] at f1
  exact f1
theorem Pw.drew (h : Pw P w0 w p g m cap a c ct pre l) (n : Nat) : Pw P w0 (w.drewN n) p g m cap a c ct pre l := ⟨h.blk, h.own, only_drewN h.only n⟩
theorem Pw.setL (h : Pw P w0 w p g m cap a c ct pre l) (hm : pre.length = m) (hg : P g) (x : Nat) : Pw P w0 (w.setCell ⟨g, m, none⟩ (bv x)) p g m cap a c ct pre x := by
  have S := h.own.stored m (bv x)
  have S1 := S.1
  have es : ((pre ++ [l]).map bv).set m (bv x) = (pre ++ [x]).map bv := by
    rw [← List.map_set, List.set_append_right _ _ (by omega), show m - pre.length = 0 from by omega]; rfl
  rw [es] at S1
  exact ⟨h.blk.other h.ne _, S1, h.only.setCell (p := ⟨g, m, none⟩) hg _⟩
theorem Pw.setC (h : Pw P w0 w p g m cap a c ct pre l) (hp : P p) (x : Nat) : Pw P w0 (w.setCell ⟨p, 1, none⟩ (.int .u32 (x : Int))) p g m cap a x ct pre l := by
  have hg := h.ne
  exact ⟨h.blk.sc x, ownsRow_setCell_other h.own (a := ⟨p, 1, none⟩) (by simp [Value.ownBlock]; exact hg) _, h.only.setCell (p := ⟨p, 1, none⟩) hp _⟩
end

theorem Pw.setT {P : Nat → Prop} {w0 w : World} {p g m cap a c ct : Nat} {pre : List Nat} {l : Nat} (h : Pw P w0 w p g m cap a c ct pre l) (hp : P p) (x : Nat) : Pw P w0 (w.setCell ⟨p, 2, none⟩ (.int .i64 (x : Int))) p g m cap a c x pre l := by
  have hg := h.ne
  exact ⟨h.blk.st x, ownsRow_setCell_other h.own (a := ⟨p, 2, none⟩) (by simp [Value.ownBlock]; exact hg) _, h.only.setCell (p := ⟨p, 2, none⟩) hp _⟩
theorem app_put {P : Nat → Prop} {w0 wc WD : World} {p g m cap a c ct : Nat} {pre : List Nat} {l : Nat} (h : Pw P w0 wc p g m cap a c ct pre l) (hm : pre.length = m) (hp : P p) (hg : P g) (hP : ∀ k, w0.heap.size ≤ k → P k) (hW : wc.drew = WD) (x : Nat) (hml : m ≤ 90001) :
    ∃ g9 cap9 w9, (appSem #[44, 44] 44 #[.slice (some ⟨g, 0, none⟩) (m + 1) cap, .slice (some ⟨WD.heap.size, 0, none⟩) 1 1]).run Tryd.prog (WD.alloc (Obj.cells #[.int .u8 (x : Int)] 5)) = .ok (.slice (some ⟨g9, 0, none⟩) (m + 1 + 1) cap9) w9 ∧
      P g9 ∧ (w9.cell? ⟨p, 3, none⟩ = some (.slice (some ⟨g, 0, none⟩) (m + 1) cap) ∧ w9.frozen? ⟨p, 3, none⟩ = false) ∧ Pw P w0 (w9.setCell ⟨p, 3, none⟩ (.slice (some ⟨g9, 0, none⟩) (m + 1 + 1) cap9)) p g9 (m + 1) cap9 a c ct (pre ++ [l]) x := by
  subst hW
  have hd := h.drew 1
  change Pw P w0 wc.drew _ _ _ _ _ _ _ _ _ at hd
  generalize wc.drew = W at *
  obtain ⟨i0, e1, z0, z1, z2⟩ := info_parts Tryd.info5
  have hs := hd.only.size
  obtain ⟨v', w', hr, hown, hgrow, _, hat⟩ := run_append_own_at (P := Tryd.prog) (W.alloc (Obj.cells #[.int .u8 (x : Int)] 5)) 0 44 44 5 i0 (.int .u8 0) 1 1 Tryd.underlying44 e1 z0 z1 z2 rfl (by decide) _ _ _ (hd.own.alloc _) ⟨W.heap.size, 0, none⟩ 1 1 [.int .u8 (x : Int)] rfl
    (cell_one_new _ _ _) (fun u hu => by simp at hu; subst hu; rfl) (by unfold maxLen; omega) (by omega) (Nat.zero_le _)
  obtain ⟨g9, c9, rfl, _⟩ := own_form hown (by omega)
  have hb1 : Eb (W.alloc (Obj.cells #[.int .u8 (x : Int)] 5)) p a c ct (.slice (some ⟨g, 0, none⟩) (m + 1) cap) := hd.blk.keep (Below.heap_alloc W _ p hd.blk.lt)
  have hb2 : Eb w' p a c ct (.slice (some ⟨g, 0, none⟩) (m + 1) cap) := hb1.keep (hgrow.block p hb1.lt (fun e => hd.ne (by simpa [Value.ownBlock] using e.symm)))
  have hP9 : P g9 := by
    rcases hat with e | e
    · obtain rfl : g9 = g := by simpa [Value.ownBlock] using e
      exact hg
    · obtain rfl : g9 = _ := Option.some.inj e
      exact hP _ (by simp; omega)
  have ho : Only P w0 w' := (hd.only.alloc (hP _ hs) _).grown hgrow (fun k hk => hP k (by simp at hk; omega)) (fun k hk => by (obtain rfl : g = k := (by simpa [Value.ownBlock] using hk)); exact hg)
  have hpg : g9 ≠ p := by
    have := blk_not_row hb2 (by decide) hown
    simpa [Value.ownBlock] using this
  have e4 : (pre ++ [l]).map bv ++ [Value.int .u8 (x : Int)] = (pre ++ [l] ++ [x]).map bv := by simp [bv]
  rw [e4] at hown
  exact ⟨g9, c9, w', hr, hP9, ⟨hb2.c3, hb2.z 3⟩, hb2.sv _, ownsRow_setCell_other hown (a := ⟨p, 3, none⟩) (by simp [Value.ownBlock]; exact hpg) _, ho.setCell (p := ⟨p, 3, none⟩) hp _⟩

/-- What the carry makes of the code and the last byte. -/
def Mid (c l c' l' : Nat) : Prop := (l = 255 ∧ c' = c ∧ l' = l) ∨ (l ≠ 255 ∧ 134217728 ≤ c ∧ c' = c - 134217728 ∧ l' = l + 1) ∨ (l ≠ 255 ∧ c < 134217728 ∧ c' = c ∧ l' = l)
theorem mid_bd {c l c' l' : Nat} (h : Mid c l c' l') (hc : c < 268435456) (hl : l ≤ 255) : c' < 268435456 ∧ l' ≤ 255 ∧ (l' ≠ 255 → c' < 134217728) := by
  unfold Mid at h; omega
theorem mid_255 {a c ct l c' l' : Nat} {pre : List Nat} (h : Mid c l c' l') (h' : l' = 255) : mPut ⟨a, c, ct, pre, l⟩ = ⟨a, c' % 1048576, 7, pre ++ [l'], c' / 1048576⟩ := by
  rcases h with ⟨h1, h2, h3⟩ | ⟨h1, h2, h3, h4⟩ | ⟨h1, h2, h3, h4⟩
  · rw [h2, h3]; exact if_pos h1
  · rw [h3, h4]; exact (if_neg h1).trans ((if_pos h2).trans (if_pos (h4 ▸ h')))
  · exact absurd (h4 ▸ h') h1
theorem mid_no {a c ct l c' l' : Nat} {pre : List Nat} (h : Mid c l c' l') (h' : l' ≠ 255) : mPut ⟨a, c, ct, pre, l⟩ = ⟨a, c' % 524288, 8, pre ++ [l'], c' / 524288⟩ := by
  rcases h with ⟨h1, h2, h3⟩ | ⟨h1, h2, h3, h4⟩ | ⟨h1, h2, h3, h4⟩
  · exact absurd (h3 ▸ h1) h'
  · rw [h3, h4]; exact (if_neg h1).trans ((if_pos h2).trans (if_neg (h4 ▸ h')))
  · rw [h3, h4]; exact (if_neg h1).trans (if_neg (Nat.not_le.2 h2))

set_option maxRecDepth 100000 in
set_option maxHeartbeats 4000000 in
theorem put_cut {P : Nat → Prop} {w0 w : World} {p g m cap a c ct : Nat} {pre : List Nat} {l : Nat} (h : Pw P w0 w p g m cap a c ct pre l) (hm : pre.length = m) (hp : P p) (hg : P g) (hc : c < 268435456) (hl : l ≤ 255) (hml : m ≤ 90000) (hPn : ∀ k, w0.heap.size ≤ k → P k) :
    Calls Tryd.prog 38 #[.pointer (some ⟨p, 0, none⟩)] w fun e w' => e = .returned (.tuple #[]) ∧ EW P w' p (mPut ⟨a, c, ct, pre, l⟩) ∧ Only P w0 w' := by
  have hpg := h.ne
  have f1 := h.last hm
  have f2 := h.own.frozenAt m
  have k0 := h.blk.c0
  have k1 := h.blk.c1
  have k2 := h.blk.c2
  have k3 := h.blk.c3
  have z0 := h.blk.z 0
  have z1 := h.blk.z 1
  have z2 := h.blk.z 2
  have z3 := h.blk.z 3
  have H := Lib.hid h
  have i0 : (m : Int) < (m : Int) + 1 := by omega
  have i1 : (0 : Int) ≤ (m : Int) := by omega
  have HM := Lib.hid hm
  clear h hm
  unfold bv at f1
  go_enter Tryd.func38, Tryd.ntmps38
  go_wp2
  go_quiet (fail)
  obtain ⟨W, hW⟩ : ∃ W, w.drewN nq = W := ⟨_, rfl⟩
  have HX : Hid (Pw P w0 W p g m cap a c ct pre l) := Lib.hid (by rw [← hW]; exact H.out.drew nq)
  rw [hW]
  have f1 : W.cell? ⟨g, m, none⟩ = some (.int .u8 (l : Int)) := by rw [← hW]; exact f1
  have f2 : W.frozen? ⟨g, m, none⟩ = false := by rw [← hW]; exact f2
  have k1 : W.cell? ⟨p, 1, none⟩ = some (.int .u32 (c : Int)) := by rw [← hW]; exact k1
  have z1 : W.frozen? ⟨p, 1, none⟩ = false := by rw [← hW]; exact z1
  clear hW H k0 k2 k3 z0 z2 z3
  go_upto_region 1 with fail
  go_cut [27] from 16 to 27 (fun t wx => wx = W ∧ t = .bool (decide (l ≠ 255) && decide (134217728 ≤ c)))
  case first =>
    by_cases h255 : l = 255
    · have e1 : ((l : Int) != 255) = false := by simp; omega
      have HL := Lib.hid h255
      clear h255
      go_wp2
      go_meet
      exact ⟨rfl, by simp [HL.out]⟩
    · have e1 : ((l : Int) != 255) = true := by simp; omega
      have HL := Lib.hid h255
      clear h255
      by_cases hcc : 134217728 ≤ c
      · have e5 : (134217728 : Int) ≤ (c : Int) := by omega
        go_wp2
        go_meet
        exact ⟨rfl, by simp [HL.out, hcc]⟩
      · have e5 : ¬ (134217728 : Int) ≤ (c : Int) := by omega
        go_wp2
        go_meet
        exact ⟨rfl, by simp [HL.out, hcc]⟩
  case rest =>
   obtain ⟨rfl, rfl⟩ := hcut
   obtain ⟨b, hb⟩ : ∃ b, (decide (l ≠ 255) && decide (134217728 ≤ c)) = b := ⟨_, rfl⟩
   rw [hb]
   have HB := Lib.hid hb
   clear hb
   go_upto_if 27 with fail
   go_cut [] from 28 to 41 (fun wx => ∃ c' l', Pw P w0 wx p g m cap a c' ct pre l' ∧ Mid c l c' l')
   case first =>
    cases b with
    | false =>
      go_wp2
      go_meet
      refine ⟨c, l, HX.out, ?_⟩
      have := HB.out
      unfold Mid
      simp at this
      by_cases h255 : l = 255
      · exact Or.inl ⟨h255, rfl, rfl⟩
      · exact Or.inr (Or.inr ⟨h255, by have := this h255; omega, rfl, rfl⟩)
    | true =>
      have hb := HB.out
      simp at hb
      have HS := Lib.hid ((HX.out.setL HM.out hg (l + 1)).setC hp (c - 134217728))
      have e5 : (134217728 : Int) ≤ (c : Int) := by omega
      have hl4 : l ≤ 254 := by omega
      have HH : Hid (l ≠ 255 ∧ 134217728 ≤ c) := Lib.hid hb
      clear hb
      go_wp2
      go_meet
      refine ⟨c - 134217728, l + 1, ?_, Or.inr (Or.inl ⟨HH.out.1, HH.out.2, rfl, rfl⟩)⟩
      have h1 := HS.out
      unfold bv at h1
      rw [show ((c - 134217728 : Nat) : Int) = (c : Int) - 134217728 by omega] at h1
      exact h1
   case rest =>
    clear HX k1 f1 f2 z1
    obtain ⟨c', l', hP, hx⟩ := hcut
    have hb := mid_bd hx hc hl
    by_cases h255 : l' = 255
    · have e1 : ((l' : Int) == 255) = true := by simp; omega
      have HL := Lib.hid h255
      have hmp := mid_255 (a := a) (ct := ct) (pre := pre) hx h255
      have f1 := hP.last HM.out
      have f2 := hP.own.frozenAt m
      unfold bv at f1
      have hx256 : c' / 1048576 < 256 := by omega
      obtain ⟨x, hxx⟩ : ∃ x, c' / 1048576 = x := ⟨_, rfl⟩
      rw [hxx] at hmp hx256
      have HXX : Hid ((c' : Int) / 1048576 = (x : Int)) := Lib.hid (by omega)
      have hxi := HXX.out
      have wx : IntKind.u8.wrap (x : Int) = (x : Int) := IntWalk.u8_in _ (by omega)
      have HP := Lib.hid hP
      clear h255 hx hP hxx
      go_wp2
      obtain ⟨WD, hWD⟩ : ∃ WD, wc.drew = WD := ⟨_, rfl⟩
      obtain ⟨g9, cap9, w9, hr, hg9, ⟨q9, z9⟩, hY⟩ := app_put HP.out HM.out hp hg hPn hWD x (by omega)
      have HY := Lib.hid hY
      clear hY
      have q1 : WD.cell? ⟨p, 1, none⟩ = some (.int .u32 (c' : Int)) := by rw [← hWD]; exact HP.out.blk.c1
      have q3 : WD.cell? ⟨p, 3, none⟩ = some (.slice (some ⟨g, 0, none⟩) (m + 1) cap) := by rw [← hWD]; exact HP.out.blk.c3
      have qp : p < WD.heap.size := by rw [← hWD]; exact HP.out.blk.lt
      obtain ⟨WA, hWA⟩ : ∃ WA, WD.alloc (Obj.cells #[.int .u8 (x : Int)] 5) = WA := ⟨_, rfl⟩
      have qa3 : WA.cell? ⟨p, 3, none⟩ = some (.slice (some ⟨g, 0, none⟩) (m + 1) cap) := by rw [← hWA, World.cell?_alloc_lt _ _ _ qp]; exact q3
      rw [hWA] at hr
      refine (wpIn_wide (n := 9)).1 (regionIn_inv (Inv := fun L a' w' => a' = { tmps := #[.pointer (some ⟨p, 0, none⟩), undef, .pointer (some ⟨g, m, none⟩), .int .i64 20, .int .i64 7, .pointer (some ⟨p, 0, none⟩), .pointer (some ⟨p, 0, none⟩), .pointer (some ⟨p, 3, none⟩), .slice (some ⟨g, 0, none⟩) (m + 1) cap, .pointer (some ⟨p, 0, none⟩), .pointer (some ⟨p, 0, none⟩), .pointer (some ⟨p, 3, none⟩), .slice (some ⟨g, 0, none⟩) (m + 1) cap, .int .i64 ((m : Int) + 1), .int .i64 (m : Int), .pointer (some ⟨g, m, none⟩), u16, u17, u18, u19, u20, u21, u22, u23, u24, u25, u26, .bool b, u28, u29, u30, u31, u32, u33, u34, u35, u36, u37, u38, u39, u40, u41, .pointer (some ⟨g, m, none⟩), .pointer (some ⟨g, m, none⟩), .int .u8 (l' : Int), .bool true, bif L 0 then .pointer (some ⟨p, 0, none⟩) else undef, bif L 1 then .pointer (some ⟨p, 0, none⟩) else undef, bif L 2 then .pointer (some ⟨p, 0, none⟩) else undef, bif L 3 then .pointer (some ⟨p, 3, none⟩) else undef, bif L 4 then .slice (some ⟨g, 0, none⟩) (m + 1) cap else undef, bif L 5 then .pointer (some ⟨p, 0, none⟩) else undef, bif L 6 then .pointer (some ⟨p, 0, none⟩) else undef, bif L 7 then .pointer (some ⟨p, 0, none⟩) else undef, bif L 8 then .pointer (some ⟨p, 1, none⟩) else undef, bif L 9 then .int .u32 (c' : Int) else undef, bif L 10 then .int .i64 20 else undef, bif L 11 then .int .u32 (x : Int) else undef, bif L 12 then .int .u8 (x : Int) else undef, bif L 13 then .slice (some ⟨WD.heap.size, 0, none⟩) 1 1 else undef, bif L 14 then .slice (some ⟨g9, 0, none⟩) (m + 1 + 1) cap9 else undef, bif L 15 then .pointer (some ⟨p, 0, none⟩) else undef, bif L 16 then .pointer (some ⟨p, 3, none⟩) else undef, undef, undef, undef, undef, undef, undef, undef, undef, undef, undef, undef, undef, undef, undef, undef, undef, undef], defers := [] } ∧ w' = (bif L 17 then w9.setCell ⟨p, 3, none⟩ (.slice (some ⟨g9, 0, none⟩) (m + 1 + 1) cap9) else (bif L 14 then w9 else (bif L 13 then WA else (WD))))) (by kernel_rfl) (by kernel_rfl) ⟨rfl, hWD⟩ ?step20 ?fin20)
      case step20 =>
        intro i hi L a' w' hI hs hu
        obtain ⟨rfl, rfl⟩ := hI
        have hL := hu.1
        have hi : i < 18 := hi
        obtain rfl | rfl | rfl | rfl | rfl | rfl | rfl | rfl | rfl | rfl | rfl | rfl | rfl | rfl | rfl | rfl | rfl | rfl := (by omega : i = 0 ∨ i = 1 ∨ i = 2 ∨ i = 3 ∨ i = 4 ∨ i = 5 ∨ i = 6 ∨ i = 7 ∨ i = 8 ∨ i = 9 ∨ i = 10 ∨ i = 11 ∨ i = 12 ∨ i = 13 ∨ i = 14 ∨ i = 15 ∨ i = 16 ∨ i = 17)
        · skip
          have n17 : L 17 = false := not_yet hL fun h => shut_at hs 17 0 (by kernel_rfl) (h)
          cases h13 : L 13
          · skip
            have h14 : L 14 = false := not_yet h13 fun h => shut_at hs 14 13 (by kernel_rfl) (h)
            refine opIn_run (v := .pointer (some ⟨p, 0, none⟩)) (w' := WD) rfl rfl (fun c h => by cases h) (fun _ => trivial) ?_ ⟨by simp [Act.put, upd, n17, h13, h14, hL], by simp [upd, n17, h13, h14, hL]⟩
            simp only [n17, h13, h14, hL, cond_true, cond_false]
            go_simp
          · skip
            cases h14 : L 14
            · skip
              refine opIn_run (v := .pointer (some ⟨p, 0, none⟩)) (w' := WA) rfl rfl (fun c h => by cases h) (fun _ => trivial) ?_ ⟨by simp [Act.put, upd, n17, h13, h14, hL], by simp [upd, n17, h13, h14, hL]⟩
              simp only [n17, h13, h14, hL, cond_true, cond_false]
              go_simp
            · skip
              refine opIn_run (v := .pointer (some ⟨p, 0, none⟩)) (w' := w9) rfl rfl (fun c h => by cases h) (fun _ => trivial) ?_ ⟨by simp [Act.put, upd, n17, h13, h14, hL], by simp [upd, n17, h13, h14, hL]⟩
              simp only [n17, h13, h14, hL, cond_true, cond_false]
              go_simp
        · skip
          have n14 : L 14 = false := not_yet hL fun h => shut_at hs 2 1 (by kernel_rfl) (shut_at hs 3 2 (by kernel_rfl) (shut_at hs 4 3 (by kernel_rfl) (shut_at hs 14 4 (by kernel_rfl) (h))))
          have n17 : L 17 = false := not_yet hL fun h => shut_at hs 17 1 (by kernel_rfl) (h)
          cases h13 : L 13
          · skip
            refine opIn_run (v := .pointer (some ⟨p, 0, none⟩)) (w' := WD) rfl rfl (fun c h => by cases h) (fun _ => trivial) ?_ ⟨by simp [Act.put, upd, n14, n17, h13, hL], by simp [upd, n14, n17, h13, hL]⟩
            simp only [n14, n17, h13, hL, cond_true, cond_false]
            go_simp
          · skip
            refine opIn_run (v := .pointer (some ⟨p, 0, none⟩)) (w' := WA) rfl rfl (fun c h => by cases h) (fun _ => trivial) ?_ ⟨by simp [Act.put, upd, n14, n17, h13, hL], by simp [upd, n14, n17, h13, hL]⟩
            simp only [n14, n17, h13, hL, cond_true, cond_false]
            go_simp
        · skip
          have y1 : L 1 = true := up_at hu 1 (by kernel_rfl)
          have n14 : L 14 = false := not_yet hL fun h => shut_at hs 3 2 (by kernel_rfl) (shut_at hs 4 3 (by kernel_rfl) (shut_at hs 14 4 (by kernel_rfl) (h)))
          have n17 : L 17 = false := not_yet hL fun h => shut_at hs 17 2 (by kernel_rfl) (h)
          cases h13 : L 13
          · skip
            refine opIn_run (v := .pointer (some ⟨p, 0, none⟩)) (w' := WD) rfl rfl (fun c h => by cases h) (fun _ => trivial) ?_ ⟨by simp [Act.put, upd, y1, n14, n17, h13, hL], by simp [upd, y1, n14, n17, h13, hL]⟩
            simp only [y1, n14, n17, h13, hL, cond_true, cond_false]
            go_simp
          · skip
            refine opIn_run (v := .pointer (some ⟨p, 0, none⟩)) (w' := WA) rfl rfl (fun c h => by cases h) (fun _ => trivial) ?_ ⟨by simp [Act.put, upd, y1, n14, n17, h13, hL], by simp [upd, y1, n14, n17, h13, hL]⟩
            simp only [y1, n14, n17, h13, hL, cond_true, cond_false]
            go_simp
        · skip
          have y1 : L 1 = true := shut_at hs 2 1 (by kernel_rfl) (up_at hu 2 (by kernel_rfl))
          have y2 : L 2 = true := up_at hu 2 (by kernel_rfl)
          have n14 : L 14 = false := not_yet hL fun h => shut_at hs 4 3 (by kernel_rfl) (shut_at hs 14 4 (by kernel_rfl) (h))
          have n17 : L 17 = false := not_yet hL fun h => shut_at hs 17 3 (by kernel_rfl) (h)
          cases h13 : L 13
          · skip
            refine opIn_run (v := .pointer (some ⟨p, 3, none⟩)) (w' := WD) rfl rfl (fun c h => by cases h) (fun _ => trivial) ?_ ⟨by simp [Act.put, upd, y1, y2, n14, n17, h13, hL], by simp [upd, y1, y2, n14, n17, h13, hL]⟩
            simp only [y1, y2, n14, n17, h13, hL, cond_true, cond_false]
            go_simp
          · skip
            refine opIn_run (v := .pointer (some ⟨p, 3, none⟩)) (w' := WA) rfl rfl (fun c h => by cases h) (fun _ => trivial) ?_ ⟨by simp [Act.put, upd, y1, y2, n14, n17, h13, hL], by simp [upd, y1, y2, n14, n17, h13, hL]⟩
            simp only [y1, y2, n14, n17, h13, hL, cond_true, cond_false]
            go_simp
        · skip
          have y1 : L 1 = true := shut_at hs 2 1 (by kernel_rfl) (shut_at hs 3 2 (by kernel_rfl) (up_at hu 3 (by kernel_rfl)))
          have y2 : L 2 = true := shut_at hs 3 2 (by kernel_rfl) (up_at hu 3 (by kernel_rfl))
          have y3 : L 3 = true := up_at hu 3 (by kernel_rfl)
          have n14 : L 14 = false := not_yet hL fun h => shut_at hs 14 4 (by kernel_rfl) (h)
          have n17 : L 17 = false := not_yet hL fun h => shut_at hs 17 4 (by kernel_rfl) (h)
          cases h13 : L 13
          · skip
            refine opIn_run (v := .slice (some ⟨g, 0, none⟩) (m + 1) cap) (w' := WD) rfl rfl (fun c h => by cases h) (fun _ => trivial) ?_ ⟨by simp [Act.put, upd, y1, y2, y3, n14, n17, h13, hL], by simp [upd, y1, y2, y3, n14, n17, h13, hL]⟩
            simp only [y1, y2, y3, n14, n17, h13, hL, cond_true, cond_false]
            go_simp
          · skip
            refine opIn_run (v := .slice (some ⟨g, 0, none⟩) (m + 1) cap) (w' := WA) rfl rfl (fun c h => by cases h) (fun _ => trivial) ?_ ⟨by simp [Act.put, upd, y1, y2, y3, n14, n17, h13, hL], by simp [upd, y1, y2, y3, n14, n17, h13, hL]⟩
            simp only [y1, y2, y3, n14, n17, h13, hL, cond_true, cond_false]
            go_simp
        · skip
          have n13 : L 13 = false := not_yet hL fun h => shut_at hs 6 5 (by kernel_rfl) (shut_at hs 7 6 (by kernel_rfl) (shut_at hs 8 7 (by kernel_rfl) (shut_at hs 9 8 (by kernel_rfl) (shut_at hs 11 9 (by kernel_rfl) (shut_at hs 12 11 (by kernel_rfl) (shut_at hs 13 12 (by kernel_rfl) (h)))))))
          have n14 : L 14 = false := not_yet hL fun h => shut_at hs 6 5 (by kernel_rfl) (shut_at hs 7 6 (by kernel_rfl) (shut_at hs 8 7 (by kernel_rfl) (shut_at hs 9 8 (by kernel_rfl) (shut_at hs 11 9 (by kernel_rfl) (shut_at hs 12 11 (by kernel_rfl) (shut_at hs 13 12 (by kernel_rfl) (shut_at hs 14 13 (by kernel_rfl) (h))))))))
          have n17 : L 17 = false := not_yet hL fun h => shut_at hs 17 5 (by kernel_rfl) (h)
          refine opIn_run (v := .pointer (some ⟨p, 0, none⟩)) (w' := WD) rfl rfl (fun c h => by cases h) (fun _ => trivial) ?_ ⟨by simp [Act.put, upd, n13, n14, n17, hL], by simp [upd, n13, n14, n17, hL]⟩
          simp only [n13, n14, n17, hL, cond_true, cond_false]
          go_simp
        · skip
          have y5 : L 5 = true := up_at hu 5 (by kernel_rfl)
          have n13 : L 13 = false := not_yet hL fun h => shut_at hs 7 6 (by kernel_rfl) (shut_at hs 8 7 (by kernel_rfl) (shut_at hs 9 8 (by kernel_rfl) (shut_at hs 11 9 (by kernel_rfl) (shut_at hs 12 11 (by kernel_rfl) (shut_at hs 13 12 (by kernel_rfl) (h))))))
          have n14 : L 14 = false := not_yet hL fun h => shut_at hs 7 6 (by kernel_rfl) (shut_at hs 8 7 (by kernel_rfl) (shut_at hs 9 8 (by kernel_rfl) (shut_at hs 11 9 (by kernel_rfl) (shut_at hs 12 11 (by kernel_rfl) (shut_at hs 13 12 (by kernel_rfl) (shut_at hs 14 13 (by kernel_rfl) (h)))))))
          have n17 : L 17 = false := not_yet hL fun h => shut_at hs 17 6 (by kernel_rfl) (h)
          refine opIn_run (v := .pointer (some ⟨p, 0, none⟩)) (w' := WD) rfl rfl (fun c h => by cases h) (fun _ => trivial) ?_ ⟨by simp [Act.put, upd, y5, n13, n14, n17, hL], by simp [upd, y5, n13, n14, n17, hL]⟩
          simp only [y5, n13, n14, n17, hL, cond_true, cond_false]
          go_simp
        · skip
          have y5 : L 5 = true := shut_at hs 6 5 (by kernel_rfl) (up_at hu 6 (by kernel_rfl))
          have y6 : L 6 = true := up_at hu 6 (by kernel_rfl)
          have n13 : L 13 = false := not_yet hL fun h => shut_at hs 8 7 (by kernel_rfl) (shut_at hs 9 8 (by kernel_rfl) (shut_at hs 11 9 (by kernel_rfl) (shut_at hs 12 11 (by kernel_rfl) (shut_at hs 13 12 (by kernel_rfl) (h)))))
          have n14 : L 14 = false := not_yet hL fun h => shut_at hs 8 7 (by kernel_rfl) (shut_at hs 9 8 (by kernel_rfl) (shut_at hs 11 9 (by kernel_rfl) (shut_at hs 12 11 (by kernel_rfl) (shut_at hs 13 12 (by kernel_rfl) (shut_at hs 14 13 (by kernel_rfl) (h))))))
          have n17 : L 17 = false := not_yet hL fun h => shut_at hs 17 7 (by kernel_rfl) (h)
          refine opIn_run (v := .pointer (some ⟨p, 0, none⟩)) (w' := WD) rfl rfl (fun c h => by cases h) (fun _ => trivial) ?_ ⟨by simp [Act.put, upd, y5, y6, n13, n14, n17, hL], by simp [upd, y5, y6, n13, n14, n17, hL]⟩
          simp only [y5, y6, n13, n14, n17, hL, cond_true, cond_false]
          go_simp
        · skip
          have y5 : L 5 = true := shut_at hs 6 5 (by kernel_rfl) (shut_at hs 7 6 (by kernel_rfl) (up_at hu 7 (by kernel_rfl)))
          have y6 : L 6 = true := shut_at hs 7 6 (by kernel_rfl) (up_at hu 7 (by kernel_rfl))
          have y7 : L 7 = true := up_at hu 7 (by kernel_rfl)
          have n13 : L 13 = false := not_yet hL fun h => shut_at hs 9 8 (by kernel_rfl) (shut_at hs 11 9 (by kernel_rfl) (shut_at hs 12 11 (by kernel_rfl) (shut_at hs 13 12 (by kernel_rfl) (h))))
          have n14 : L 14 = false := not_yet hL fun h => shut_at hs 9 8 (by kernel_rfl) (shut_at hs 11 9 (by kernel_rfl) (shut_at hs 12 11 (by kernel_rfl) (shut_at hs 13 12 (by kernel_rfl) (shut_at hs 14 13 (by kernel_rfl) (h)))))
          have n17 : L 17 = false := not_yet hL fun h => shut_at hs 17 8 (by kernel_rfl) (h)
          refine opIn_run (v := .pointer (some ⟨p, 1, none⟩)) (w' := WD) rfl rfl (fun c h => by cases h) (fun _ => trivial) ?_ ⟨by simp [Act.put, upd, y5, y6, y7, n13, n14, n17, hL], by simp [upd, y5, y6, y7, n13, n14, n17, hL]⟩
          simp only [y5, y6, y7, n13, n14, n17, hL, cond_true, cond_false]
          go_simp
        · skip
          have y5 : L 5 = true := shut_at hs 6 5 (by kernel_rfl) (shut_at hs 7 6 (by kernel_rfl) (shut_at hs 8 7 (by kernel_rfl) (up_at hu 8 (by kernel_rfl))))
          have y6 : L 6 = true := shut_at hs 7 6 (by kernel_rfl) (shut_at hs 8 7 (by kernel_rfl) (up_at hu 8 (by kernel_rfl)))
          have y7 : L 7 = true := shut_at hs 8 7 (by kernel_rfl) (up_at hu 8 (by kernel_rfl))
          have y8 : L 8 = true := up_at hu 8 (by kernel_rfl)
          have n13 : L 13 = false := not_yet hL fun h => shut_at hs 11 9 (by kernel_rfl) (shut_at hs 12 11 (by kernel_rfl) (shut_at hs 13 12 (by kernel_rfl) (h)))
          have n14 : L 14 = false := not_yet hL fun h => shut_at hs 11 9 (by kernel_rfl) (shut_at hs 12 11 (by kernel_rfl) (shut_at hs 13 12 (by kernel_rfl) (shut_at hs 14 13 (by kernel_rfl) (h))))
          have n17 : L 17 = false := not_yet hL fun h => shut_at hs 17 9 (by kernel_rfl) (h)
          refine opIn_run (v := .int .u32 (c' : Int)) (w' := WD) rfl rfl (fun c h => by cases h) (fun _ => trivial) ?_ ⟨by simp [Act.put, upd, y5, y6, y7, y8, n13, n14, n17, hL], by simp [upd, y5, y6, y7, y8, n13, n14, n17, hL]⟩
          simp only [y5, y6, y7, y8, n13, n14, n17, hL, cond_true, cond_false]
          go_simp
        · skip
          have n13 : L 13 = false := not_yet hL fun h => shut_at hs 11 10 (by kernel_rfl) (shut_at hs 12 11 (by kernel_rfl) (shut_at hs 13 12 (by kernel_rfl) (h)))
          have n14 : L 14 = false := not_yet hL fun h => shut_at hs 11 10 (by kernel_rfl) (shut_at hs 12 11 (by kernel_rfl) (shut_at hs 13 12 (by kernel_rfl) (shut_at hs 14 13 (by kernel_rfl) (h))))
          have n17 : L 17 = false := not_yet hL fun h => shut_at hs 17 10 (by kernel_rfl) (h)
          refine opIn_run (v := .int .i64 20) (w' := WD) rfl rfl (fun c h => by cases h) (fun _ => trivial) ?_ ⟨by simp [Act.put, upd, n13, n14, n17, hL], by simp [upd, n13, n14, n17, hL]⟩
          simp only [n13, n14, n17, hL, cond_true, cond_false]
          go_simp
        · skip
          have y5 : L 5 = true := shut_at hs 6 5 (by kernel_rfl) (shut_at hs 7 6 (by kernel_rfl) (shut_at hs 8 7 (by kernel_rfl) (shut_at hs 9 8 (by kernel_rfl) (up_at hu 9 (by kernel_rfl)))))
          have y6 : L 6 = true := shut_at hs 7 6 (by kernel_rfl) (shut_at hs 8 7 (by kernel_rfl) (shut_at hs 9 8 (by kernel_rfl) (up_at hu 9 (by kernel_rfl))))
          have y7 : L 7 = true := shut_at hs 8 7 (by kernel_rfl) (shut_at hs 9 8 (by kernel_rfl) (up_at hu 9 (by kernel_rfl)))
          have y8 : L 8 = true := shut_at hs 9 8 (by kernel_rfl) (up_at hu 9 (by kernel_rfl))
          have y9 : L 9 = true := up_at hu 9 (by kernel_rfl)
          have y10 : L 10 = true := up_at hu 10 (by kernel_rfl)
          have n13 : L 13 = false := not_yet hL fun h => shut_at hs 12 11 (by kernel_rfl) (shut_at hs 13 12 (by kernel_rfl) (h))
          have n14 : L 14 = false := not_yet hL fun h => shut_at hs 12 11 (by kernel_rfl) (shut_at hs 13 12 (by kernel_rfl) (shut_at hs 14 13 (by kernel_rfl) (h)))
          have n17 : L 17 = false := not_yet hL fun h => shut_at hs 17 11 (by kernel_rfl) (h)
          refine opIn_run (v := .int .u32 (x : Int)) (w' := WD) rfl rfl (fun c h => by cases h) (fun _ => trivial) ?_ ⟨by simp [Act.put, upd, y5, y6, y7, y8, y9, y10, n13, n14, n17, hL], by simp [upd, y5, y6, y7, y8, y9, y10, n13, n14, n17, hL]⟩
          simp only [y5, y6, y7, y8, y9, y10, n13, n14, n17, hL, cond_true, cond_false]
          go_simp
        · skip
          have y5 : L 5 = true := shut_at hs 6 5 (by kernel_rfl) (shut_at hs 7 6 (by kernel_rfl) (shut_at hs 8 7 (by kernel_rfl) (shut_at hs 9 8 (by kernel_rfl) (shut_at hs 11 9 (by kernel_rfl) (up_at hu 11 (by kernel_rfl))))))
          have y6 : L 6 = true := shut_at hs 7 6 (by kernel_rfl) (shut_at hs 8 7 (by kernel_rfl) (shut_at hs 9 8 (by kernel_rfl) (shut_at hs 11 9 (by kernel_rfl) (up_at hu 11 (by kernel_rfl)))))
          have y7 : L 7 = true := shut_at hs 8 7 (by kernel_rfl) (shut_at hs 9 8 (by kernel_rfl) (shut_at hs 11 9 (by kernel_rfl) (up_at hu 11 (by kernel_rfl))))
          have y8 : L 8 = true := shut_at hs 9 8 (by kernel_rfl) (shut_at hs 11 9 (by kernel_rfl) (up_at hu 11 (by kernel_rfl)))
          have y9 : L 9 = true := shut_at hs 11 9 (by kernel_rfl) (up_at hu 11 (by kernel_rfl))
          have y10 : L 10 = true := shut_at hs 11 10 (by kernel_rfl) (up_at hu 11 (by kernel_rfl))
          have y11 : L 11 = true := up_at hu 11 (by kernel_rfl)
          have n13 : L 13 = false := not_yet hL fun h => shut_at hs 13 12 (by kernel_rfl) (h)
          have n14 : L 14 = false := not_yet hL fun h => shut_at hs 13 12 (by kernel_rfl) (shut_at hs 14 13 (by kernel_rfl) (h))
          have n17 : L 17 = false := not_yet hL fun h => shut_at hs 17 12 (by kernel_rfl) (h)
          refine opIn_run (v := .int .u8 (x : Int)) (w' := WD) rfl rfl (fun c h => by cases h) (fun _ => trivial) ?_ ⟨by simp [Act.put, upd, y5, y6, y7, y8, y9, y10, y11, n13, n14, n17, hL], by simp [upd, y5, y6, y7, y8, y9, y10, y11, n13, n14, n17, hL]⟩
          simp only [y5, y6, y7, y8, y9, y10, y11, n13, n14, n17, hL, cond_true, cond_false]
          go_simp
        · skip
          have y5 : L 5 = true := shut_at hs 6 5 (by kernel_rfl) (shut_at hs 7 6 (by kernel_rfl) (shut_at hs 8 7 (by kernel_rfl) (shut_at hs 9 8 (by kernel_rfl) (shut_at hs 11 9 (by kernel_rfl) (shut_at hs 12 11 (by kernel_rfl) (up_at hu 12 (by kernel_rfl)))))))
          have y6 : L 6 = true := shut_at hs 7 6 (by kernel_rfl) (shut_at hs 8 7 (by kernel_rfl) (shut_at hs 9 8 (by kernel_rfl) (shut_at hs 11 9 (by kernel_rfl) (shut_at hs 12 11 (by kernel_rfl) (up_at hu 12 (by kernel_rfl))))))
          have y7 : L 7 = true := shut_at hs 8 7 (by kernel_rfl) (shut_at hs 9 8 (by kernel_rfl) (shut_at hs 11 9 (by kernel_rfl) (shut_at hs 12 11 (by kernel_rfl) (up_at hu 12 (by kernel_rfl)))))
          have y8 : L 8 = true := shut_at hs 9 8 (by kernel_rfl) (shut_at hs 11 9 (by kernel_rfl) (shut_at hs 12 11 (by kernel_rfl) (up_at hu 12 (by kernel_rfl))))
          have y9 : L 9 = true := shut_at hs 11 9 (by kernel_rfl) (shut_at hs 12 11 (by kernel_rfl) (up_at hu 12 (by kernel_rfl)))
          have y10 : L 10 = true := shut_at hs 11 10 (by kernel_rfl) (shut_at hs 12 11 (by kernel_rfl) (up_at hu 12 (by kernel_rfl)))
          have y11 : L 11 = true := shut_at hs 12 11 (by kernel_rfl) (up_at hu 12 (by kernel_rfl))
          have y12 : L 12 = true := up_at hu 12 (by kernel_rfl)
          have n14 : L 14 = false := not_yet hL fun h => shut_at hs 14 13 (by kernel_rfl) (h)
          have n17 : L 17 = false := not_yet hL fun h => shut_at hs 17 13 (by kernel_rfl) (h)
          refine opIn_run (v := .slice (some ⟨WD.heap.size, 0, none⟩) 1 1) (w' := WA) rfl rfl (fun c h => by cases h) (fun _ => trivial) ?_ ⟨by simp [Act.put, upd, y5, y6, y7, y8, y9, y10, y11, y12, n14, n17, hL], by simp [upd, y5, y6, y7, y8, y9, y10, y11, y12, n14, n17, hL]⟩
          simp only [y5, y6, y7, y8, y9, y10, y11, y12, n14, n17, hL, cond_true, cond_false]
          go_simp
        · skip
          have y1 : L 1 = true := shut_at hs 2 1 (by kernel_rfl) (shut_at hs 3 2 (by kernel_rfl) (shut_at hs 4 3 (by kernel_rfl) (up_at hu 4 (by kernel_rfl))))
          have y2 : L 2 = true := shut_at hs 3 2 (by kernel_rfl) (shut_at hs 4 3 (by kernel_rfl) (up_at hu 4 (by kernel_rfl)))
          have y3 : L 3 = true := shut_at hs 4 3 (by kernel_rfl) (up_at hu 4 (by kernel_rfl))
          have y4 : L 4 = true := up_at hu 4 (by kernel_rfl)
          have y5 : L 5 = true := shut_at hs 6 5 (by kernel_rfl) (shut_at hs 7 6 (by kernel_rfl) (shut_at hs 8 7 (by kernel_rfl) (shut_at hs 9 8 (by kernel_rfl) (shut_at hs 11 9 (by kernel_rfl) (shut_at hs 12 11 (by kernel_rfl) (shut_at hs 13 12 (by kernel_rfl) (up_at hu 13 (by kernel_rfl))))))))
          have y6 : L 6 = true := shut_at hs 7 6 (by kernel_rfl) (shut_at hs 8 7 (by kernel_rfl) (shut_at hs 9 8 (by kernel_rfl) (shut_at hs 11 9 (by kernel_rfl) (shut_at hs 12 11 (by kernel_rfl) (shut_at hs 13 12 (by kernel_rfl) (up_at hu 13 (by kernel_rfl)))))))
          have y7 : L 7 = true := shut_at hs 8 7 (by kernel_rfl) (shut_at hs 9 8 (by kernel_rfl) (shut_at hs 11 9 (by kernel_rfl) (shut_at hs 12 11 (by kernel_rfl) (shut_at hs 13 12 (by kernel_rfl) (up_at hu 13 (by kernel_rfl))))))
          have y8 : L 8 = true := shut_at hs 9 8 (by kernel_rfl) (shut_at hs 11 9 (by kernel_rfl) (shut_at hs 12 11 (by kernel_rfl) (shut_at hs 13 12 (by kernel_rfl) (up_at hu 13 (by kernel_rfl)))))
          have y9 : L 9 = true := shut_at hs 11 9 (by kernel_rfl) (shut_at hs 12 11 (by kernel_rfl) (shut_at hs 13 12 (by kernel_rfl) (up_at hu 13 (by kernel_rfl))))
          have y10 : L 10 = true := shut_at hs 11 10 (by kernel_rfl) (shut_at hs 12 11 (by kernel_rfl) (shut_at hs 13 12 (by kernel_rfl) (up_at hu 13 (by kernel_rfl))))
          have y11 : L 11 = true := shut_at hs 12 11 (by kernel_rfl) (shut_at hs 13 12 (by kernel_rfl) (up_at hu 13 (by kernel_rfl)))
          have y12 : L 12 = true := shut_at hs 13 12 (by kernel_rfl) (up_at hu 13 (by kernel_rfl))
          have y13 : L 13 = true := up_at hu 13 (by kernel_rfl)
          have n17 : L 17 = false := not_yet hL fun h => shut_at hs 17 14 (by kernel_rfl) (h)
          refine opIn_run (v := .slice (some ⟨g9, 0, none⟩) (m + 1 + 1) cap9) (w' := w9) rfl rfl (fun c h => by cases h) (fun _ => trivial) ?_ ⟨by simp [Act.put, upd, y1, y2, y3, y4, y5, y6, y7, y8, y9, y10, y11, y12, y13, n17, hL], by simp [upd, y1, y2, y3, y4, y5, y6, y7, y8, y9, y10, y11, y12, y13, n17, hL]⟩
          simp only [y1, y2, y3, y4, y5, y6, y7, y8, y9, y10, y11, y12, y13, n17, hL, cond_true, cond_false]
          go_simp
        · skip
          have y0 : L 0 = true := up_at hu 0 (by kernel_rfl)
          have y1 : L 1 = true := up_at hu 1 (by kernel_rfl)
          have y2 : L 2 = true := up_at hu 2 (by kernel_rfl)
          have y3 : L 3 = true := up_at hu 3 (by kernel_rfl)
          have y4 : L 4 = true := up_at hu 4 (by kernel_rfl)
          have y5 : L 5 = true := up_at hu 5 (by kernel_rfl)
          have y6 : L 6 = true := up_at hu 6 (by kernel_rfl)
          have y7 : L 7 = true := up_at hu 7 (by kernel_rfl)
          have y8 : L 8 = true := up_at hu 8 (by kernel_rfl)
          have y9 : L 9 = true := up_at hu 9 (by kernel_rfl)
          have y10 : L 10 = true := up_at hu 10 (by kernel_rfl)
          have y11 : L 11 = true := up_at hu 11 (by kernel_rfl)
          have y12 : L 12 = true := up_at hu 12 (by kernel_rfl)
          have y13 : L 13 = true := up_at hu 13 (by kernel_rfl)
          have y14 : L 14 = true := up_at hu 14 (by kernel_rfl)
          have n17 : L 17 = false := not_yet hL fun h => shut_at hs 16 15 (by kernel_rfl) (shut_at hs 17 16 (by kernel_rfl) (h))
          refine opIn_run (v := .pointer (some ⟨p, 0, none⟩)) (w' := w9) rfl rfl (fun c h => by cases h) (fun _ => trivial) ?_ ⟨by simp [Act.put, upd, y0, y1, y2, y3, y4, y5, y6, y7, y8, y9, y10, y11, y12, y13, y14, n17, hL], by simp [upd, y0, y1, y2, y3, y4, y5, y6, y7, y8, y9, y10, y11, y12, y13, y14, n17, hL]⟩
          simp only [y0, y1, y2, y3, y4, y5, y6, y7, y8, y9, y10, y11, y12, y13, y14, n17, hL, cond_true, cond_false]
          go_simp
        · skip
          have y0 : L 0 = true := up_at hu 0 (by kernel_rfl)
          have y1 : L 1 = true := up_at hu 1 (by kernel_rfl)
          have y2 : L 2 = true := up_at hu 2 (by kernel_rfl)
          have y3 : L 3 = true := up_at hu 3 (by kernel_rfl)
          have y4 : L 4 = true := up_at hu 4 (by kernel_rfl)
          have y5 : L 5 = true := up_at hu 5 (by kernel_rfl)
          have y6 : L 6 = true := up_at hu 6 (by kernel_rfl)
          have y7 : L 7 = true := up_at hu 7 (by kernel_rfl)
          have y8 : L 8 = true := up_at hu 8 (by kernel_rfl)
          have y9 : L 9 = true := up_at hu 9 (by kernel_rfl)
          have y10 : L 10 = true := up_at hu 10 (by kernel_rfl)
          have y11 : L 11 = true := up_at hu 11 (by kernel_rfl)
          have y12 : L 12 = true := up_at hu 12 (by kernel_rfl)
          have y13 : L 13 = true := up_at hu 13 (by kernel_rfl)
          have y14 : L 14 = true := up_at hu 14 (by kernel_rfl)
          have y15 : L 15 = true := up_at hu 15 (by kernel_rfl)
          have n17 : L 17 = false := not_yet hL fun h => shut_at hs 17 16 (by kernel_rfl) (h)
          refine opIn_run (v := .pointer (some ⟨p, 3, none⟩)) (w' := w9) rfl rfl (fun c h => by cases h) (fun _ => trivial) ?_ ⟨by simp [Act.put, upd, y0, y1, y2, y3, y4, y5, y6, y7, y8, y9, y10, y11, y12, y13, y14, y15, n17, hL], by simp [upd, y0, y1, y2, y3, y4, y5, y6, y7, y8, y9, y10, y11, y12, y13, y14, y15, n17, hL]⟩
          simp only [y0, y1, y2, y3, y4, y5, y6, y7, y8, y9, y10, y11, y12, y13, y14, y15, n17, hL, cond_true, cond_false]
          go_simp
        · skip
          have y0 : L 0 = true := up_at hu 0 (by kernel_rfl)
          have y1 : L 1 = true := up_at hu 1 (by kernel_rfl)
          have y2 : L 2 = true := up_at hu 2 (by kernel_rfl)
          have y3 : L 3 = true := up_at hu 3 (by kernel_rfl)
          have y4 : L 4 = true := up_at hu 4 (by kernel_rfl)
          have y5 : L 5 = true := up_at hu 5 (by kernel_rfl)
          have y6 : L 6 = true := up_at hu 6 (by kernel_rfl)
          have y7 : L 7 = true := up_at hu 7 (by kernel_rfl)
          have y8 : L 8 = true := up_at hu 8 (by kernel_rfl)
          have y9 : L 9 = true := up_at hu 9 (by kernel_rfl)
          have y10 : L 10 = true := up_at hu 10 (by kernel_rfl)
          have y11 : L 11 = true := up_at hu 11 (by kernel_rfl)
          have y12 : L 12 = true := up_at hu 12 (by kernel_rfl)
          have y13 : L 13 = true := up_at hu 13 (by kernel_rfl)
          have y14 : L 14 = true := up_at hu 14 (by kernel_rfl)
          have y15 : L 15 = true := shut_at hs 16 15 (by kernel_rfl) (up_at hu 16 (by kernel_rfl))
          have y16 : L 16 = true := up_at hu 16 (by kernel_rfl)
          refine opIn_skip (w' := w9.setCell ⟨p, 3, none⟩ (.slice (some ⟨g9, 0, none⟩) (m + 1 + 1) cap9)) rfl rfl (fun c h => by cases h) (fun _ => trivial) ?_ ⟨by simp [Act.put, upd, y0, y1, y2, y3, y4, y5, y6, y7, y8, y9, y10, y11, y12, y13, y14, y15, y16, hL], by simp [upd, y0, y1, y2, y3, y4, y5, y6, y7, y8, y9, y10, y11, y12, y13, y14, y15, y16, hL]⟩
          simp only [y0, y1, y2, y3, y4, y5, y6, y7, y8, y9, y10, y11, y12, y13, y14, y15, y16, hL, cond_true, cond_false]
          go_simp
      case fin20 =>
        intro L a' w' hall hI
        obtain ⟨rfl, rfl⟩ := hI
        have l0 := hall 0 (by decide)
        have l1 := hall 1 (by decide)
        have l2 := hall 2 (by decide)
        have l3 := hall 3 (by decide)
        have l4 := hall 4 (by decide)
        have l5 := hall 5 (by decide)
        have l6 := hall 6 (by decide)
        have l7 := hall 7 (by decide)
        have l8 := hall 8 (by decide)
        have l9 := hall 9 (by decide)
        have l10 := hall 10 (by decide)
        have l11 := hall 11 (by decide)
        have l12 := hall 12 (by decide)
        have l13 := hall 13 (by decide)
        have l14 := hall 14 (by decide)
        have l15 := hall 15 (by decide)
        have l16 := hall 16 (by decide)
        have l17 := hall 17 (by decide)
        simp only [l0, l1, l2, l3, l4, l5, l6, l7, l8, l9, l10, l11, l12, l13, l14, l15, l16, l17, cond_true]
        clear l0 l1 l2 l3 l4 l5 l6 l7 l8 l9 l10 l11 l12 l13 l14 l15 l16 l17 hall
        clear hr q1 q3 qa3 q9 z9 qp hWA f1 f2 wx
        obtain ⟨W3, hW3⟩ : ∃ W3, w9.setCell ⟨p, 3, none⟩ (.slice (some ⟨g9, 0, none⟩) (m + 1 + 1) cap9) = W3 := ⟨_, rfl⟩
        rw [hW3] at HY ⊢
        clear hW3
        have y1 := HY.out.blk.c1
        have y2 := HY.out.blk.z 1
        have y3 := HY.out.blk.z 2
        have y4 := HY.out.blk.c2
        have hmask := mask20 c' (by omega)
        have HMP := Lib.hid hmp
        clear hmp
        go_wp2
        refine wp_region_still_tail 9 (by kernel_rfl) (by kernel_rfl) ?_
        simp only [List.take_succ_cons, List.take_zero, List.drop_succ_cons, List.drop_zero]
        repeat still_step
        refine wpStill_nil ?_
        change wpList _ _ _ _ _ W3.drew
        have y1 : W3.drew.cell? ⟨p, 1, none⟩ = some (.int .u32 (c' : Int)) := y1
        have y2 : W3.drew.frozen? ⟨p, 1, none⟩ = false := y2
        have y3 : W3.drew.frozen? ⟨p, 2, none⟩ = false := y3
        have y4 : W3.drew.cell? ⟨p, 2, none⟩ = some (.int .i64 (ct : Int)) := y4
        have HY2 := Lib.hid (HY.out.drew 1)
        change Hid (Pw P w0 W3.drew _ _ _ _ _ _ _ _ _) at HY2
        generalize W3.drew = WX at *
        clear HY
        go_wp2
        go_end0
        refine ⟨rfl, ?_⟩
        rw [HMP.out]
        have h9 := ((HY2.out.setC hp (c' % 1048576)).setT hp 7)
        exact ⟨⟨hp, _, h9.blk, by have := h9.own; simpa [HM.out] using this, fun k hk => by injection hk with hk; rw [← hk]; exact hg9⟩, h9.only⟩
    · have e1 : ((l' : Int) == 255) = false := by simp; omega
      have HL := Lib.hid h255
      have hmp := mid_no (a := a) (ct := ct) (pre := pre) hx h255
      have f1 := hP.last HM.out
      have f2 := hP.own.frozenAt m
      unfold bv at f1
      have hx256 : c' / 524288 < 256 := by omega
      obtain ⟨x, hxx⟩ : ∃ x, c' / 524288 = x := ⟨_, rfl⟩
      rw [hxx] at hmp hx256
      have HXX : Hid ((c' : Int) / 524288 = (x : Int)) := Lib.hid (by omega)
      have hxi := HXX.out
      have wx : IntKind.u8.wrap (x : Int) = (x : Int) := IntWalk.u8_in _ (by omega)
      have HP := Lib.hid hP
      clear h255 hx hP hxx
      go_wp2
      obtain ⟨WD, hWD⟩ : ∃ WD, wc.drew = WD := ⟨_, rfl⟩
      obtain ⟨g9, cap9, w9, hr, hg9, ⟨q9, z9⟩, hY⟩ := app_put HP.out HM.out hp hg hPn hWD x (by omega)
      have HY := Lib.hid hY
      clear hY
      have q1 : WD.cell? ⟨p, 1, none⟩ = some (.int .u32 (c' : Int)) := by rw [← hWD]; exact HP.out.blk.c1
      have q3 : WD.cell? ⟨p, 3, none⟩ = some (.slice (some ⟨g, 0, none⟩) (m + 1) cap) := by rw [← hWD]; exact HP.out.blk.c3
      have qp : p < WD.heap.size := by rw [← hWD]; exact HP.out.blk.lt
      obtain ⟨WA, hWA⟩ : ∃ WA, WD.alloc (Obj.cells #[.int .u8 (x : Int)] 5) = WA := ⟨_, rfl⟩
      have qa3 : WA.cell? ⟨p, 3, none⟩ = some (.slice (some ⟨g, 0, none⟩) (m + 1) cap) := by rw [← hWA, World.cell?_alloc_lt _ _ _ qp]; exact q3
      rw [hWA] at hr
      refine (wpIn_wide (n := 9)).1 (regionIn_inv (Inv := fun L a' w' => a' = { tmps := #[.pointer (some ⟨p, 0, none⟩), undef, .pointer (some ⟨g, m, none⟩), .int .i64 19, .int .i64 8, .pointer (some ⟨p, 0, none⟩), .pointer (some ⟨p, 0, none⟩), .pointer (some ⟨p, 3, none⟩), .slice (some ⟨g, 0, none⟩) (m + 1) cap, .pointer (some ⟨p, 0, none⟩), .pointer (some ⟨p, 0, none⟩), .pointer (some ⟨p, 3, none⟩), .slice (some ⟨g, 0, none⟩) (m + 1) cap, .int .i64 ((m : Int) + 1), .int .i64 (m : Int), .pointer (some ⟨g, m, none⟩), u16, u17, u18, u19, u20, u21, u22, u23, u24, u25, u26, .bool b, u28, u29, u30, u31, u32, u33, u34, u35, u36, u37, u38, u39, u40, u41, .pointer (some ⟨g, m, none⟩), .pointer (some ⟨g, m, none⟩), .int .u8 (l' : Int), .bool false, bif L 0 then .pointer (some ⟨p, 0, none⟩) else undef, bif L 1 then .pointer (some ⟨p, 0, none⟩) else undef, bif L 2 then .pointer (some ⟨p, 0, none⟩) else undef, bif L 3 then .pointer (some ⟨p, 3, none⟩) else undef, bif L 4 then .slice (some ⟨g, 0, none⟩) (m + 1) cap else undef, bif L 5 then .pointer (some ⟨p, 0, none⟩) else undef, bif L 6 then .pointer (some ⟨p, 0, none⟩) else undef, bif L 7 then .pointer (some ⟨p, 0, none⟩) else undef, bif L 8 then .pointer (some ⟨p, 1, none⟩) else undef, bif L 9 then .int .u32 (c' : Int) else undef, bif L 10 then .int .i64 19 else undef, bif L 11 then .int .u32 (x : Int) else undef, bif L 12 then .int .u8 (x : Int) else undef, bif L 13 then .slice (some ⟨WD.heap.size, 0, none⟩) 1 1 else undef, bif L 14 then .slice (some ⟨g9, 0, none⟩) (m + 1 + 1) cap9 else undef, bif L 15 then .pointer (some ⟨p, 0, none⟩) else undef, bif L 16 then .pointer (some ⟨p, 3, none⟩) else undef, undef, undef, undef, undef, undef, undef, undef, undef, undef, undef, undef, undef, undef, undef, undef, undef, undef], defers := [] } ∧ w' = (bif L 17 then w9.setCell ⟨p, 3, none⟩ (.slice (some ⟨g9, 0, none⟩) (m + 1 + 1) cap9) else (bif L 14 then w9 else (bif L 13 then WA else (WD))))) (by kernel_rfl) (by kernel_rfl) ⟨rfl, hWD⟩ ?step19 ?fin19)
      case step19 =>
        intro i hi L a' w' hI hs hu
        obtain ⟨rfl, rfl⟩ := hI
        have hL := hu.1
        have hi : i < 18 := hi
        obtain rfl | rfl | rfl | rfl | rfl | rfl | rfl | rfl | rfl | rfl | rfl | rfl | rfl | rfl | rfl | rfl | rfl | rfl := (by omega : i = 0 ∨ i = 1 ∨ i = 2 ∨ i = 3 ∨ i = 4 ∨ i = 5 ∨ i = 6 ∨ i = 7 ∨ i = 8 ∨ i = 9 ∨ i = 10 ∨ i = 11 ∨ i = 12 ∨ i = 13 ∨ i = 14 ∨ i = 15 ∨ i = 16 ∨ i = 17)
        · skip
          have n17 : L 17 = false := not_yet hL fun h => shut_at hs 17 0 (by kernel_rfl) (h)
          cases h13 : L 13
          · skip
            have h14 : L 14 = false := not_yet h13 fun h => shut_at hs 14 13 (by kernel_rfl) (h)
            refine opIn_run (v := .pointer (some ⟨p, 0, none⟩)) (w' := WD) rfl rfl (fun c h => by cases h) (fun _ => trivial) ?_ ⟨by simp [Act.put, upd, n17, h13, h14, hL], by simp [upd, n17, h13, h14, hL]⟩
            simp only [n17, h13, h14, hL, cond_true, cond_false]
            go_simp
          · skip
            cases h14 : L 14
            · skip
              refine opIn_run (v := .pointer (some ⟨p, 0, none⟩)) (w' := WA) rfl rfl (fun c h => by cases h) (fun _ => trivial) ?_ ⟨by simp [Act.put, upd, n17, h13, h14, hL], by simp [upd, n17, h13, h14, hL]⟩
              simp only [n17, h13, h14, hL, cond_true, cond_false]
              go_simp
            · skip
              refine opIn_run (v := .pointer (some ⟨p, 0, none⟩)) (w' := w9) rfl rfl (fun c h => by cases h) (fun _ => trivial) ?_ ⟨by simp [Act.put, upd, n17, h13, h14, hL], by simp [upd, n17, h13, h14, hL]⟩
              simp only [n17, h13, h14, hL, cond_true, cond_false]
              go_simp
        · skip
          have n14 : L 14 = false := not_yet hL fun h => shut_at hs 2 1 (by kernel_rfl) (shut_at hs 3 2 (by kernel_rfl) (shut_at hs 4 3 (by kernel_rfl) (shut_at hs 14 4 (by kernel_rfl) (h))))
          have n17 : L 17 = false := not_yet hL fun h => shut_at hs 17 1 (by kernel_rfl) (h)
          cases h13 : L 13
          · skip
            refine opIn_run (v := .pointer (some ⟨p, 0, none⟩)) (w' := WD) rfl rfl (fun c h => by cases h) (fun _ => trivial) ?_ ⟨by simp [Act.put, upd, n14, n17, h13, hL], by simp [upd, n14, n17, h13, hL]⟩
            simp only [n14, n17, h13, hL, cond_true, cond_false]
            go_simp
          · skip
            refine opIn_run (v := .pointer (some ⟨p, 0, none⟩)) (w' := WA) rfl rfl (fun c h => by cases h) (fun _ => trivial) ?_ ⟨by simp [Act.put, upd, n14, n17, h13, hL], by simp [upd, n14, n17, h13, hL]⟩
            simp only [n14, n17, h13, hL, cond_true, cond_false]
            go_simp
        · skip
          have y1 : L 1 = true := up_at hu 1 (by kernel_rfl)
          have n14 : L 14 = false := not_yet hL fun h => shut_at hs 3 2 (by kernel_rfl) (shut_at hs 4 3 (by kernel_rfl) (shut_at hs 14 4 (by kernel_rfl) (h)))
          have n17 : L 17 = false := not_yet hL fun h => shut_at hs 17 2 (by kernel_rfl) (h)
          cases h13 : L 13
          · skip
            refine opIn_run (v := .pointer (some ⟨p, 0, none⟩)) (w' := WD) rfl rfl (fun c h => by cases h) (fun _ => trivial) ?_ ⟨by simp [Act.put, upd, y1, n14, n17, h13, hL], by simp [upd, y1, n14, n17, h13, hL]⟩
            simp only [y1, n14, n17, h13, hL, cond_true, cond_false]
            go_simp
          · skip
            refine opIn_run (v := .pointer (some ⟨p, 0, none⟩)) (w' := WA) rfl rfl (fun c h => by cases h) (fun _ => trivial) ?_ ⟨by simp [Act.put, upd, y1, n14, n17, h13, hL], by simp [upd, y1, n14, n17, h13, hL]⟩
            simp only [y1, n14, n17, h13, hL, cond_true, cond_false]
            go_simp
        · skip
          have y1 : L 1 = true := shut_at hs 2 1 (by kernel_rfl) (up_at hu 2 (by kernel_rfl))
          have y2 : L 2 = true := up_at hu 2 (by kernel_rfl)
          have n14 : L 14 = false := not_yet hL fun h => shut_at hs 4 3 (by kernel_rfl) (shut_at hs 14 4 (by kernel_rfl) (h))
          have n17 : L 17 = false := not_yet hL fun h => shut_at hs 17 3 (by kernel_rfl) (h)
          cases h13 : L 13
          · skip
            refine opIn_run (v := .pointer (some ⟨p, 3, none⟩)) (w' := WD) rfl rfl (fun c h => by cases h) (fun _ => trivial) ?_ ⟨by simp [Act.put, upd, y1, y2, n14, n17, h13, hL], by simp [upd, y1, y2, n14, n17, h13, hL]⟩
            simp only [y1, y2, n14, n17, h13, hL, cond_true, cond_false]
            go_simp
          · skip
            refine opIn_run (v := .pointer (some ⟨p, 3, none⟩)) (w' := WA) rfl rfl (fun c h => by cases h) (fun _ => trivial) ?_ ⟨by simp [Act.put, upd, y1, y2, n14, n17, h13, hL], by simp [upd, y1, y2, n14, n17, h13, hL]⟩
            simp only [y1, y2, n14, n17, h13, hL, cond_true, cond_false]
            go_simp
        · skip
          have y1 : L 1 = true := shut_at hs 2 1 (by kernel_rfl) (shut_at hs 3 2 (by kernel_rfl) (up_at hu 3 (by kernel_rfl)))
          have y2 : L 2 = true := shut_at hs 3 2 (by kernel_rfl) (up_at hu 3 (by kernel_rfl))
          have y3 : L 3 = true := up_at hu 3 (by kernel_rfl)
          have n14 : L 14 = false := not_yet hL fun h => shut_at hs 14 4 (by kernel_rfl) (h)
          have n17 : L 17 = false := not_yet hL fun h => shut_at hs 17 4 (by kernel_rfl) (h)
          cases h13 : L 13
          · skip
            refine opIn_run (v := .slice (some ⟨g, 0, none⟩) (m + 1) cap) (w' := WD) rfl rfl (fun c h => by cases h) (fun _ => trivial) ?_ ⟨by simp [Act.put, upd, y1, y2, y3, n14, n17, h13, hL], by simp [upd, y1, y2, y3, n14, n17, h13, hL]⟩
            simp only [y1, y2, y3, n14, n17, h13, hL, cond_true, cond_false]
            go_simp
          · skip
            refine opIn_run (v := .slice (some ⟨g, 0, none⟩) (m + 1) cap) (w' := WA) rfl rfl (fun c h => by cases h) (fun _ => trivial) ?_ ⟨by simp [Act.put, upd, y1, y2, y3, n14, n17, h13, hL], by simp [upd, y1, y2, y3, n14, n17, h13, hL]⟩
            simp only [y1, y2, y3, n14, n17, h13, hL, cond_true, cond_false]
            go_simp
        · skip
          have n13 : L 13 = false := not_yet hL fun h => shut_at hs 6 5 (by kernel_rfl) (shut_at hs 7 6 (by kernel_rfl) (shut_at hs 8 7 (by kernel_rfl) (shut_at hs 9 8 (by kernel_rfl) (shut_at hs 11 9 (by kernel_rfl) (shut_at hs 12 11 (by kernel_rfl) (shut_at hs 13 12 (by kernel_rfl) (h)))))))
          have n14 : L 14 = false := not_yet hL fun h => shut_at hs 6 5 (by kernel_rfl) (shut_at hs 7 6 (by kernel_rfl) (shut_at hs 8 7 (by kernel_rfl) (shut_at hs 9 8 (by kernel_rfl) (shut_at hs 11 9 (by kernel_rfl) (shut_at hs 12 11 (by kernel_rfl) (shut_at hs 13 12 (by kernel_rfl) (shut_at hs 14 13 (by kernel_rfl) (h))))))))
          have n17 : L 17 = false := not_yet hL fun h => shut_at hs 17 5 (by kernel_rfl) (h)
          refine opIn_run (v := .pointer (some ⟨p, 0, none⟩)) (w' := WD) rfl rfl (fun c h => by cases h) (fun _ => trivial) ?_ ⟨by simp [Act.put, upd, n13, n14, n17, hL], by simp [upd, n13, n14, n17, hL]⟩
          simp only [n13, n14, n17, hL, cond_true, cond_false]
          go_simp
        · skip
          have y5 : L 5 = true := up_at hu 5 (by kernel_rfl)
          have n13 : L 13 = false := not_yet hL fun h => shut_at hs 7 6 (by kernel_rfl) (shut_at hs 8 7 (by kernel_rfl) (shut_at hs 9 8 (by kernel_rfl) (shut_at hs 11 9 (by kernel_rfl) (shut_at hs 12 11 (by kernel_rfl) (shut_at hs 13 12 (by kernel_rfl) (h))))))
          have n14 : L 14 = false := not_yet hL fun h => shut_at hs 7 6 (by kernel_rfl) (shut_at hs 8 7 (by kernel_rfl) (shut_at hs 9 8 (by kernel_rfl) (shut_at hs 11 9 (by kernel_rfl) (shut_at hs 12 11 (by kernel_rfl) (shut_at hs 13 12 (by kernel_rfl) (shut_at hs 14 13 (by kernel_rfl) (h)))))))
          have n17 : L 17 = false := not_yet hL fun h => shut_at hs 17 6 (by kernel_rfl) (h)
          refine opIn_run (v := .pointer (some ⟨p, 0, none⟩)) (w' := WD) rfl rfl (fun c h => by cases h) (fun _ => trivial) ?_ ⟨by simp [Act.put, upd, y5, n13, n14, n17, hL], by simp [upd, y5, n13, n14, n17, hL]⟩
          simp only [y5, n13, n14, n17, hL, cond_true, cond_false]
          go_simp
        · skip
          have y5 : L 5 = true := shut_at hs 6 5 (by kernel_rfl) (up_at hu 6 (by kernel_rfl))
          have y6 : L 6 = true := up_at hu 6 (by kernel_rfl)
          have n13 : L 13 = false := not_yet hL fun h => shut_at hs 8 7 (by kernel_rfl) (shut_at hs 9 8 (by kernel_rfl) (shut_at hs 11 9 (by kernel_rfl) (shut_at hs 12 11 (by kernel_rfl) (shut_at hs 13 12 (by kernel_rfl) (h)))))
          have n14 : L 14 = false := not_yet hL fun h => shut_at hs 8 7 (by kernel_rfl) (shut_at hs 9 8 (by kernel_rfl) (shut_at hs 11 9 (by kernel_rfl) (shut_at hs 12 11 (by kernel_rfl) (shut_at hs 13 12 (by kernel_rfl) (shut_at hs 14 13 (by kernel_rfl) (h))))))
          have n17 : L 17 = false := not_yet hL fun h => shut_at hs 17 7 (by kernel_rfl) (h)
          refine opIn_run (v := .pointer (some ⟨p, 0, none⟩)) (w' := WD) rfl rfl (fun c h => by cases h) (fun _ => trivial) ?_ ⟨by simp [Act.put, upd, y5, y6, n13, n14, n17, hL], by simp [upd, y5, y6, n13, n14, n17, hL]⟩
          simp only [y5, y6, n13, n14, n17, hL, cond_true, cond_false]
          go_simp
        · skip
          have y5 : L 5 = true := shut_at hs 6 5 (by kernel_rfl) (shut_at hs 7 6 (by kernel_rfl) (up_at hu 7 (by kernel_rfl)))
          have y6 : L 6 = true := shut_at hs 7 6 (by kernel_rfl) (up_at hu 7 (by kernel_rfl))
          have y7 : L 7 = true := up_at hu 7 (by kernel_rfl)
          have n13 : L 13 = false := not_yet hL fun h => shut_at hs 9 8 (by kernel_rfl) (shut_at hs 11 9 (by kernel_rfl) (shut_at hs 12 11 (by kernel_rfl) (shut_at hs 13 12 (by kernel_rfl) (h))))
          have n14 : L 14 = false := not_yet hL fun h => shut_at hs 9 8 (by kernel_rfl) (shut_at hs 11 9 (by kernel_rfl) (shut_at hs 12 11 (by kernel_rfl) (shut_at hs 13 12 (by kernel_rfl) (shut_at hs 14 13 (by kernel_rfl) (h)))))
          have n17 : L 17 = false := not_yet hL fun h => shut_at hs 17 8 (by kernel_rfl) (h)
          refine opIn_run (v := .pointer (some ⟨p, 1, none⟩)) (w' := WD) rfl rfl (fun c h => by cases h) (fun _ => trivial) ?_ ⟨by simp [Act.put, upd, y5, y6, y7, n13, n14, n17, hL], by simp [upd, y5, y6, y7, n13, n14, n17, hL]⟩
          simp only [y5, y6, y7, n13, n14, n17, hL, cond_true, cond_false]
          go_simp
        · skip
          have y5 : L 5 = true := shut_at hs 6 5 (by kernel_rfl) (shut_at hs 7 6 (by kernel_rfl) (shut_at hs 8 7 (by kernel_rfl) (up_at hu 8 (by kernel_rfl))))
          have y6 : L 6 = true := shut_at hs 7 6 (by kernel_rfl) (shut_at hs 8 7 (by kernel_rfl) (up_at hu 8 (by kernel_rfl)))
          have y7 : L 7 = true := shut_at hs 8 7 (by kernel_rfl) (up_at hu 8 (by kernel_rfl))
          have y8 : L 8 = true := up_at hu 8 (by kernel_rfl)
          have n13 : L 13 = false := not_yet hL fun h => shut_at hs 11 9 (by kernel_rfl) (shut_at hs 12 11 (by kernel_rfl) (shut_at hs 13 12 (by kernel_rfl) (h)))
          have n14 : L 14 = false := not_yet hL fun h => shut_at hs 11 9 (by kernel_rfl) (shut_at hs 12 11 (by kernel_rfl) (shut_at hs 13 12 (by kernel_rfl) (shut_at hs 14 13 (by kernel_rfl) (h))))
          have n17 : L 17 = false := not_yet hL fun h => shut_at hs 17 9 (by kernel_rfl) (h)
          refine opIn_run (v := .int .u32 (c' : Int)) (w' := WD) rfl rfl (fun c h => by cases h) (fun _ => trivial) ?_ ⟨by simp [Act.put, upd, y5, y6, y7, y8, n13, n14, n17, hL], by simp [upd, y5, y6, y7, y8, n13, n14, n17, hL]⟩
          simp only [y5, y6, y7, y8, n13, n14, n17, hL, cond_true, cond_false]
          go_simp
        · skip
          have n13 : L 13 = false := not_yet hL fun h => shut_at hs 11 10 (by kernel_rfl) (shut_at hs 12 11 (by kernel_rfl) (shut_at hs 13 12 (by kernel_rfl) (h)))
          have n14 : L 14 = false := not_yet hL fun h => shut_at hs 11 10 (by kernel_rfl) (shut_at hs 12 11 (by kernel_rfl) (shut_at hs 13 12 (by kernel_rfl) (shut_at hs 14 13 (by kernel_rfl) (h))))
          have n17 : L 17 = false := not_yet hL fun h => shut_at hs 17 10 (by kernel_rfl) (h)
          refine opIn_run (v := .int .i64 19) (w' := WD) rfl rfl (fun c h => by cases h) (fun _ => trivial) ?_ ⟨by simp [Act.put, upd, n13, n14, n17, hL], by simp [upd, n13, n14, n17, hL]⟩
          simp only [n13, n14, n17, hL, cond_true, cond_false]
          go_simp
        · skip
          have y5 : L 5 = true := shut_at hs 6 5 (by kernel_rfl) (shut_at hs 7 6 (by kernel_rfl) (shut_at hs 8 7 (by kernel_rfl) (shut_at hs 9 8 (by kernel_rfl) (up_at hu 9 (by kernel_rfl)))))
          have y6 : L 6 = true := shut_at hs 7 6 (by kernel_rfl) (shut_at hs 8 7 (by kernel_rfl) (shut_at hs 9 8 (by kernel_rfl) (up_at hu 9 (by kernel_rfl))))
          have y7 : L 7 = true := shut_at hs 8 7 (by kernel_rfl) (shut_at hs 9 8 (by kernel_rfl) (up_at hu 9 (by kernel_rfl)))
          have y8 : L 8 = true := shut_at hs 9 8 (by kernel_rfl) (up_at hu 9 (by kernel_rfl))
          have y9 : L 9 = true := up_at hu 9 (by kernel_rfl)
          have y10 : L 10 = true := up_at hu 10 (by kernel_rfl)
          have n13 : L 13 = false := not_yet hL fun h => shut_at hs 12 11 (by kernel_rfl) (shut_at hs 13 12 (by kernel_rfl) (h))
          have n14 : L 14 = false := not_yet hL fun h => shut_at hs 12 11 (by kernel_rfl) (shut_at hs 13 12 (by kernel_rfl) (shut_at hs 14 13 (by kernel_rfl) (h)))
          have n17 : L 17 = false := not_yet hL fun h => shut_at hs 17 11 (by kernel_rfl) (h)
          refine opIn_run (v := .int .u32 (x : Int)) (w' := WD) rfl rfl (fun c h => by cases h) (fun _ => trivial) ?_ ⟨by simp [Act.put, upd, y5, y6, y7, y8, y9, y10, n13, n14, n17, hL], by simp [upd, y5, y6, y7, y8, y9, y10, n13, n14, n17, hL]⟩
          simp only [y5, y6, y7, y8, y9, y10, n13, n14, n17, hL, cond_true, cond_false]
          go_simp
        · skip
          have y5 : L 5 = true := shut_at hs 6 5 (by kernel_rfl) (shut_at hs 7 6 (by kernel_rfl) (shut_at hs 8 7 (by kernel_rfl) (shut_at hs 9 8 (by kernel_rfl) (shut_at hs 11 9 (by kernel_rfl) (up_at hu 11 (by kernel_rfl))))))
          have y6 : L 6 = true := shut_at hs 7 6 (by kernel_rfl) (shut_at hs 8 7 (by kernel_rfl) (shut_at hs 9 8 (by kernel_rfl) (shut_at hs 11 9 (by kernel_rfl) (up_at hu 11 (by kernel_rfl)))))
          have y7 : L 7 = true := shut_at hs 8 7 (by kernel_rfl) (shut_at hs 9 8 (by kernel_rfl) (shut_at hs 11 9 (by kernel_rfl) (up_at hu 11 (by kernel_rfl))))
          have y8 : L 8 = true := shut_at hs 9 8 (by kernel_rfl) (shut_at hs 11 9 (by kernel_rfl) (up_at hu 11 (by kernel_rfl)))
          have y9 : L 9 = true := shut_at hs 11 9 (by kernel_rfl) (up_at hu 11 (by kernel_rfl))
          have y10 : L 10 = true := shut_at hs 11 10 (by kernel_rfl) (up_at hu 11 (by kernel_rfl))
          have y11 : L 11 = true := up_at hu 11 (by kernel_rfl)
          have n13 : L 13 = false := not_yet hL fun h => shut_at hs 13 12 (by kernel_rfl) (h)
          have n14 : L 14 = false := not_yet hL fun h => shut_at hs 13 12 (by kernel_rfl) (shut_at hs 14 13 (by kernel_rfl) (h))
          have n17 : L 17 = false := not_yet hL fun h => shut_at hs 17 12 (by kernel_rfl) (h)
          refine opIn_run (v := .int .u8 (x : Int)) (w' := WD) rfl rfl (fun c h => by cases h) (fun _ => trivial) ?_ ⟨by simp [Act.put, upd, y5, y6, y7, y8, y9, y10, y11, n13, n14, n17, hL], by simp [upd, y5, y6, y7, y8, y9, y10, y11, n13, n14, n17, hL]⟩
          simp only [y5, y6, y7, y8, y9, y10, y11, n13, n14, n17, hL, cond_true, cond_false]
          go_simp
        · skip
          have y5 : L 5 = true := shut_at hs 6 5 (by kernel_rfl) (shut_at hs 7 6 (by kernel_rfl) (shut_at hs 8 7 (by kernel_rfl) (shut_at hs 9 8 (by kernel_rfl) (shut_at hs 11 9 (by kernel_rfl) (shut_at hs 12 11 (by kernel_rfl) (up_at hu 12 (by kernel_rfl)))))))
          have y6 : L 6 = true := shut_at hs 7 6 (by kernel_rfl) (shut_at hs 8 7 (by kernel_rfl) (shut_at hs 9 8 (by kernel_rfl) (shut_at hs 11 9 (by kernel_rfl) (shut_at hs 12 11 (by kernel_rfl) (up_at hu 12 (by kernel_rfl))))))
          have y7 : L 7 = true := shut_at hs 8 7 (by kernel_rfl) (shut_at hs 9 8 (by kernel_rfl) (shut_at hs 11 9 (by kernel_rfl) (shut_at hs 12 11 (by kernel_rfl) (up_at hu 12 (by kernel_rfl)))))
          have y8 : L 8 = true := shut_at hs 9 8 (by kernel_rfl) (shut_at hs 11 9 (by kernel_rfl) (shut_at hs 12 11 (by kernel_rfl) (up_at hu 12 (by kernel_rfl))))
          have y9 : L 9 = true := shut_at hs 11 9 (by kernel_rfl) (shut_at hs 12 11 (by kernel_rfl) (up_at hu 12 (by kernel_rfl)))
          have y10 : L 10 = true := shut_at hs 11 10 (by kernel_rfl) (shut_at hs 12 11 (by kernel_rfl) (up_at hu 12 (by kernel_rfl)))
          have y11 : L 11 = true := shut_at hs 12 11 (by kernel_rfl) (up_at hu 12 (by kernel_rfl))
          have y12 : L 12 = true := up_at hu 12 (by kernel_rfl)
          have n14 : L 14 = false := not_yet hL fun h => shut_at hs 14 13 (by kernel_rfl) (h)
          have n17 : L 17 = false := not_yet hL fun h => shut_at hs 17 13 (by kernel_rfl) (h)
          refine opIn_run (v := .slice (some ⟨WD.heap.size, 0, none⟩) 1 1) (w' := WA) rfl rfl (fun c h => by cases h) (fun _ => trivial) ?_ ⟨by simp [Act.put, upd, y5, y6, y7, y8, y9, y10, y11, y12, n14, n17, hL], by simp [upd, y5, y6, y7, y8, y9, y10, y11, y12, n14, n17, hL]⟩
          simp only [y5, y6, y7, y8, y9, y10, y11, y12, n14, n17, hL, cond_true, cond_false]
          go_simp
        · skip
          have y1 : L 1 = true := shut_at hs 2 1 (by kernel_rfl) (shut_at hs 3 2 (by kernel_rfl) (shut_at hs 4 3 (by kernel_rfl) (up_at hu 4 (by kernel_rfl))))
          have y2 : L 2 = true := shut_at hs 3 2 (by kernel_rfl) (shut_at hs 4 3 (by kernel_rfl) (up_at hu 4 (by kernel_rfl)))
          have y3 : L 3 = true := shut_at hs 4 3 (by kernel_rfl) (up_at hu 4 (by kernel_rfl))
          have y4 : L 4 = true := up_at hu 4 (by kernel_rfl)
          have y5 : L 5 = true := shut_at hs 6 5 (by kernel_rfl) (shut_at hs 7 6 (by kernel_rfl) (shut_at hs 8 7 (by kernel_rfl) (shut_at hs 9 8 (by kernel_rfl) (shut_at hs 11 9 (by kernel_rfl) (shut_at hs 12 11 (by kernel_rfl) (shut_at hs 13 12 (by kernel_rfl) (up_at hu 13 (by kernel_rfl))))))))
          have y6 : L 6 = true := shut_at hs 7 6 (by kernel_rfl) (shut_at hs 8 7 (by kernel_rfl) (shut_at hs 9 8 (by kernel_rfl) (shut_at hs 11 9 (by kernel_rfl) (shut_at hs 12 11 (by kernel_rfl) (shut_at hs 13 12 (by kernel_rfl) (up_at hu 13 (by kernel_rfl)))))))
          have y7 : L 7 = true := shut_at hs 8 7 (by kernel_rfl) (shut_at hs 9 8 (by kernel_rfl) (shut_at hs 11 9 (by kernel_rfl) (shut_at hs 12 11 (by kernel_rfl) (shut_at hs 13 12 (by kernel_rfl) (up_at hu 13 (by kernel_rfl))))))
          have y8 : L 8 = true := shut_at hs 9 8 (by kernel_rfl) (shut_at hs 11 9 (by kernel_rfl) (shut_at hs 12 11 (by kernel_rfl) (shut_at hs 13 12 (by kernel_rfl) (up_at hu 13 (by kernel_rfl)))))
          have y9 : L 9 = true := shut_at hs 11 9 (by kernel_rfl) (shut_at hs 12 11 (by kernel_rfl) (shut_at hs 13 12 (by kernel_rfl) (up_at hu 13 (by kernel_rfl))))
          have y10 : L 10 = true := shut_at hs 11 10 (by kernel_rfl) (shut_at hs 12 11 (by kernel_rfl) (shut_at hs 13 12 (by kernel_rfl) (up_at hu 13 (by kernel_rfl))))
          have y11 : L 11 = true := shut_at hs 12 11 (by kernel_rfl) (shut_at hs 13 12 (by kernel_rfl) (up_at hu 13 (by kernel_rfl)))
          have y12 : L 12 = true := shut_at hs 13 12 (by kernel_rfl) (up_at hu 13 (by kernel_rfl))
          have y13 : L 13 = true := up_at hu 13 (by kernel_rfl)
          have n17 : L 17 = false := not_yet hL fun h => shut_at hs 17 14 (by kernel_rfl) (h)
          refine opIn_run (v := .slice (some ⟨g9, 0, none⟩) (m + 1 + 1) cap9) (w' := w9) rfl rfl (fun c h => by cases h) (fun _ => trivial) ?_ ⟨by simp [Act.put, upd, y1, y2, y3, y4, y5, y6, y7, y8, y9, y10, y11, y12, y13, n17, hL], by simp [upd, y1, y2, y3, y4, y5, y6, y7, y8, y9, y10, y11, y12, y13, n17, hL]⟩
          simp only [y1, y2, y3, y4, y5, y6, y7, y8, y9, y10, y11, y12, y13, n17, hL, cond_true, cond_false]
          go_simp
        · skip
          have y0 : L 0 = true := up_at hu 0 (by kernel_rfl)
          have y1 : L 1 = true := up_at hu 1 (by kernel_rfl)
          have y2 : L 2 = true := up_at hu 2 (by kernel_rfl)
          have y3 : L 3 = true := up_at hu 3 (by kernel_rfl)
          have y4 : L 4 = true := up_at hu 4 (by kernel_rfl)
          have y5 : L 5 = true := up_at hu 5 (by kernel_rfl)
          have y6 : L 6 = true := up_at hu 6 (by kernel_rfl)
          have y7 : L 7 = true := up_at hu 7 (by kernel_rfl)
          have y8 : L 8 = true := up_at hu 8 (by kernel_rfl)
          have y9 : L 9 = true := up_at hu 9 (by kernel_rfl)
          have y10 : L 10 = true := up_at hu 10 (by kernel_rfl)
          have y11 : L 11 = true := up_at hu 11 (by kernel_rfl)
          have y12 : L 12 = true := up_at hu 12 (by kernel_rfl)
          have y13 : L 13 = true := up_at hu 13 (by kernel_rfl)
          have y14 : L 14 = true := up_at hu 14 (by kernel_rfl)
          have n17 : L 17 = false := not_yet hL fun h => shut_at hs 16 15 (by kernel_rfl) (shut_at hs 17 16 (by kernel_rfl) (h))
          refine opIn_run (v := .pointer (some ⟨p, 0, none⟩)) (w' := w9) rfl rfl (fun c h => by cases h) (fun _ => trivial) ?_ ⟨by simp [Act.put, upd, y0, y1, y2, y3, y4, y5, y6, y7, y8, y9, y10, y11, y12, y13, y14, n17, hL], by simp [upd, y0, y1, y2, y3, y4, y5, y6, y7, y8, y9, y10, y11, y12, y13, y14, n17, hL]⟩
          simp only [y0, y1, y2, y3, y4, y5, y6, y7, y8, y9, y10, y11, y12, y13, y14, n17, hL, cond_true, cond_false]
          go_simp
        · skip
          have y0 : L 0 = true := up_at hu 0 (by kernel_rfl)
          have y1 : L 1 = true := up_at hu 1 (by kernel_rfl)
          have y2 : L 2 = true := up_at hu 2 (by kernel_rfl)
          have y3 : L 3 = true := up_at hu 3 (by kernel_rfl)
          have y4 : L 4 = true := up_at hu 4 (by kernel_rfl)
          have y5 : L 5 = true := up_at hu 5 (by kernel_rfl)
          have y6 : L 6 = true := up_at hu 6 (by kernel_rfl)
          have y7 : L 7 = true := up_at hu 7 (by kernel_rfl)
          have y8 : L 8 = true := up_at hu 8 (by kernel_rfl)
          have y9 : L 9 = true := up_at hu 9 (by kernel_rfl)
          have y10 : L 10 = true := up_at hu 10 (by kernel_rfl)
          have y11 : L 11 = true := up_at hu 11 (by kernel_rfl)
          have y12 : L 12 = true := up_at hu 12 (by kernel_rfl)
          have y13 : L 13 = true := up_at hu 13 (by kernel_rfl)
          have y14 : L 14 = true := up_at hu 14 (by kernel_rfl)
          have y15 : L 15 = true := up_at hu 15 (by kernel_rfl)
          have n17 : L 17 = false := not_yet hL fun h => shut_at hs 17 16 (by kernel_rfl) (h)
          refine opIn_run (v := .pointer (some ⟨p, 3, none⟩)) (w' := w9) rfl rfl (fun c h => by cases h) (fun _ => trivial) ?_ ⟨by simp [Act.put, upd, y0, y1, y2, y3, y4, y5, y6, y7, y8, y9, y10, y11, y12, y13, y14, y15, n17, hL], by simp [upd, y0, y1, y2, y3, y4, y5, y6, y7, y8, y9, y10, y11, y12, y13, y14, y15, n17, hL]⟩
          simp only [y0, y1, y2, y3, y4, y5, y6, y7, y8, y9, y10, y11, y12, y13, y14, y15, n17, hL, cond_true, cond_false]
          go_simp
        · skip
          have y0 : L 0 = true := up_at hu 0 (by kernel_rfl)
          have y1 : L 1 = true := up_at hu 1 (by kernel_rfl)
          have y2 : L 2 = true := up_at hu 2 (by kernel_rfl)
          have y3 : L 3 = true := up_at hu 3 (by kernel_rfl)
          have y4 : L 4 = true := up_at hu 4 (by kernel_rfl)
          have y5 : L 5 = true := up_at hu 5 (by kernel_rfl)
          have y6 : L 6 = true := up_at hu 6 (by kernel_rfl)
          have y7 : L 7 = true := up_at hu 7 (by kernel_rfl)
          have y8 : L 8 = true := up_at hu 8 (by kernel_rfl)
          have y9 : L 9 = true := up_at hu 9 (by kernel_rfl)
          have y10 : L 10 = true := up_at hu 10 (by kernel_rfl)
          have y11 : L 11 = true := up_at hu 11 (by kernel_rfl)
          have y12 : L 12 = true := up_at hu 12 (by kernel_rfl)
          have y13 : L 13 = true := up_at hu 13 (by kernel_rfl)
          have y14 : L 14 = true := up_at hu 14 (by kernel_rfl)
          have y15 : L 15 = true := shut_at hs 16 15 (by kernel_rfl) (up_at hu 16 (by kernel_rfl))
          have y16 : L 16 = true := up_at hu 16 (by kernel_rfl)
          refine opIn_skip (w' := w9.setCell ⟨p, 3, none⟩ (.slice (some ⟨g9, 0, none⟩) (m + 1 + 1) cap9)) rfl rfl (fun c h => by cases h) (fun _ => trivial) ?_ ⟨by simp [Act.put, upd, y0, y1, y2, y3, y4, y5, y6, y7, y8, y9, y10, y11, y12, y13, y14, y15, y16, hL], by simp [upd, y0, y1, y2, y3, y4, y5, y6, y7, y8, y9, y10, y11, y12, y13, y14, y15, y16, hL]⟩
          simp only [y0, y1, y2, y3, y4, y5, y6, y7, y8, y9, y10, y11, y12, y13, y14, y15, y16, hL, cond_true, cond_false]
          go_simp
      case fin19 =>
        intro L a' w' hall hI
        obtain ⟨rfl, rfl⟩ := hI
        have l0 := hall 0 (by decide)
        have l1 := hall 1 (by decide)
        have l2 := hall 2 (by decide)
        have l3 := hall 3 (by decide)
        have l4 := hall 4 (by decide)
        have l5 := hall 5 (by decide)
        have l6 := hall 6 (by decide)
        have l7 := hall 7 (by decide)
        have l8 := hall 8 (by decide)
        have l9 := hall 9 (by decide)
        have l10 := hall 10 (by decide)
        have l11 := hall 11 (by decide)
        have l12 := hall 12 (by decide)
        have l13 := hall 13 (by decide)
        have l14 := hall 14 (by decide)
        have l15 := hall 15 (by decide)
        have l16 := hall 16 (by decide)
        have l17 := hall 17 (by decide)
        simp only [l0, l1, l2, l3, l4, l5, l6, l7, l8, l9, l10, l11, l12, l13, l14, l15, l16, l17, cond_true]
        clear l0 l1 l2 l3 l4 l5 l6 l7 l8 l9 l10 l11 l12 l13 l14 l15 l16 l17 hall
        clear hr q1 q3 qa3 q9 z9 qp hWA f1 f2 wx
        obtain ⟨W3, hW3⟩ : ∃ W3, w9.setCell ⟨p, 3, none⟩ (.slice (some ⟨g9, 0, none⟩) (m + 1 + 1) cap9) = W3 := ⟨_, rfl⟩
        rw [hW3] at HY ⊢
        clear hW3
        have y1 := HY.out.blk.c1
        have y2 := HY.out.blk.z 1
        have y3 := HY.out.blk.z 2
        have y4 := HY.out.blk.c2
        have hmask := mask19 c' (by omega)
        have HMP := Lib.hid hmp
        clear hmp
        go_wp2
        refine wp_region_still_tail 9 (by kernel_rfl) (by kernel_rfl) ?_
        simp only [List.take_succ_cons, List.take_zero, List.drop_succ_cons, List.drop_zero]
        repeat still_step
        refine wpStill_nil ?_
        change wpList _ _ _ _ _ W3.drew
        have y1 : W3.drew.cell? ⟨p, 1, none⟩ = some (.int .u32 (c' : Int)) := y1
        have y2 : W3.drew.frozen? ⟨p, 1, none⟩ = false := y2
        have y3 : W3.drew.frozen? ⟨p, 2, none⟩ = false := y3
        have y4 : W3.drew.cell? ⟨p, 2, none⟩ = some (.int .i64 (ct : Int)) := y4
        have HY2 := Lib.hid (HY.out.drew 1)
        change Hid (Pw P w0 W3.drew _ _ _ _ _ _ _ _ _) at HY2
        generalize W3.drew = WX at *
        clear HY
        go_wp2
        go_end0
        refine ⟨rfl, ?_⟩
        rw [HMP.out]
        have h9 := ((HY2.out.setC hp (c' % 524288)).setT hp 8)
        exact ⟨⟨hp, _, h9.blk, by have := h9.own; simpa [HM.out] using this, fun k hk => by injection hk with hk; rw [← hk]; exact hg9⟩, h9.only⟩
end Go.Proofs.YtdgkeghgfibolaaDoor
