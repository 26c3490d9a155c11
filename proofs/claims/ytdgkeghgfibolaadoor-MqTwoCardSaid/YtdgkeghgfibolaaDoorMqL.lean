/- The encoder of package mq: its end. -/
import Derived.Test.YtdgkeghgfibolaaDoorMqF
import Derived.Test.YtdgkeghgfibolaaDoorClone8
set_option linter.unusedVariables false
set_option linter.unusedSimpArgs false
namespace Go.Proofs.YtdgkeghgfibolaaDoor
open Go.RowKit

set_option maxHeartbeats 1000000 in
theorem clone_u8 (A : Option Addr) (n c : Nat) (xs : List Value) (B : Nat) (w : World) (hl : xs.length = n) (hA : A = none → n = 0 ∧ c = 0) (h : Lst w B A xs) (h1 : ∀ u ∈ xs, u.oneCell' = true) (hn : n ≤ 140737488355328) :
    Calls Tryd.prog 39 #[.slice A n c] w fun e w' => ∃ v, e = .returned v ∧ w'.ownsRow w.heap.size 5 1 v n xs ∧ Below w.heap.size w w' := by
  have qT : ∀ (w : World) (a : Option Addr) (n c n' c' : Nat), (binOp .eql 44 (.slice a n c) (.slice none n' c')).run Tryd.prog w = .ok (.bool a.isNone) w := fun w a n c n' c' => Lib.run_eql_slice_nil w _ _ a n c n' c' Tryd.underlying44
  obtain ⟨i0, hi, hz0, hz1, hz2⟩ := info_parts Tryd.info5
  rcases A with _ | a
  · obtain ⟨rfl, rfl⟩ := hA rfl
    obtain rfl : xs = [] := List.eq_nil_of_length_eq_zero hl
    go_enter Tryd.func39, Tryd.ntmps39
    go_wp2
    go_ret
    exact ⟨_, rfl, World.ownsRow_nil _ _ _ _, Below.refl _ _⟩
  · have hcells := h.add rfl
    have HC := Lib.hid hcells
    clear hcells hA
    go_enter Tryd.func39, Tryd.ntmps39
    have hwl := Lib.hid hl
    clear hl
    go_wp2_with (at_builtin; refine wpList_append_own _ rfl (.tmp 5) (.tmp 6) 44 rfl w.heap.size 5 i0 (.int .u8 0) 1 1 Tryd.underlying44 hi hz0 hz1 hz2 rfl (by decide) (.slice (some ⟨w.heap.size, 0, none⟩) 0 0) 0 [] rfl (World.ownsRow_made w #[] 0 (Nat.le_refl _) (by unfold maxLen; omega) rfl) a n c xs rfl ?k1 ?k2 h1 ?k3 ?k4 ?k5 ?_)
    case k1 => rw [hwl.out]; simp
    case k2 =>
      intro j u hu
      exact (World.cell?_alloc_lt w _ _ (World.block_lt_of_cell? w _ (HC.out j u hu))).trans (HC.out j u hu)
    case k3 => unfold maxLen; omega
    case k4 => omega
    case k5 => simp
    intro v1 w1 hown hg _
    go_wp2
    go_ret
    refine ⟨v1, rfl, by simpa using hown, ?_⟩
    exact ((Below.refl _ _).alloc (Nat.le_refl _) _).grown hg (by simp) (by simp [Value.ownBlock])

theorem own_low {w : World} {base base' : Nat} {e : TypeId} {size n : Nat} {v : Value} {xs : List Value} (h : w.ownsRow base e size v n xs) (hb : base' ≤ base) : w.ownsRow base' e size v n xs := by
  refine ⟨h.1, ?_⟩
  rcases h.2 with h | ⟨g, cap, cur, hv, hg, r⟩
  · exact Or.inl h
  · exact Or.inr ⟨g, cap, cur, hv, Nat.le_trans hb hg, r⟩
def wA (x : E) (a : Nat) : E := ⟨a, x.c, x.ct, x.pre, x.last⟩
theorem mPut_any (a c t : Nat) (pre : List Nat) (l : Nat) (b : Nat) : mPut ⟨a, c, t, pre, l⟩ = wA (mPut ⟨b, c, 0, pre, l⟩) a := by
  unfold mPut wA
  simp only
  (repeat' split) <;> rfl
def mSt (e : E) : Nat → E
  | 0 => mSet e
  | j + 1 => mPut (mShift (mSt e j))
theorem mSt_end (e : E) : mSt e 2 = mEnd e := rfl
theorem mSt_a (e : E) (j : Nat) : (mSt e j).a = 1 := by
  induction j with
  | zero => rfl
  | succ j ih => unfold mSt; rw [mPut_a]; exact ih
theorem mSt_len (e : E) (j : Nat) : (mSt e j).pre.length = e.pre.length + j := by
  induction j with
  | zero => rfl
  | succ j ih => unfold mSt; rw [mPut_len]; show (mSt e j).pre.length + 1 = _; omega
theorem mSt_inv {e : E} (h : Fine e) (j : Nat) : Inv (mSt e j) := by
  induction j with
  | zero => exact h.set
  | succ j ih => exact (ih.shift (mSt_a e j)).put rfl
theorem mSet_code (c a C : Nat) (hC : c / 65536 * 65536 + 65535 = C) : (if c + a ≤ c / 65536 * 65536 + 65535 then c / 65536 * 65536 + 32767 else c / 65536 * 65536 + 65535) = if c + a ≤ C then C - 32768 else C := by
  subst hC
  split <;> omega
theorem or_mask (c : Nat) (hc : c < 4294967296) : bits .or .u32 (c : Int) 65535 = ((c / 65536 * 65536 + 65535 : Nat) : Int) := by
  show IntKind.u32.wrap ((BitVec.ofInt 32 (c : Int) ||| BitVec.ofInt 32 (65535 : Int)).toNat : Int) = _
  have e1 : (BitVec.ofInt 32 (c : Int)).toNat = c := by
    rw [BitVec.toNat_ofInt]; omega
  have e2 : (BitVec.ofInt 32 (65535 : Int)).toNat = 2 ^ 16 - 1 := by decide
  rw [BitVec.toNat_or, e1, e2]
  have hm : ∀ i, Nat.testBit (2 ^ 16 - 1) i = decide (i < 16) := fun i => Nat.testBit_two_pow_sub_one 16 i
  have key : c ||| (2 ^ 16 - 1) = c / 65536 * 65536 + 65535 := by
    have hr : c % 2 ^ 16 < 2 ^ 16 := Nat.mod_lt _ (by decide)
    have e : c = 2 ^ 16 * (c / 2 ^ 16) + c % 2 ^ 16 := (Nat.div_add_mod c (2 ^ 16)).symm
    have hor : c % 2 ^ 16 ||| (2 ^ 16 - 1) = 2 ^ 16 - 1 := by
      apply Nat.eq_of_testBit_eq
      intro i
      rw [Nat.testBit_or, hm]
      by_cases hi : i < 16
      · rw [decide_eq_true hi, Bool.or_true]
      · rw [Nat.testBit_lt_two_pow (Nat.lt_of_lt_of_le hr (Nat.pow_le_pow_right (by decide) (by omega))), Bool.false_or]
    have h1 : c ||| (2 ^ 16 - 1) = 2 ^ 16 * (c / 2 ^ 16) + (2 ^ 16 - 1) := by
      rw [Nat.two_pow_add_eq_or_of_lt (by decide)]
      conv => lhs; rw [e, Nat.two_pow_add_eq_or_of_lt hr, Nat.or_assoc, hor]
    rw [h1]; omega
  rw [key]
  exact IntWalk.u32_in _ (by omega)
set_option maxRecDepth 100000 in
set_option maxHeartbeats 4000000 in
theorem flush_any {P : Nat → Prop} {w : World} {p : Nat} {e : E} (h : EW P w p e) (f : Fine e) (hml : e.pre.length ≤ 70000) (hP : ∀ k, w.heap.size ≤ k → P k) :
    Calls Tryd.prog 24 #[.pointer (some ⟨p, 0, none⟩)] w fun x w' => ∃ V, x = .returned V ∧ w'.ownsRow w.heap.size 5 1 V (mCode e).length ((mCode e).map bv) ∧ Only P w w' := by
  have k0 := h.c0
  have k1 := h.c1
  have z1 := h.z 1
  have c28 := f.toInv.c28
  have a2 := f.a2
  have HF := Lib.hid f
  have HM := Lib.hid hml
  have HPn := Lib.hid hP
  have HE := Lib.hid h
  clear f hml hP h
  go_enter Tryd.func24, Tryd.ntmps24
  obtain ⟨a, c, ct, pre, last⟩ := e
  simp only at k0 k1 c28 a2
  have hor := or_mask c (by omega)
  go_wp2
  go_quiet (fail)
  obtain ⟨W, hW⟩ : ∃ W, w.drewN nq = W := ⟨_, rfl⟩
  have HX : Hid (EW P W p ⟨a, c, ct, pre, last⟩) := Lib.hid (by rw [← hW]; exact HE.out)
  have O1 : Hid (Only P w W) := Lib.hid (by rw [← hW]; exact only_drewN (Only.refl _ _) nq)
  rw [hW]
  have k1 := HX.out.c1
  have z1 := HX.out.z 1
  simp only at k1
  clear hW HE k0
  go_upto_if 31 with fail
  obtain ⟨C, hC⟩ : ∃ C, c / 65536 * 65536 + 65535 = C := ⟨_, rfl⟩
  have hCi : (c : Int) / 65536 * 65536 + 65535 = (C : Int) := by omega
  rw [hCi]
  obtain ⟨X, hX⟩ : ∃ X, W.setCell ⟨p, 1, none⟩ (.int .u32 (C : Int)) = X := ⟨_, rfl⟩
  have H1 : Hid (EW P X p ⟨a, C, ct, pre, last⟩) := Lib.hid (by rw [← hX]; exact HX.out.setC C)
  have O2 : Hid (Only P w X) := Lib.hid (by rw [← hX]; exact O1.out.setCell (p := ⟨p, 1, none⟩) HX.out.p _)
  rw [hX]
  have HCC := Lib.hid hC
  obtain ⟨tb, htb⟩ : ∃ tb, decide ((c : Int) + (a : Int) ≤ (C : Int)) = tb := ⟨_, rfl⟩
  rw [htb]
  have HTB := Lib.hid htb
  clear hX hCi hC hor k1 z1 htb
  go_cut [] from 32 to 40 (fun wx => EW P wx p (wA (mSt ⟨a, c, ct, pre, last⟩ 0) a) ∧ Only P w wx)
  case first =>
    have y1 := H1.out.c1
    have yz := H1.out.z 1
    simp only at y1
    have hC := HCC.out
    have hs : mSt ⟨a, c, ct, pre, last⟩ 0 = ⟨1, if c + a ≤ C then C - 32768 else C, ct, pre, last⟩ := congrArg (fun z => (⟨1, z, ct, pre, last⟩ : E)) (mSet_code c a C hC)
    have HS0 := Lib.hid hs
    have HCB : Hid (C < 4294967296 ∧ 32768 ≤ C) := Lib.hid (by omega)
    clear hC hs
    by_cases h : c + a ≤ C
    · rw [if_pos h] at HS0
      obtain rfl : tb = true := by rw [← HTB.out]; simp; omega
      have HS := Lib.hid (H1.out.setC (C - 32768))
      have OS := Lib.hid (O2.out.setCell (p := ⟨p, 1, none⟩) HX.out.p (.int .u32 ((C : Int) - 32768)))
      have hcb : (32768 : Int) ≤ (C : Int) := by have := HCB.out.2; omega
      have hcu : (C : Int) < 4294967296 := by have := HCB.out.1; omega
      clear h
      go_wp2
      go_meet
      have h1 := HS.out
      rw [show ((C - 32768 : Nat) : Int) = (C : Int) - 32768 by omega] at h1
      rw [HS0.out]
      exact ⟨h1, OS.out⟩
    · rw [if_neg h] at HS0
      obtain rfl : tb = false := by rw [← HTB.out]; simp; omega
      clear h
      go_wp2
      go_meet
      rw [HS0.out]
      exact ⟨H1.out, O2.out⟩
  case rest =>
    obtain ⟨hE, hO⟩ := hcut
    have HE := Lib.hid hE
    have HO := Lib.hid hO
    clear hE hO H1 O2 O1 HX
    go_wp2
    go_loopw [41] (fun i wr => ∃ j : Nat, j ≤ 2 ∧ i = .int .i64 (j : Int) ∧ EW P wr p (wA (mSt ⟨a, c, ct, pre, last⟩ j) a) ∧ Only P w wr) (fun i _ => 2 - (intOf i).toNat)
    case atStart => exact ⟨0, by omega, rfl, HE.out, HO.out⟩
    case round =>
      obtain ⟨j, hj, rfl, hE, hO⟩ := hrel
      have HI := Lib.hid (mSt_inv HF.out j)
      have HOW := Lib.hid hO
      clear HE HO hO
      by_cases hlt : j < 2
      · have h2 : (j : Int) < 2 := by omega
        have hsh := Lib.hid (HI.out.shift (mSt_a _ j))
        have hln := mSt_len ⟨a, c, ct, pre, last⟩ j
        have hnx : mSt ⟨a, c, ct, pre, last⟩ (j + 1) = mPut (mShift (mSt ⟨a, c, ct, pre, last⟩ j)) := rfl
        obtain ⟨st, hst⟩ : ∃ st, mSt ⟨a, c, ct, pre, last⟩ j = st := ⟨_, rfl⟩
        rw [hst] at hE hsh HI hln hnx
        obtain ⟨a1, c1, t1, pre1, l1⟩ := st
        have hcs : c1 * 2 ^ t1 < 268435456 := by have := hsh.out.c28; exact this
        have ht1 : t1 ≤ 12 := HI.out.ct1
        have hl1 : l1 ≤ 255 := HI.out.l1
        have HL := Lib.hid (And.intro hl1 hln)
        have hc1 : c1 < 268435456 := HI.out.c28
        have k1 := hE.c1
        have k2 := hE.c2
        have z1 := hE.z 1
        obtain ⟨S, hS⟩ : ∃ S, c1 * 2 ^ t1 = S := ⟨_, rfl⟩
        rw [hS] at hcs
        have HSE := Lib.hid hS
        have HEE := Lib.hid hE
        have HN := Lib.hid hnx
        have HSS : Hid ((c1 : Int) * 2 ^ t1 = (S : Int)) := Lib.hid (by rw [← hS]; simp)
        simp only [wA] at k1 k2
        have ht0 : ¬ ((t1 : Int) < 0) := by omega
        have ht2 : (0 : Int) ≤ (t1 : Int) := by omega
        have HA1 : Hid (a1 = 1) := Lib.hid (by have := mSt_a ⟨a, c, ct, pre, last⟩ j; rw [hst] at this; exact this)
        clear hst hS hnx hE hl1 hln hsh HI
        go_wp2
        go_still_tail 11, (by kernel_rfl)
        change wpList _ _ _ _ _ wr.drew
        have z1 : wr.drew.frozen? ⟨p, 1, none⟩ = false := z1
        have k1 : wr.drew.cell? ⟨p, 1, none⟩ = some (.int .u32 (c1 : Int)) := k1
        have HED : Hid (EW P wr.drew p (wA ⟨a1, c1, t1, pre1, l1⟩ a)) := HEE.out
        have HOD : Hid (Only P w wr.drew) := only_drewN HOW.out 1
        generalize wr.drew = Y at *
        clear k2 HEE HOW
        obtain ⟨Z, hZ⟩ : ∃ Z, Y.setCell ⟨p, 1, none⟩ (.int .u32 (S : Int)) = Z := ⟨_, rfl⟩
        have HEZ : Hid (EW P Z p ⟨a, S, t1, pre1, l1⟩) := Lib.hid (by rw [← hZ]; exact HED.out.setC S)
        have HOZ : Hid (Only P w Z) := Lib.hid (by rw [← hZ]; exact HOD.out.setCell (p := ⟨p, 1, none⟩) HED.out.p _)
        have PU := Lib.hid (put_any HEZ.out hcs HL.out.1 (by have := HL.out.2; have := HM.out; simp only at *; omega) (fun k hk => HPn.out k (Nat.le_trans HOZ.out.size hk)))
        have hwr : IntKind.u32.wrap (S : Int) = (S : Int) := IntWalk.u32_in _ (by omega)
        have hss := HSS.out
        clear HED HOD
        go_wp2_with fail
        refine PU.out.mono ?_
        rintro x W6 ⟨rfl, he6, o6⟩
        rw [mPut_any a S t1 pre1 l1 1] at he6
        have hmp : mSt ⟨a, c, ct, pre, last⟩ (j + 1) = mPut ⟨1, S, 0, pre1, l1⟩ := by rw [HN.out, ← HSE.out, ← HA1.out]; rfl
        rw [← hmp] at he6
        have HE6 := Lib.hid he6
        have HO6 : Hid (Only P w W6) := Lib.hid (HOZ.out.trans o6)
        clear he6 o6 hmp PU
        go_wp2
        exact ⟨⟨j + 1, by omega, by go_num, HE6.out, HO6.out⟩, by simp [intOf]; omega⟩
      · obtain rfl : j = 2 := by omega
        rw [mSt_end] at hE HI
        have h2 : ¬ (((2 : Nat) : Int)) < 2 := by omega
        have hcode : mCode ⟨a, c, ct, pre, last⟩ = if (mEnd ⟨a, c, ct, pre, last⟩).last = 255 then (mEnd ⟨a, c, ct, pre, last⟩).pre.tail else (mEnd ⟨a, c, ct, pre, last⟩).pre.tail ++ [(mEnd ⟨a, c, ct, pre, last⟩).last] := rfl
        have hln := mEnd_len ⟨a, c, ct, pre, last⟩
        obtain ⟨st, hst⟩ : ∃ st, mEnd ⟨a, c, ct, pre, last⟩ = st := ⟨_, rfl⟩
        rw [hst] at hE HI hcode hln
        obtain ⟨a1, c1, t1, pre1, l1⟩ := st
        simp only at hcode hln
        obtain ⟨hp, V, hb, hv, hV⟩ := hE
        obtain ⟨m, hm⟩ : ∃ m, pre1.length = m + 2 := ⟨pre1.length - 2, by omega⟩
        simp only [wA] at hb hv
        rw [hm] at hv
        obtain ⟨g, cap, rfl, _, hgl, hcl, hcm⟩ := own_form hv (by omega)
        have k3 := hb.c3
        have hl1 : l1 ≤ 255 := HI.out.l1
        have L0 := Lst.own hv
        have L1 : Lst wr wr.heap.size (some ⟨g, 1, none⟩) (pre1.tail.map bv ++ [bv l1]) := by
          have := L0.drop (k := 1) rfl
          rw [Nat.zero_add] at this
          have e : ((pre1 ++ [l1]).map bv).drop 1 = pre1.tail.map bv ++ [bv l1] := by
            rcases pre1 with _ | ⟨x, pre1⟩
            · simp at hm
            · simp
          rw [e] at this
          exact this
        have htl : (pre1.tail.map bv).length = m + 1 := by simp [hm]
        have f1 : wr.cell? ⟨g, 1 + (m + 1), none⟩ = some (bv l1) := by
          obtain ⟨b, o, e, _, h⟩ := L1 (m + 1) (bv l1) (by rw [List.getElem?_append_right (by omega), htl]; simp)
          injection e with e
          injection e with e1 e2
          subst e1 e2
          exact h
        unfold bv at f1
        have hcap : 1 < cap := by omega
        have hmb : m ≤ 70000 := by have := HM.out; omega
        have im1 : (0 : Int) ≤ (m : Int) + 1 := by omega
        have im2 : (m : Int) + 1 < (m : Int) + 2 := by omega
        have im3 : (m : Int) < (m : Int) + 1 := by omega
        have im4 : (0 : Int) ≤ (m : Int) := by omega
        have HL1 := Lib.hid L1
        have HTL := Lib.hid htl
        have HCO := Lib.hid hcode
        clear L0 L1 hst hb hv hV hcode hln htl HI hm
        by_cases h255 : l1 = 255
        · have e1 : ((l1 : Int) == 255) = true := by simp; omega
          have CL := Lib.hid (clone_u8 (some ⟨g, 1, none⟩) (m + 1) (cap - 1) (pre1.tail.map bv) wr.heap.size wr HTL.out (fun h => by cases h) (by
            have := HL1.out.take (m + 1)
            rw [List.take_left' HTL.out] at this
            exact this) (fun u hu => by
              obtain ⟨x, _, rfl⟩ := List.mem_map.1 hu
              rfl) (by omega))
          have hc2 := HCO.out
          rw [if_pos h255] at hc2
          have HC2 := Lib.hid hc2
          clear h255 hc2
          go_wp2_with fail
          refine CL.out.mono ?_
          rintro x W7 ⟨V7, rfl, ho7, b7⟩
          have HO7 := Lib.hid (own_low ho7 HOW.out.size)
          have HB7 : Hid (Only P w W7) := Lib.hid (HOW.out.trans (Only.of_below b7 (fun k hk => HPn.out k (Nat.le_trans HOW.out.size hk))))
          clear ho7 b7 CL
          go_wp2
          go_ret
          rw [HC2.out]
          refine ⟨V7, rfl, ?_, HB7.out⟩
          have h7 := HO7.out
          have hl := HTL.out
          rw [List.length_map] at hl
          rw [hl]
          exact h7
        · have e1 : ((l1 : Int) == 255) = false := by simp; omega
          have CL := Lib.hid (clone_u8 (some ⟨g, 1, none⟩) (m + 2) (cap - 1) (pre1.tail.map bv ++ [bv l1]) wr.heap.size wr (by rw [List.length_append, HTL.out]; rfl) (fun h => by cases h) HL1.out (fun u hu => by
              rcases List.mem_append.1 hu with hu | hu
              · obtain ⟨x, _, rfl⟩ := List.mem_map.1 hu
                rfl
              · rw [List.mem_singleton.1 hu]; rfl) (by omega))
          have hc2 := HCO.out
          rw [if_neg h255] at hc2
          have HC2 := Lib.hid hc2
          clear h255 hc2
          go_wp2_with fail
          refine CL.out.mono ?_
          rintro x W7 ⟨V7, rfl, ho7, b7⟩
          have HO7 := Lib.hid (own_low ho7 HOW.out.size)
          have HB7 : Hid (Only P w W7) := Lib.hid (HOW.out.trans (Only.of_below b7 (fun k hk => HPn.out k (Nat.le_trans HOW.out.size hk))))
          clear ho7 b7 CL
          go_wp2
          go_ret
          rw [HC2.out]
          refine ⟨V7, rfl, ?_, HB7.out⟩
          have h7 := HO7.out
          have hl := HTL.out
          rw [List.length_map] at hl
          rw [List.length_append, hl, List.map_append]
          exact h7
end Go.Proofs.YtdgkeghgfibolaaDoor
