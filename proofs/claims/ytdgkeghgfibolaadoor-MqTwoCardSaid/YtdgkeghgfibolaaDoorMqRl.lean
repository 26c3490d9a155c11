/- The reference's encoder: its end. -/
import Derived.Test.YtdgkeghgfibolaaDoorMqRe
import Derived.Test.YtdgkeghgfibolaaDoorMqL
set_option linter.unusedVariables false
set_option linter.unusedSimpArgs false
namespace Go.Proofs.YtdgkeghgfibolaaDoor
open Go.RowKit

theorem own_cut {w : World} {base : Nat} {e : TypeId} {size n g cap : Nat} {xs : List Value} (h : w.ownsRow base e size (.slice (some ⟨g, 0, none⟩) n cap) n xs) {k : Nat} (hk : k ≤ n) : w.ownsRow base e size (.slice (some ⟨g, 0, none⟩) k cap) k (xs.take (k * size)) := by
  have hkn : k * size ≤ n * size := Nat.mul_le_mul_right _ hk
  refine ⟨by rw [List.length_take, h.1]; omega, ?_⟩
  rcases h.2 with ⟨h, _⟩ | ⟨g', cap', cur, hv, hg, r1, r2, r3, r4, r5⟩
  · cases h
  · injection hv with e1 e2 e3
    subst e3
    injection e1 with e1
    injection e1 with e1
    subst e1
    exact Or.inr ⟨_, _, cur, rfl, hg, r1, by omega, r3, r4, by rw [← r5, List.take_take, Nat.min_eq_left hkn]⟩
theorem ror_mask (c : Nat) (hc : c < 4294967296) : bits .or .i64 (c : Int) 65535 = ((c / 65536 * 65536 + 65535 : Nat) : Int) := by
  have h := or_mask c hc
  show IntKind.i64.wrap ((BitVec.ofInt 64 (c : Int) ||| BitVec.ofInt 64 (65535 : Int)).toNat : Int) = _
  have e1 : (BitVec.ofInt 64 (c : Int)).toNat = c := by
    rw [BitVec.toNat_ofInt]; omega
  have e2 : (BitVec.ofInt 64 (65535 : Int)).toNat = 65535 := by decide
  rw [BitVec.toNat_or, e1, e2]
  replace h : IntKind.u32.wrap ((BitVec.ofInt 32 (c : Int) ||| BitVec.ofInt 32 (65535 : Int)).toNat : Int) = ((c / 65536 * 65536 + 65535 : Nat) : Int) := h
  have f1 : (BitVec.ofInt 32 (c : Int)).toNat = c := by
    rw [BitVec.toNat_ofInt]; omega
  have f2 : (BitVec.ofInt 32 (65535 : Int)).toNat = 65535 := by decide
  rw [BitVec.toNat_or, f1, f2] at h
  have hlt : c ||| 65535 < 4294967296 := Nat.or_lt_two_pow (n := 32) hc (by decide)
  rw [IntWalk.u32_in _ (by omega)] at h
  rw [h]
  exact IntWalk.i64_in _ (by omega)
set_option maxRecDepth 100000 in
set_option maxHeartbeats 4000000 in
theorem rflush_any {P : Nat → Prop} {w : World} {p : Nat} {e : E} (h : RW P w p e) (f : Fine e) (hml : e.pre.length ≤ 70000) (hP : ∀ k, w.heap.size ≤ k → P k) :
    Calls Tryd.prog 25 #[.pointer (some ⟨p, 0, none⟩)] w fun x w' => ∃ V, x = .returned V ∧ w'.ownsRow w.heap.size 5 1 V (mCode e).length ((mCode e).map bv) ∧ Only P w w' := by
  have k0 := h.c0
  have k1 := h.c1
  have z1 := h.z 1
  have c28 := f.toInv.c28
  have a2 := f.a2
  have HF := Lib.hid f
  have HM := Lib.hid hml
  have HPn := Lib.hid hP
  have HE := Lib.hid h
  clear f hml hP h
  go_enter Tryd.func25, Tryd.ntmps25
  obtain ⟨a, c, ct, pre, last⟩ := e
  simp only at k0 k1 c28 a2
  have hor := ror_mask c (by omega)
  go_wp2
  go_quiet (fail)
  obtain ⟨W, hW⟩ : ∃ W, w.drewN nq = W := ⟨_, rfl⟩
  have HX : Hid (RW P W p ⟨a, c, ct, pre, last⟩) := Lib.hid (by rw [← hW]; exact HE.out)
  have O1 : Hid (Only P w W) := Lib.hid (by rw [← hW]; exact only_drewN (Only.refl _ _) nq)
  rw [hW]
  have k1 := HX.out.c1
  have z1 := HX.out.z 1
  simp only at k1
  clear hW HE k0
  go_upto_if 28 with fail
  obtain ⟨C, hC⟩ : ∃ C, c / 65536 * 65536 + 65535 = C := ⟨_, rfl⟩
  have hCi : (c : Int) / 65536 * 65536 + 65535 = (C : Int) := by omega
  rw [hCi]
  obtain ⟨X, hX⟩ : ∃ X, W.setCell ⟨p, 1, none⟩ (.int .i64 (C : Int)) = X := ⟨_, rfl⟩
  have H1 : Hid (RW P X p ⟨a, C, ct, pre, last⟩) := Lib.hid (by rw [← hX]; exact HX.out.setC C)
  have O2 : Hid (Only P w X) := Lib.hid (by rw [← hX]; exact O1.out.setCell (p := ⟨p, 1, none⟩) HX.out.p _)
  rw [hX]
  have HCC := Lib.hid hC
  obtain ⟨tb, htb⟩ : ∃ tb, decide ((c : Int) + (a : Int) ≤ (C : Int)) = tb := ⟨_, rfl⟩
  rw [htb]
  have HTB := Lib.hid htb
  clear hX hCi hC hor k1 z1 htb
  go_cut [] from 29 to 37 (fun wx => RW P wx p (wA (mSt ⟨a, c, ct, pre, last⟩ 0) a) ∧ Only P w wx)
  case first =>
    have y1 := H1.out.c1
    have yz := H1.out.z 1
    simp only at y1
    have hC := HCC.out
    have hs : mSt ⟨a, c, ct, pre, last⟩ 0 = ⟨1, if c + a ≤ C then C - 32768 else C, ct, pre, last⟩ := congrArg (fun z => (⟨1, z, ct, pre, last⟩ : E)) (mSet_code c a C hC)
    have HS0 := Lib.hid hs
    have HCB : Hid (C < 4294967296 ∧ 32768 ≤ C) := Lib.hid (by omega)
    clear hC hs
    by_cases h : c + a ≤ C
    · rw [if_pos h] at HS0
      obtain rfl : tb = true := by rw [← HTB.out]; simp; omega
      have HS := Lib.hid (H1.out.setC (C - 32768))
      have OS := Lib.hid (O2.out.setCell (p := ⟨p, 1, none⟩) HX.out.p (.int .i64 ((C : Int) - 32768)))
      have hcb : (32768 : Int) ≤ (C : Int) := by have := HCB.out.2; omega
      have hcu : (C : Int) < 4294967296 := by have := HCB.out.1; omega
      clear h
      go_wp2
      go_meet
      have h1 := HS.out
      rw [show ((C - 32768 : Nat) : Int) = (C : Int) - 32768 by omega] at h1
      rw [HS0.out]
      exact ⟨h1, OS.out⟩
    · rw [if_neg h] at HS0
      obtain rfl : tb = false := by rw [← HTB.out]; simp; omega
      clear h
      go_wp2
      go_meet
      rw [HS0.out]
      exact ⟨H1.out, O2.out⟩
  case rest =>
    obtain ⟨hE, hO⟩ := hcut
    have HE := Lib.hid hE
    have HO := Lib.hid hO
    clear hE hO H1 O2 O1 HX
    go_wp2
    go_loopw [4] (fun i wr => ∃ j : Nat, j ≤ 2 ∧ i = .int .i64 (j : Int) ∧ RW P wr p (wA (mSt ⟨a, c, ct, pre, last⟩ j) a) ∧ Only P w wr) (fun i _ => 2 - (intOf i).toNat)
    case atStart => exact ⟨0, by omega, rfl, HE.out, HO.out⟩
    case round =>
      obtain ⟨j, hj, rfl, hE, hO⟩ := hrel
      have HI := Lib.hid (mSt_inv HF.out j)
      have HOW := Lib.hid hO
      clear HE HO hO
      by_cases hlt : j < 2
      · have h2 : (j : Int) < 2 := by omega
        have hsh := Lib.hid (HI.out.shift (mSt_a _ j))
        have hln := mSt_len ⟨a, c, ct, pre, last⟩ j
        have hnx : mSt ⟨a, c, ct, pre, last⟩ (j + 1) = mPut (mShift (mSt ⟨a, c, ct, pre, last⟩ j)) := rfl
        obtain ⟨st, hst⟩ : ∃ st, mSt ⟨a, c, ct, pre, last⟩ j = st := ⟨_, rfl⟩
        rw [hst] at hE hsh HI hln hnx
        obtain ⟨a1, c1, t1, pre1, l1⟩ := st
        have hcs : c1 * 2 ^ t1 < 268435456 := by have := hsh.out.c28; exact this
        have ht1 : t1 ≤ 12 := HI.out.ct1
        have hl1 : l1 ≤ 255 := HI.out.l1
        have HL := Lib.hid (And.intro hl1 hln)
        have hc1 : c1 < 268435456 := HI.out.c28
        have k1 := hE.c1
        have k2 := hE.c2
        have z1 := hE.z 1
        obtain ⟨S, hS⟩ : ∃ S, c1 * 2 ^ t1 = S := ⟨_, rfl⟩
        rw [hS] at hcs
        have HSE := Lib.hid hS
        have HEE := Lib.hid hE
        have HN := Lib.hid hnx
        have HSS : Hid ((c1 : Int) * 2 ^ t1 = (S : Int)) := Lib.hid (by rw [← hS]; simp)
        simp only [wA] at k1 k2
        have HT12 : Hid (min t1 64 = t1) := Lib.hid (by omega)
        have ht0 : ¬ ((t1 : Int) < 0) := by omega
        have ht2 : (0 : Int) ≤ (t1 : Int) := by omega
        have HA1 : Hid (a1 = 1) := Lib.hid (by have := mSt_a ⟨a, c, ct, pre, last⟩ j; rw [hst] at this; exact this)
        clear hst hS hnx hE hl1 hln hsh HI
        go_wp2
        go_still_tail 13, (by kernel_rfl)
        change wpList _ _ _ _ _ wr.drew
        have z1 : wr.drew.frozen? ⟨p, 1, none⟩ = false := z1
        have k1 : wr.drew.cell? ⟨p, 1, none⟩ = some (.int .i64 (c1 : Int)) := k1
        have HED : Hid (RW P wr.drew p (wA ⟨a1, c1, t1, pre1, l1⟩ a)) := HEE.out
        have HOD : Hid (Only P w wr.drew) := only_drewN HOW.out 1
        generalize wr.drew = Y at *
        clear k2 HEE HOW
        obtain ⟨Z, hZ⟩ : ∃ Z, Y.setCell ⟨p, 1, none⟩ (.int .i64 (S : Int)) = Z := ⟨_, rfl⟩
        have HEZ : Hid (RW P Z p ⟨a, S, t1, pre1, l1⟩) := Lib.hid (by rw [← hZ]; exact HED.out.setC S)
        have HOZ : Hid (Only P w Z) := Lib.hid (by rw [← hZ]; exact HOD.out.setCell (p := ⟨p, 1, none⟩) HED.out.p _)
        have PU := Lib.hid (rput_any HEZ.out hcs HL.out.1 (by have := HL.out.2; have := HM.out; simp only at *; omega) (fun k hk => HPn.out k (Nat.le_trans HOZ.out.size hk)))
        have hwr : wrap64 ((c1 : Int) * 2 ^ min t1 64) = (S : Int) := by rw [HT12.out, HSS.out]; unfold wrap64; omega
        clear HED HOD
        go_wp2_with fail
        refine PU.out.mono ?_
        rintro x W6 ⟨rfl, he6, o6⟩
        rw [mPut_any a S t1 pre1 l1 1] at he6
        have hmp : mSt ⟨a, c, ct, pre, last⟩ (j + 1) = mPut ⟨1, S, 0, pre1, l1⟩ := by rw [HN.out, ← HSE.out, ← HA1.out]; rfl
        rw [← hmp] at he6
        have HE6 := Lib.hid he6
        have HO6 : Hid (Only P w W6) := Lib.hid (HOZ.out.trans o6)
        clear he6 o6 hmp PU
        go_wp2
        exact ⟨⟨j + 1, by omega, by go_num, HE6.out, HO6.out⟩, by simp [intOf]; omega⟩
      · obtain rfl : j = 2 := by omega
        rw [mSt_end] at hE HI
        have h2 : ¬ (((2 : Nat) : Int)) < 2 := by omega
        have hcode : mCode ⟨a, c, ct, pre, last⟩ = if (mEnd ⟨a, c, ct, pre, last⟩).last = 255 then (mEnd ⟨a, c, ct, pre, last⟩).pre.tail else (mEnd ⟨a, c, ct, pre, last⟩).pre.tail ++ [(mEnd ⟨a, c, ct, pre, last⟩).last] := rfl
        have hln := mEnd_len ⟨a, c, ct, pre, last⟩
        obtain ⟨st, hst⟩ : ∃ st, mEnd ⟨a, c, ct, pre, last⟩ = st := ⟨_, rfl⟩
        rw [hst] at hE HI hcode hln
        obtain ⟨a1, c1, t1, pre1, l1⟩ := st
        simp only at hcode hln
        obtain ⟨hp, V, hb, hv, hV⟩ := hE
        obtain ⟨m, hm⟩ : ∃ m, pre1.length = m + 2 := ⟨pre1.length - 2, by omega⟩
        simp only [wA] at hb hv
        rw [hm] at hv
        obtain ⟨g, cap, rfl, _, hgl, hcl, hcm⟩ := own_form hv (by omega)
        have k3 := hb.c3
        have hl1 : l1 ≤ 255 := HI.out.l1
        have L0 := Lst.own hv
        have L1 : Lst wr wr.heap.size (some ⟨g, 1, none⟩) (pre1.tail.map bv ++ [bv l1]) := by
          have := L0.drop (k := 1) rfl
          rw [Nat.zero_add] at this
          have e : ((pre1 ++ [l1]).map bv).drop 1 = pre1.tail.map bv ++ [bv l1] := by
            rcases pre1 with _ | ⟨x, pre1⟩
            · simp at hm
            · simp
          rw [e] at this
          exact this
        have htl : (pre1.tail.map bv).length = m + 1 := by simp [hm]
        have f1 : wr.cell? ⟨g, 1 + (m + 1), none⟩ = some (bv l1) := by
          obtain ⟨b, o, e, _, h⟩ := L1 (m + 1) (bv l1) (by rw [List.getElem?_append_right (by omega), htl]; simp)
          injection e with e
          injection e with e1 e2
          subst e1 e2
          exact h
        unfold bv at f1
        have hcap : 1 < cap := by omega
        have hmb : m ≤ 70000 := by have := HM.out; omega
        have im1 : (0 : Int) ≤ (m : Int) + 1 := by omega
        have im2 : (m : Int) + 1 < (m : Int) + 2 := by omega
        have im3 : (m : Int) < (m : Int) + 1 := by omega
        have im4 : (0 : Int) ≤ (m : Int) := by omega
        have HL1 := Lib.hid L1
        have HTL := Lib.hid htl
        have HCO := Lib.hid hcode
        obtain ⟨i0, hi, hz0, hz1, hz2⟩ := info_parts Tryd.info5
        have hsz := HOW.out.size
        have k3 : (wr.alloc (Obj.cells #[] 5)).cell? ⟨p, 3, none⟩ = some (.slice (some ⟨g, 0, none⟩) (m + 2 + 1) cap) := (World.cell?_alloc_lt wr _ _ hb.lt).trans (by simpa [hm] using k3)
        have HXS : Hid (∀ u ∈ pre1.tail.map bv ++ [bv l1], u.oneCell' = true) := Lib.hid (fun u hu => by
          rcases List.mem_append.1 hu with hu | hu
          · obtain ⟨x, _, rfl⟩ := List.mem_map.1 hu
            rfl
          · rw [List.mem_singleton.1 hu]; rfl)
        obtain ⟨XS, hXS⟩ : ∃ XS, pre1.tail.map bv ++ [bv l1] = XS := ⟨_, rfl⟩
        have HXN : Hid (XS.length = m + 2) := Lib.hid (by rw [← hXS, List.length_append, HTL.out]; rfl)
        have HXL : Hid (XS[m + 1]? = some (bv l1)) := Lib.hid (by rw [← hXS, List.getElem?_append_right (by have := HTL.out; omega), HTL.out]; simp)
        rw [hXS] at HL1 HXS
        have HXE := Lib.hid hXS
        clear L0 L1 hst hb hv hV hcode hln htl HI hm f1 hXS
        go_wp2_with (at_builtin; refine wpList_append_own _ rfl (.tmp 56) (.tmp 61) 44 rfl wr.heap.size 5 i0 (.int .u8 0) 1 1 Tryd.underlying44 hi hz0 hz1 hz2 rfl (by decide) (.slice (some ⟨wr.heap.size, 0, none⟩) 0 0) 0 [] rfl (World.ownsRow_made wr #[] 0 (Nat.le_refl _) (by unfold maxLen; omega) rfl) ⟨g, 1, none⟩ (m + 2) (cap - 1) XS rfl ?k1 ?k2 HXS.out ?k3 ?k4 ?k5 ?_)
        case k1 => simpa using HXN.out
        case k2 =>
          intro j u hu
          obtain ⟨b, o, e, _, h⟩ := HL1.out j u hu
          injection e with e
          injection e with e1 e2
          subst e1 e2
          exact h
        case k3 => unfold maxLen; omega
        case k4 => omega
        intro v1 w1 hown hg _
        have B1 : Hid (Only P w w1) := Lib.hid (HOW.out.trans (Only.of_below (((Below.refl _ _).alloc (Nat.le_refl _) _).grown hg (by simp) (by simp [Value.ownBlock])) (fun k hk => HPn.out k (Nat.le_trans hsz hk))))
        have ho : w1.ownsRow w.heap.size 5 1 v1 (m + 2) XS := own_low (by simpa using hown) hsz
        obtain ⟨g9, c9, rfl, _, hgl9, hcl9, hcm9⟩ := own_form ho (by omega)
        have f1 : w1.cell? ⟨g9, m + 1, none⟩ = some (bv l1) := by
          have := ho.cellAt (m + 1) (by omega)
          rw [HXL.out] at this
          simpa using this
        unfold bv at f1
        have HO := Lib.hid ho
        have j1 : (0 : Int) ≤ (m : Int) + 1 := by omega
        have j2 : (m : Int) + 1 < (m : Int) + 2 := by omega
        clear ho hown hg HXS hi hz0 hz1 hz2 k3
        by_cases h255 : l1 = 255
        · have e1 : ((l1 : Int) == 255) = true := by simp; omega
          have hc2 := HCO.out
          rw [if_pos h255] at hc2
          have HC2 := Lib.hid hc2
          clear h255 hc2
          go_wp2
          go_ret
          rw [HC2.out]
          refine ⟨_, rfl, ?_, B1.out⟩
          have h7 := own_cut HO.out (k := m + 1) (by omega)
          rw [Nat.mul_one, ← HXE.out, List.take_left' HTL.out] at h7
          have hl := HTL.out
          rw [List.length_map] at hl
          rw [hl]
          simpa using h7
        · have e1 : ((l1 : Int) == 255) = false := by simp; omega
          have hc2 := HCO.out
          rw [if_neg h255] at hc2
          have HC2 := Lib.hid hc2
          clear h255 hc2
          go_wp2
          go_ret
          rw [HC2.out]
          refine ⟨_, rfl, ?_, B1.out⟩
          have h7 := HO.out
          rw [← HXE.out] at h7
          have hl := HTL.out
          rw [List.length_map] at hl
          rw [List.length_append, hl, List.map_append]
          exact h7
end Go.Proofs.YtdgkeghgfibolaaDoor
