/- The decoder of package mq: renorm. -/
import Derived.Test.YtdgkeghgfibolaaDoorMqD
set_option linter.unusedVariables false
set_option linter.unusedSimpArgs false
namespace Go.Proofs.YtdgkeghgfibolaaDoor
open Go.RowKit

set_option maxRecDepth 100000 in
set_option maxHeartbeats 4000000 in
theorem drenorm_any {P : Nat → Prop} {w : World} {p : Nat} {d : D} {bs : List Nat} (h : DW P w p d bs) (h1 : 1 ≤ d.a) (ha : d.a < 32768) (hct : d.ct ≤ 8) (hat : d.at_ ≤ 150000) :
    Calls Tryd.prog 42 #[.pointer (some ⟨p, 0, none⟩)] w fun x w' => x = .returned (.tuple #[]) ∧ DW P w' p (dNorm (fB bs) 16 d) bs ∧ Only P w w' := by
  have h0 : Rd P w p bs (dNorm (fB bs) 16 d) w := ⟨16, d, h, h1, ha, hct, by omega, rfl, by omega, Only.refl _ _⟩
  have H0 := Lib.hid h0
  generalize dNorm (fB bs) 16 d = D1 at *
  clear h h1 ha hct hat h0
  go_enter Tryd.func42, Tryd.ntmps42
  go_wp2
  go_loopw [] (fun wr => Rd P w p bs D1 wr) (fun wr => daOf p wr)
  case atStart => exact H0.out
  case round =>
    obtain ⟨n, d, hD, ha1, ha, hct, hn, hnm, hln, hO⟩ := hrel
    have hO1 := Lib.hid hO
    have hmes := Lib.hid hD.aOf
    have NX := Lib.hid (fun w2 (ho : Only P w w2) (h : DW P w2 p (dTick (fB bs) d) bs) => Rd.next (w := w) ha1 ha hct hn hnm hln ho h)
    have hat : d.at_ ≤ 200000 := by omega
    have k2 := hD.c2
    have HDD := Lib.hid hD
    clear hO hD hn hnm H0 hln
    by_cases h0 : d.ct = 0
    · have TK := Lib.hid (take_any HDD.out hat)
      have HT : Hid (dTick (fB bs) d = dDbl (dTake (fB bs) d)) := Lib.hid (by unfold dTick; rw [if_pos h0])
      rw [h0] at k2
      have HDA := Lib.hid (dTake_a (fB bs) d)
      have HDC := Lib.hid (dTake_ct (fB bs) d)
      clear h0 hct hat
      go_wp2_with fail
      refine TK.out.mono ?_
      rintro x W1 ⟨rfl, hd, ho⟩
      have O1 := Lib.hid (hO1.out.trans ho)
      have HD := Lib.hid hd
      obtain ⟨dd, hdd⟩ : ∃ dd, dTake (fB bs) d = dd := ⟨_, rfl⟩
      rw [hdd] at HD HT HDA HDC
      clear hd ho hdd TK k2
      have DB := Lib.hid (ddbl_any HD.out (by rw [HDA.out]; omega) (by have := HDC.out; omega) (by have := HDC.out; omega))
      go_wp2_with fail
      refine DB.out.mono ?_
      rintro x W2 ⟨rfl, hd2, ho2⟩
      have htk : dTick (fB bs) d = dDbl dd := HT.out
      rw [← htk] at hd2
      have k0 := hd2.c0
      rw [dTick_a] at k0
      have X := NX.out W2 (O1.out.trans ho2) hd2
      rw [dTick_a] at X
      have m2 := hd2.aOf
      rw [dTick_a] at m2
      have hae : d.a < 2 * d.a := by omega
      have M2 := Lib.hid m2
      have HAE := Lib.hid (And.intro hae ha)
      obtain ⟨A2, hA2⟩ : ∃ A2, 2 * d.a = A2 := ⟨_, rfl⟩
      rw [hA2] at k0 X M2 HAE
      have HX := Lib.hid X
      clear X hd2 ho2 m2 hA2 hae ha htk DB
      by_cases hh : 32768 ≤ A2
      · have e1 : (32768 : Int) ≤ (A2 : Int) := by omega
        have HH := Lib.hid hh
        clear hh
        go_wp2
        refine bodyPost_ret (v := .tuple #[]) (by simp [results, Tryd.results42, go_sem]) rfl ?_
        exact ⟨rfl, HX.out.1 HH.out⟩
      · have e1 : decide ((32768 : Int) ≤ (A2 : Int)) = false := by simp; omega
        have HH := Lib.hid hh
        clear hh
        go_wp2
        exact ⟨HX.out.2 (by have := HH.out; omega), by rw [M2.out, hmes.out]; have := HAE.out; have := HH.out; omega⟩
    · have HT : Hid (dTick (fB bs) d = dDbl d) := Lib.hid (by unfold dTick; rw [if_neg h0])
      obtain ⟨c', hc'⟩ : ∃ c', d.ct = c' := ⟨_, rfl⟩
      rw [hc'] at k2 h0 hct
      have e0 : ((c' : Int) == 0) = false := by simp; omega
      have HDA : Hid (d.a = d.a) := Lib.hid rfl
      have HDC : Hid (1 ≤ d.ct ∧ d.ct ≤ 8) := Lib.hid (by omega)
      have O1 := Lib.hid hO1.out
      have HD := Lib.hid HDD.out
      clear h0 hct hat hc'
      have DB := Lib.hid (ddbl_any HD.out (by rw [HDA.out]; omega) (by have := HDC.out; omega) (by have := HDC.out; omega))
      go_wp2_with fail
      refine DB.out.mono ?_
      rintro x W2 ⟨rfl, hd2, ho2⟩
      have htk : dTick (fB bs) d = dDbl d := HT.out
      rw [← htk] at hd2
      have k0 := hd2.c0
      rw [dTick_a] at k0
      have X := NX.out W2 (O1.out.trans ho2) hd2
      rw [dTick_a] at X
      have m2 := hd2.aOf
      rw [dTick_a] at m2
      have hae : d.a < 2 * d.a := by omega
      have M2 := Lib.hid m2
      have HAE := Lib.hid (And.intro hae ha)
      obtain ⟨A2, hA2⟩ : ∃ A2, 2 * d.a = A2 := ⟨_, rfl⟩
      rw [hA2] at k0 X M2 HAE
      have HX := Lib.hid X
      clear X hd2 ho2 m2 hA2 hae ha htk DB
      by_cases hh : 32768 ≤ A2
      · have e1 : (32768 : Int) ≤ (A2 : Int) := by omega
        have HH := Lib.hid hh
        clear hh
        go_wp2
        refine bodyPost_ret (v := .tuple #[]) (by simp [results, Tryd.results42, go_sem]) rfl ?_
        exact ⟨rfl, HX.out.1 HH.out⟩
      · have e1 : decide ((32768 : Int) ≤ (A2 : Int)) = false := by simp; omega
        have HH := Lib.hid hh
        clear hh
        go_wp2
        exact ⟨HX.out.2 (by have := HH.out; omega), by rw [M2.out, hmes.out]; have := HAE.out; have := HH.out; omega⟩

end Go.Proofs.YtdgkeghgfibolaaDoor
