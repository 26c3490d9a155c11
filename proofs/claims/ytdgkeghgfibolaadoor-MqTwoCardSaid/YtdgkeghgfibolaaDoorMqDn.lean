/- A new decoder of package mq. -/
import Derived.Test.YtdgkeghgfibolaaDoorMqR
set_option linter.unusedVariables false
set_option linter.unusedSimpArgs false
namespace Go.Proofs.YtdgkeghgfibolaaDoor
open Go.RowKit

def dNew (f : Nat → Nat) : D := ⟨32768, wrap64 ((dTake f ⟨0, (f 0 : Nat) * 65536, 0, 0⟩).c * 128), (dTake f ⟨0, (f 0 : Nat) * 65536, 0, 0⟩).ct - 7, (dTake f ⟨0, (f 0 : Nat) * 65536, 0, 0⟩).at_⟩
set_option maxHeartbeats 4000000 in
theorem dnew_any {w : World} {A : Option Addr} {c : Nat} {bs : List Nat} {B : Nat} (hb : ∀ x ∈ bs, x ≤ 255) (hA : A = none → bs.length = 0 ∧ c = 0) (h : Lst w B A (bs.map bv)) (hn : bs.length ≤ 100000) :
    Calls Tryd.prog 26 #[.slice A bs.length c] w fun x w' => ∃ p, x = .returned (.pointer (some ⟨p, 0, none⟩)) ∧ DW (fun k => w.heap.size ≤ k ∧ k < w'.heap.size) w' p (dNew (fB bs)) bs ∧ Below w.heap.size w w' := by
  have CL := Lib.hid (clone_u8 A bs.length c (bs.map bv) B w (by simp) hA h (fun u hu => by
    obtain ⟨x, _, rfl⟩ := List.mem_map.1 hu
    rfl) (by omega))
  have HBS := Lib.hid (And.intro hb hn)
  clear hb hA h hn
  go_enter Tryd.func26, Tryd.ntmps26
  go_wp2_with fail
  refine CL.out.mono ?_
  rintro x w1 ⟨V, rfl, ho1, b1⟩
  obtain ⟨A1, cv, rfl, _⟩ := own_any ho1
  obtain ⟨W2, hW2⟩ : ∃ W2, w1.alloc (Obj.cells #[.int .i64 0, .int .i64 0, .int .i64 0, .slice A1 bs.length cv, .int .i64 0] 78) = W2 := ⟨_, rfl⟩
  have HD2 : Hid (DW (fun k => w.heap.size ≤ k) W2 w1.heap.size ⟨0, 0, 0, 0⟩ bs) := Lib.hid (by
    rw [← hW2]
    exact ⟨b1.size, HBS.out.1, HBS.out.2, _, heap_alloc_new w1 _, (own_zero ho1).alloc _, fun k hk => (own_lt ho1 hk).1⟩)
  have B2 : Hid (Below w.heap.size w W2) := Lib.hid (by rw [← hW2]; exact b1.alloc b1.size _)
  have z1 := HD2.out.z 1
  have k1 := HD2.out.c1
  have BA := Lib.hid (byteAt_any HD2.out 0)
  have f0 := HD2.out.fb 0
  clear ho1 b1 CL
  go_wp2_with fail
  refine BA.out.mono ?_
  rintro x w3 ⟨rfl, rfl⟩
  have HBL := Lib.hid f0
  obtain ⟨F, hF⟩ : ∃ F, fB bs 0 = F := ⟨_, rfl⟩
  rw [hF] at f0 HBL BA ⊢
  have f0' : (F : Int) ≤ 255 := by omega
  have f00 : (0 : Int) ≤ (F : Int) := by omega
  obtain ⟨W3, hW3⟩ : ∃ W3, W2.setCell ⟨w1.heap.size, 1, none⟩ (.int .i64 ((F : Int) * 65536)) = W3 := ⟨_, rfl⟩
  have HD3 : Hid (DW (fun k => w.heap.size ≤ k) W3 w1.heap.size ⟨0, (F : Int) * 65536, 0, 0⟩ bs) := Lib.hid (by rw [← hW3]; exact HD2.out.sc _)
  have B3 : Hid (Below w.heap.size w W3) := Lib.hid (by rw [← hW3]; exact B2.out.setCell HD2.out.pp _)
  have TK := Lib.hid (take_any HD3.out (by simp))
  have HFF := Lib.hid hF
  clear BA hF
  go_wp2_with fail
  refine TK.out.mono ?_
  rintro x W4 ⟨rfl, hd4, o4⟩
  have hct := dTake_ct (fB bs) ⟨0, (F : Int) * 65536, 0, 0⟩
  have hnew : dNew (fB bs) = ⟨32768, wrap64 ((dTake (fB bs) ⟨0, (F : Int) * 65536, 0, 0⟩).c * 128), (dTake (fB bs) ⟨0, (F : Int) * 65536, 0, 0⟩).ct - 7, (dTake (fB bs) ⟨0, (F : Int) * 65536, 0, 0⟩).at_⟩ := by
    unfold dNew; rw [HFF.out]
  obtain ⟨dd, hdd⟩ : ∃ dd, dTake (fB bs) ⟨0, (F : Int) * 65536, 0, 0⟩ = dd := ⟨_, rfl⟩
  rw [hdd] at hd4 hct hnew
  obtain ⟨a, c', ct, at_⟩ := dd
  simp only at hct hnew
  obtain ⟨ct, rfl⟩ : ∃ n, ct = n + 7 := ⟨ct - 7, by omega⟩
  have q0 := hd4.c0
  have q1 := hd4.c1
  have q2 := hd4.c2
  have y0 := hd4.z 0
  have y1 := hd4.z 1
  have y2 := hd4.z 2
  simp only at q0 q1 q2
  have HD4 := Lib.hid hd4
  have O4 : Hid (Below w.heap.size w W4) := Lib.hid (B3.out.trans ((Only.below o4 (lo := w.heap.size) (fun k hk => hk))))
  have hctb : (ct : Int) ≤ 1 := by omega
  have HN := Lib.hid hnew
  have HCT := Lib.hid hct
  clear hd4 o4 hnew hdd hct TK
  go_wp2
  go_ret
  rw [HN.out]
  have hfin := ((HD4.out.sc (wrap64 (c' * 128))).st ct).sa 32768
  rw [show ct + 7 - 7 = ct by omega]
  rw [show (((32768 : Nat)) : Int) = 32768 from rfl] at hfin
  exact ⟨_, rfl, DW.imp (P := fun k => w.heap.size ≤ k) (Q := fun k => w.heap.size ≤ k ∧ k < _) hfin (fun k hk hPk => And.intro hPk hk), ((O4.out.setCell HD2.out.pp _).setCell HD2.out.pp _).setCell HD2.out.pp _⟩
end Go.Proofs.YtdgkeghgfibolaaDoor
