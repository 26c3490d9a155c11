/- BitsOnes, walked. -/
import Derived.Test.YtpobmnbloifpjaaBitStuf
set_option linter.unusedVariables false
namespace Go.Proofs.Ytpobmnbloifpjaa
open Go.RowKit

def onesF (n : Nat) : List Int := bytesF (wrun (List.replicate n 1)).1
def kF (n : Nat) : Nat := 2 * (n / 15) + (if 8 < n % 15 then 2 else if 0 < n % 15 then 1 else 0)
def leftF (n i : Nat) : Nat := n - (15 * (i / 2) + 8 * (i % 2))
def roomF (F : List Int) (i : Nat) : Nat := if i = 0 then 8 else if F.getD (i - 1) 0 = 255 then 7 else 8
def wantO (l r : Nat) : Int := if l < r then (2 ^ l - 1) * 2 ^ (r - l) else 2 ^ r - 1
structure OnesOk (n : Nat) (F : List Int) : Prop where
  le : kF n ≤ F.length
  top : F.length ≤ 40
  done : leftF n (kF n) = 0
  step : ∀ i, i < kF n → 0 < leftF n i ∧ F.getD i 0 = wantO (leftF n i) (roomF F i) ∧ leftF n (i + 1) = (if leftF n i < roomF F i then 0 else leftF n i - roomF F i)
  fin : if 0 < kF n ∧ F.getD (kF n - 1) 0 = 255 then F.length = kF n + 1 ∧ F.getD (kF n) 0 = 0 else F.length = kF n
set_option maxRecDepth 100000 in
theorem ones_all : ∀ n : Fin 200, kF n.val ≤ (onesF n.val).length ∧ (onesF n.val).length ≤ 40 ∧ leftF n.val (kF n.val) = 0 ∧ (∀ i, i < kF n.val → 0 < leftF n.val i ∧ (onesF n.val).getD i 0 = wantO (leftF n.val i) (roomF (onesF n.val) i) ∧ leftF n.val (i + 1) = (if leftF n.val i < roomF (onesF n.val) i then 0 else leftF n.val i - roomF (onesF n.val) i)) ∧ (if 0 < kF n.val ∧ (onesF n.val).getD (kF n.val - 1) 0 = 255 then (onesF n.val).length = kF n.val + 1 ∧ (onesF n.val).getD (kF n.val) 0 = 0 else (onesF n.val).length = kF n.val) := by decide +kernel
theorem ones_ok {n : Nat} (h : n < 200) : OnesOk n (onesF n) := by
  obtain ⟨a, b, c, d, e⟩ := ones_all ⟨n, h⟩
  exact ⟨a, b, c, d, e⟩
theorem wrun_len (bs : List Int) : (wrun bs).1.length ≤ bs.length := by
  have := wfold_len (s := ([], 0)) (by simpa [wrun] using wrun_ok []) bs
  simpa [wrun, wfold] using this
theorem roomF_rng (F : List Int) (i : Nat) : roomF F i = 7 ∨ roomF F i = 8 := by
  unfold roomF
  split
  · exact Or.inr rfl
  · split
    · exact Or.inl rfl
    · exact Or.inr rfl
theorem roomF_succ (F : List Int) (i : Nat) : roomF F (i + 1) = if F.getD i 0 = 255 then 7 else 8 := by
  unfold roomF
  rw [if_neg (by omega)]
  rfl

set_option maxHeartbeats 8000000 in
theorem walk_bitsOnes (a0 : Int) (w : World) (w0 : (Lit.int .i64 a0).wf = true) :
    Calls Try.prog 7 #[.int .i64 a0] w fun e w' => e = .returned (.bool true) ∧ Below w.heap.size w w' := by
  obtain ⟨n, hn, hmx⟩ : ∃ n : Nat, n < 200 ∧ a0 % 200 = (n : Int) := ⟨(a0 % 200).toNat, by omega, by omega⟩
  have HO := Lib.hid (ones_ok hn)
  go_enter Try.func7, Try.ntmps7
  go_wp2_with fail
  refine (known2 _).mono ?_
  rintro e w1 ⟨rfl, b1⟩
  go_wp2_with fail
  refine (within_any _ _ _ (by omega) (by omega)).mono ?_
  rintro e w1' ⟨rfl, rfl⟩
  rw [hmx]
  go_wp2_with fail
  refine (bnew_any _).mono ?_
  rintro e w2 ⟨p, rfl, h2, b2⟩
  have s1 := b1.size
  have b2 := b1.trans (b2.mono s1)
  have H2 : Hid (Wb (fun k => w1.heap.size ≤ k) w2 p [] 0) := Lib.hid (h2.imp (fun k _ hk => hk.1))
  have s2 : w1.heap.size ≤ w2.heap.size := by have := h2.1; omega
  clear b1 h2 hmx
  go_wp2
  go_loopw [4] (fun i wr => ∃ k : Nat, k ≤ n ∧ i = .int .i64 (k : Int) ∧ Wb (fun k => w1.heap.size ≤ k) wr p (wrun (List.replicate k 1)).1 (wrun (List.replicate k 1)).2 ∧ Below w.heap.size w wr ∧ w1.heap.size ≤ wr.heap.size) (fun i _ => n - (intOf i).toNat)
  case atStart => exact ⟨0, by omega, rfl, by simpa [wrun] using H2.out, b2, s2⟩
  case round =>
    obtain ⟨k, kn, rfl, hw, hb, hs⟩ := hrel
    clear H2 b2 s2
    by_cases c1 : k < n
    · have hst : wstep (wrun (List.replicate k 1)) 1 = wrun (List.replicate (k + 1) 1) := by rw [List.replicate_succ', wrun_snoc]
      have ok := wrun_ok (List.replicate k 1)
      have hlk := wrun_len (List.replicate k 1)
      rw [List.length_replicate] at hlk
      have HW := Lib.hid hw
      have c2 : (k : Int) < (n : Int) := by omega
      have HST := Lib.hid hst
      clear hw hst
      go_wp2_with fail
      refine (wb_bit HW.out ok (by omega) (fun k hk => Nat.le_trans hs hk)).mono ?_
      rintro e w3 ⟨rfl, h3, o3⟩
      rw [HST.out] at h3
      have hb3 := hb.trans (o3.below (fun k hk => Nat.le_trans s1 hk))
      have hs3 := Nat.le_trans hs o3.size
      have H3 := Lib.hid h3
      clear HW h3 o3 hb HST ok
      go_wp2
      go_roundw
      case rel => exact ⟨k + 1, by omega, by go_num, H3.out, hb3, hs3⟩
      case measure => simp [intOf] <;> omega
    · obtain rfl : k = n := by omega
      have hlr := wrun_len (List.replicate k 1)
      rw [List.length_replicate] at hlr
      have HW := Lib.hid hw
      clear hw
      go_wp2_with fail
      refine (wb_bytes HW.out (by omega)).mono ?_
      rintro e w3 ⟨v, rfl, hv, b3⟩
      change w3.ownsRow _ _ _ _ (onesF k).length ((onesF k).map _) at hv
      have hones := HO.out
      obtain ⟨A, c, rfl, hA, hcc, hcx⟩ := own_any hv
      have hb3 := hb.trans (b3.mono (Nat.le_trans s1 hs))
      generalize onesF k = F at *
      have HV := Lib.hid (Lst.own hv)
      have h8 : roomF F 0 = 8 := rfl
      have hl0 : leftF k 0 = k := rfl
      have hK1 := hones.le
      have hK2 := hones.top
      clear HO hv HW b3 hb hA
      have HO := Lib.hid hones
      clear hones
      go_wp2
      go_loopw [6, 7, 8] (fun lv rv i wr2 => ∃ m : Nat, i = .int .i64 (m : Int) ∧ lv = .int .i64 ((leftF k m : Nat) : Int) ∧ rv = .int .i64 ((roomF F m : Nat) : Int) ∧ m ≤ kF k ∧ w3 = wr2) (fun _ _ i _ => kF k - (intOf i).toNat)
      case atStart => exact ⟨0, rfl, rfl, rfl, by omega, rfl⟩
      case round =>
        obtain ⟨m, rfl, rfl, rfl, hm0, rfl⟩ := hrel
        by_cases c5 : m < kF k
        · have c7 : (m : Int) < (F.length : Int) := by omega
          have c8 : ¬ (F.length : Int) ≤ (m : Int) := by omega
          obtain ⟨g, og, rfl, _, f6⟩ := lst_at HV.out (k := m) (by omega)
          obtain ⟨e1, e2, e3⟩ := HO.out.step m c5
          have e4 := roomF_succ F m
          have e5 := roomF_rng F m
          rw [e2] at f6 e4
          obtain ⟨l', hl'⟩ : ∃ l', leftF k (m + 1) = l' := ⟨_, rfl⟩
          obtain ⟨r', hr'⟩ : ∃ r', roomF F (m + 1) = r' := ⟨_, rfl⟩
          have HL' := Lib.hid hl'
          have HR' := Lib.hid hr'
          rw [hl'] at e3
          rw [hr'] at e4
          clear e2 hl' hr' h8 hl0
          obtain ⟨l, hl⟩ : ∃ l, leftF k m = l := ⟨_, rfl⟩
          obtain ⟨r, hr⟩ : ∃ r, roomF F m = r := ⟨_, rfl⟩
          rw [hl, hr] at f6 e3 e4 ⊢
          rw [hl] at e1
          rw [hr] at e5
          have HL := Lib.hid hl
          have HR := Lib.hid hr
          clear hl hr
          by_cases c9 : l < r
          · have h7 : l = 1 ∨ l = 2 ∨ l = 3 ∨ l = 4 ∨ l = 5 ∨ l = 6 ∨ l = 7 := by omega
            rw [if_pos c9] at e3
            rcases e5 with rfl | rfl
            · rcases h7 with rfl | rfl | rfl | rfl | rfl | rfl | rfl
              · rw [show wantO 1 7 = 64 from by decide] at f6 e4
                rw [if_neg (by decide)] at e4
                clear c9 e1
                go_wp2
                go_roundw
                case rel => exact ⟨m + 1, by go_num, by rw [HL'.out, e3]; rfl, by rw [HR'.out, e4]; rfl, by omega, by simp⟩
                case measure => simp [intOf] <;> omega
              · rw [show wantO 2 7 = 96 from by decide] at f6 e4
                rw [if_neg (by decide)] at e4
                clear c9 e1
                go_wp2
                go_roundw
                case rel => exact ⟨m + 1, by go_num, by rw [HL'.out, e3]; rfl, by rw [HR'.out, e4]; rfl, by omega, by simp⟩
                case measure => simp [intOf] <;> omega
              · rw [show wantO 3 7 = 112 from by decide] at f6 e4
                rw [if_neg (by decide)] at e4
                clear c9 e1
                go_wp2
                go_roundw
                case rel => exact ⟨m + 1, by go_num, by rw [HL'.out, e3]; rfl, by rw [HR'.out, e4]; rfl, by omega, by simp⟩
                case measure => simp [intOf] <;> omega
              · rw [show wantO 4 7 = 120 from by decide] at f6 e4
                rw [if_neg (by decide)] at e4
                clear c9 e1
                go_wp2
                go_roundw
                case rel => exact ⟨m + 1, by go_num, by rw [HL'.out, e3]; rfl, by rw [HR'.out, e4]; rfl, by omega, by simp⟩
                case measure => simp [intOf] <;> omega
              · rw [show wantO 5 7 = 124 from by decide] at f6 e4
                rw [if_neg (by decide)] at e4
                clear c9 e1
                go_wp2
                go_roundw
                case rel => exact ⟨m + 1, by go_num, by rw [HL'.out, e3]; rfl, by rw [HR'.out, e4]; rfl, by omega, by simp⟩
                case measure => simp [intOf] <;> omega
              · rw [show wantO 6 7 = 126 from by decide] at f6 e4
                rw [if_neg (by decide)] at e4
                clear c9 e1
                go_wp2
                go_roundw
                case rel => exact ⟨m + 1, by go_num, by rw [HL'.out, e3]; rfl, by rw [HR'.out, e4]; rfl, by omega, by simp⟩
                case measure => simp [intOf] <;> omega
              · omega
            · rcases h7 with rfl | rfl | rfl | rfl | rfl | rfl | rfl
              · rw [show wantO 1 8 = 128 from by decide] at f6 e4
                rw [if_neg (by decide)] at e4
                clear c9 e1
                go_wp2
                go_roundw
                case rel => exact ⟨m + 1, by go_num, by rw [HL'.out, e3]; rfl, by rw [HR'.out, e4]; rfl, by omega, by simp⟩
                case measure => simp [intOf] <;> omega
              · rw [show wantO 2 8 = 192 from by decide] at f6 e4
                rw [if_neg (by decide)] at e4
                clear c9 e1
                go_wp2
                go_roundw
                case rel => exact ⟨m + 1, by go_num, by rw [HL'.out, e3]; rfl, by rw [HR'.out, e4]; rfl, by omega, by simp⟩
                case measure => simp [intOf] <;> omega
              · rw [show wantO 3 8 = 224 from by decide] at f6 e4
                rw [if_neg (by decide)] at e4
                clear c9 e1
                go_wp2
                go_roundw
                case rel => exact ⟨m + 1, by go_num, by rw [HL'.out, e3]; rfl, by rw [HR'.out, e4]; rfl, by omega, by simp⟩
                case measure => simp [intOf] <;> omega
              · rw [show wantO 4 8 = 240 from by decide] at f6 e4
                rw [if_neg (by decide)] at e4
                clear c9 e1
                go_wp2
                go_roundw
                case rel => exact ⟨m + 1, by go_num, by rw [HL'.out, e3]; rfl, by rw [HR'.out, e4]; rfl, by omega, by simp⟩
                case measure => simp [intOf] <;> omega
              · rw [show wantO 5 8 = 248 from by decide] at f6 e4
                rw [if_neg (by decide)] at e4
                clear c9 e1
                go_wp2
                go_roundw
                case rel => exact ⟨m + 1, by go_num, by rw [HL'.out, e3]; rfl, by rw [HR'.out, e4]; rfl, by omega, by simp⟩
                case measure => simp [intOf] <;> omega
              · rw [show wantO 6 8 = 252 from by decide] at f6 e4
                rw [if_neg (by decide)] at e4
                clear c9 e1
                go_wp2
                go_roundw
                case rel => exact ⟨m + 1, by go_num, by rw [HL'.out, e3]; rfl, by rw [HR'.out, e4]; rfl, by omega, by simp⟩
                case measure => simp [intOf] <;> omega
              · rw [show wantO 7 8 = 254 from by decide] at f6 e4
                rw [if_neg (by decide)] at e4
                clear c9 e1
                go_wp2
                go_roundw
                case rel => exact ⟨m + 1, by go_num, by rw [HL'.out, e3]; rfl, by rw [HR'.out, e4]; rfl, by omega, by simp⟩
                case measure => simp [intOf] <;> omega
          · rw [if_neg c9] at e3
            rcases e5 with rfl | rfl
            · by_cases c14 : l = 7
              · subst c14
                rw [show wantO 7 7 = 127 from by decide] at f6 e4
                rw [if_neg (by decide)] at e4
                clear c9 e1
                go_wp2
                go_roundw
                case rel => exact ⟨m + 1, by go_num, by rw [HL'.out, e3]; rfl, by rw [HR'.out, e4]; rfl, by omega, by simp⟩
                case measure => simp [intOf] <;> omega
              · have e6 : wantO l 7 = 127 := by unfold wantO; rw [if_neg c9]; decide
                rw [e6] at f6 e4
                rw [if_neg (by decide)] at e4
                have c11 : (7 : Int) < (l : Int) := by omega
                have c12 : (0 : Int) < (l : Int) := by omega
                have c13 : (((l - 7 : Nat)) : Int) = (l : Int) - 7 := by omega
                have w13 : IntKind.i64.wrap ((l : Int) - 7) = (l : Int) - 7 := IntWalk.i64_in _ (by have := HL.out; unfold leftF at this; omega)
                clear e6
                go_wp2
                go_roundw
                case rel => exact ⟨m + 1, by go_num, by rw [HL'.out, e3]; rw [c13], by rw [HR'.out, e4]; rfl, by omega, by simp⟩
                case measure => simp [intOf] <;> omega
            · by_cases c14 : l = 8
              · subst c14
                rw [show wantO 8 8 = 255 from by decide] at f6 e4
                rw [if_pos rfl] at e4
                clear c9 e1
                go_wp2
                go_roundw
                case rel => exact ⟨m + 1, by go_num, by rw [HL'.out, e3]; rfl, by rw [HR'.out, e4]; rfl, by omega, by simp⟩
                case measure => simp [intOf] <;> omega
              · have e6 : wantO l 8 = 255 := by unfold wantO; rw [if_neg c9]; decide
                rw [e6] at f6 e4
                rw [if_pos rfl] at e4
                have c11 : (8 : Int) < (l : Int) := by omega
                have c12 : (0 : Int) < (l : Int) := by omega
                have c13 : (((l - 8 : Nat)) : Int) = (l : Int) - 8 := by omega
                have w13 : IntKind.i64.wrap ((l : Int) - 8) = (l : Int) - 8 := IntWalk.i64_in _ (by have := HL.out; unfold leftF at this; omega)
                clear e6
                go_wp2
                go_roundw
                case rel => exact ⟨m + 1, by go_num, by rw [HL'.out, e3]; rw [c13], by rw [HR'.out, e4]; rfl, by omega, by simp⟩
                case measure => simp [intOf] <;> omega
        · obtain rfl : m = kF k := by omega
          have hdone := HO.out.done
          rw [hdone]
          have hfin := HO.out.fin
          have HL := HO.out.le
          generalize kF k = K at *
          generalize roomF F K = r at *
          clear h8 hl0 HO hdone
          rcases Nat.eq_zero_or_pos K with h0 | h0
          · subst h0
            rw [if_neg (by omega)] at hfin
            have hfi : (F.length : Int) = 0 := by omega
            go_wp2
            go_ret
            exact ⟨ret_bool (by simp), hb3⟩
          · obtain ⟨j, rfl⟩ : ∃ j, K = j + 1 := ⟨K - 1, by omega⟩
            rw [show j + 1 - 1 = j from rfl] at hfin
            obtain ⟨g, og, rfl, _, f6⟩ := lst_at HV.out (k := j) (by omega)
            have hs1 : ((j + 1 : Nat) : Int) - 1 = (j : Int) := by omega
            have hs2 : (j : Int) + 1 - 1 = (j : Int) := by omega
            have hj : (j : Int) < (F.length : Int) := by omega
            have hj0 : (0 : Int) < (j : Int) + 1 := by omega
            by_cases c9 : F.getD j 0 = 255
            · rw [if_pos ⟨h0, c9⟩] at hfin
              rw [c9] at f6
              obtain ⟨hf1, hf2⟩ := hfin
              obtain ⟨g', og', e', _, f7⟩ := lst_at HV.out (k := j + 1) (by omega)
              injection e' with e'
              injection e' with e1 e2
              subst e1 e2
              rw [hf2] at f7
              have hj2 : (j : Int) + 1 < (F.length : Int) := by omega
              have hj3 : (F.length : Int) = (j : Int) + 1 + 1 := by omega
              clear hf2
              go_wp2
              go_ret
              exact ⟨ret_bool (by simp), hb3⟩
            · rw [if_neg (fun h => c9 h.2)] at hfin
              have c10 : (F.getD j 0 == 255) = false := by simpa using c9
              generalize F.getD j 0 = x at *
              have hj3 : (F.length : Int) = (j : Int) + 1 := by omega
              go_wp2
              go_ret
              exact ⟨ret_bool (by simp), hb3⟩
end Go.Proofs.Ytpobmnbloifpjaa
