/- BitsBack, walked. -/
import Derived.Test.YtpobmnbloifpjaaBitLock
import Derived.Test.YtpobmnbloifpjaaBitStuf
import Derived.Deep.RegionWith
set_option linter.unusedVariables false
namespace Go.Proofs.Ytpobmnbloifpjaa
open Go.RowKit

/-- append(row, b...): a row of one's own, and bytes of anybody's behind it. -/
theorem wpList_more8 {w : World} {ops : Array Oper} {rest : List Oper} {o : Oper} {a : Act} {Q : Exit → Act → World → Prop} (hgd : o.guard = none) (s x : Operand)
    (ho : o.op = .call { callee := .builtin .append, args := #[s, x], argTypes := #[31, 31] }) {lo : Nat} {V : Value} {n0 : Nat} {l0 : List Int} {A : Option Addr} {n c : Nat} {l : List Int} {B : Nat}
    (hs : a.eval s = V) (hx : a.eval x = .slice A n c) (hln : l.length = n) (hA : A = none → n = 0 ∧ c = 0) (h : Lst w B A (l.map (Value.int .u8))) (hV : w.ownsRow lo 5 1 V n0 (l0.map (Value.int .u8))) (hn0 : n0 ≤ 100000) (hn : n ≤ 100000) (hlo : lo ≤ w.heap.size)
    (hK : ∀ V1 w1, w1.ownsRow lo 5 1 V1 (n0 + n) ((l0 ++ l).map (Value.int .u8)) → Below lo w w1 → wpList Try.prog ops Q rest (a.put o.dst V1) w1) :
    wpList Try.prog ops Q (o :: rest) a w := by
  obtain ⟨i0, hi, hz0, hz1, hz2⟩ := info_parts Try.info5
  rcases A with _ | A
  · obtain ⟨rfl, rfl⟩ := hA rfl
    obtain rfl : l = [] := List.eq_nil_of_length_eq_zero hln
    refine wpList_append_own_none hgd s x 31 ho lo 5 i0 1 Try.underlying31 hi V n0 _ hs hV hx ?_
    exact hK _ _ (by simpa using hV) (Below.refl _ _)
  · have hcells := h.add rfl
    refine wpList_append_own _ hgd s x 31 ho lo 5 i0 (.int .u8 0) 1 1 Try.underlying31 hi hz0 hz1 hz2 rfl (by decide) V n0 (l0.map (Value.int .u8)) hs hV A n c (l.map (Value.int .u8)) hx (by simp [hln]) hcells (ints_oneCell .u8 l) (by unfold maxLen; omega) (by omega) hlo ?_
    intro v1 w1 hown hg _
    have hb1 : Below lo w w1 := (Below.refl _ _).grown hg hlo (fun k hk => (hV.lt k hk).1)
    rw [← List.map_append] at hown
    exact hK _ _ hown hb1

theorem wrap_pow {P : Int} (h1 : 1 ≤ P) (h2 : P ≤ 4294967296) : wrap64 P = P ∧ wrap64 (P - 1) = P - 1 := ⟨IntWalk.wrap64_in _ (by omega), IntWalk.wrap64_in _ (by omega)⟩
theorem wrap_pow2 {k : Nat} (h : k ≤ 32) : wrap64 ((2 : Int) ^ k) = 2 ^ k ∧ wrap64 ((2 : Int) ^ k - 1) = 2 ^ k - 1 := by
  have h1 := pow_pos' k
  have h2 := pow_le' h
  have e : (2 : Int) ^ 32 = 4294967296 := by decide
  rw [e] at h2
  exact wrap_pow h1 h2
theorem wrap_pow' {P : Int} (h1 : 1 ≤ P) (h2 : P ≤ 4294967296) : IntKind.i64.wrap P = P ∧ IntKind.i64.wrap (P - 1) = P - 1 := ⟨IntWalk.i64_in _ (by omega), IntWalk.i64_in _ (by omega)⟩
theorem mask_raw {x : Int} {k : Nat} (h : k ≤ 32) : bits .and .i64 x (IntKind.i64.wrap (IntKind.i64.wrap ((2 : Int) ^ min (IntKind.u64.wrap (k : Int)).toNat 64) - 1)) = x % 2 ^ k := by
  have h1 := pow_pos' k
  have h2 := pow_le' h
  have e : (2 : Int) ^ 32 = 4294967296 := by decide
  rw [e] at h2
  obtain ⟨e1, e2⟩ := wrap_pow' h1 h2
  rw [IntWalk.u64_in _ (by omega), Int.toNat_natCast, show min k 64 = k from by omega, e1, e2, and_mask x k h]
/-- All bits of the first numbers. -/
def bsN (x y : List Int) (k : Nat) : List Int := (List.range k).flatMap fun j => bitsOf (x.getD j 0) (1 + (y.getD j 0 % 32).toNat)
theorem bsN_succ (x y : List Int) (k : Nat) : bsN x y (k + 1) = bsN x y k ++ bitsOf (x.getD k 0) (1 + (y.getD k 0 % 32).toNat) := by
  unfold bsN; rw [List.range_succ, List.flatMap_append]; simp
theorem bsN_pre (x y : List Int) {k n : Nat} (h : k ≤ n) : ∃ t, bsN x y n = bsN x y k ++ t := by
  obtain ⟨d, rfl⟩ : ∃ d, n = k + d := ⟨n - k, by omega⟩
  induction d with
  | zero => exact ⟨[], by simp⟩
  | succ d ih =>
    obtain ⟨t, ht⟩ := ih (by omega)
    exact ⟨t ++ bitsOf (x.getD (k + d) 0) (1 + (y.getD (k + d) 0 % 32).toNat), by rw [show k + (d + 1) = k + d + 1 from rfl, bsN_succ, ht, List.append_assoc]⟩
theorem bsN_len (x y : List Int) (k : Nat) : (bsN x y k).length ≤ 32 * k := by
  induction k with
  | zero => simp [bsN]
  | succ k ih => rw [bsN_succ, List.length_append, bitsOf_len]; omega
theorem wrun_len2 (bs : List Int) : (wrun bs).1.length ≤ bs.length := by
  have := wfold_len (s := ([], 0)) (by simpa [wrun] using wrun_ok []) bs
  simpa [wrun, wfold] using this

set_option maxHeartbeats 8000000 in
theorem walk_bitsBack_go (a0 : Option Addr) (len0 cap0 : Nat) (z0 : List Int) (a1 : Option Addr) (len1 cap1 : Nat) (z1 : List Int) (a2 : Option Addr) (len2 cap2 : Nat) (z2 : List Int) (w : World) (w0 : IsRow .i64 w a0 len0 cap0 z0) (w1 : IsRow .i64 w a1 len1 cap1 z1) (w2 : IsRow .u8 w a2 len2 cap2 z2) (n : Nat) (v : Int) (hn : n ≤ len0 ∧ n ≤ len1 ∧ n ≤ 40) (E : v = (n : Int)) (hc : (len1 < len0 ∧ (40 : Int) < (len1 : Int) ∧ v = 40) ∨ (len1 < len0 ∧ ¬ (40 : Int) < (len1 : Int) ∧ v = (len1 : Int)) ∨ (¬ len1 < len0 ∧ (40 : Int) < (len0 : Int) ∧ v = 40) ∨ (¬ len1 < len0 ∧ ¬ (40 : Int) < (len0 : Int) ∧ v = (len0 : Int))) :
    Calls Try.prog 5 #[.slice a0 len0 cap0, .slice a1 len1 cap1, .slice a2 len2 cap2] w fun e w' => e = .returned (.bool true) ∧ Below w.heap.size w w' := by
  have hl0 := lst_of_row w0
  obtain ⟨hlen0, hlc0, hcm0, _⟩ := row_len w0
  have hl1 := lst_of_row w1
  obtain ⟨hlen1, hlc1, hcm1, _⟩ := row_len w1
  have hl2 := lst_of_row w2
  obtain ⟨hlen2, hlc2, hcm2, hnil2⟩ := row_len w2
  have hr2 : ∀ x ∈ z2.take len2, 0 ≤ x ∧ x ≤ 255 := by
    rcases w2 with ⟨rfl, rfl, rfl, rfl⟩ | ⟨x, rfl, hl, hm, hz, hc, hw⟩
    · simp
    · intro y hy
      have := hw y (List.mem_of_mem_take hy)
      have hmin : IntKind.u8.min = 0 := rfl
      have hmax : IntKind.u8.max = 255 := rfl
      simp only [Lit.wf, Bool.and_eq_true, decide_eq_true_eq] at this
      omega
  clear w0 w1 w2
  generalize hz : z0.take len0 = x0 at *
  clear hz
  generalize hz : z1.take len1 = x1 at *
  clear hz
  generalize hz : z2.take len2 = x2 at *
  clear hz
  have HL0 := Lib.hid (And.intro hl0 hlen0)
  have HL1 := Lib.hid (And.intro hl1 hlen1)
  have HL2 := Lib.hid (And.intro hl2 (And.intro hlen2 (And.intro hnil2 hr2)))
  unfold maxLen at hcm0 hcm1 hcm2
  clear hl0 hlen0 hl1 hlen1 hl2 hlen2 hnil2 hr2
  by_cases c50 : 50 < len2
  · have c50i : (50 : Int) < (len2 : Int) := by omega
    clear hc E
    go_enter Try.func5, Try.ntmps5
    go_wp2_with fail
    refine (known2 _).mono ?_
    rintro e w1 ⟨rfl, b1⟩
    go_wp2
    go_ret
    exact ⟨rfl, b1⟩
  have c50i : ¬ (50 : Int) < (len2 : Int) := by omega
  rcases hc with ⟨q1, q2, rfl⟩ | ⟨q1, q2, rfl⟩ | ⟨q1, q2, rfl⟩ | ⟨q1, q2, rfl⟩
  all_goals
    have HE0 := Lib.hid E
    clear E
    go_enter Try.func5, Try.ntmps5
    go_wp2_with fail
    refine (known2 _).mono ?_
    rintro e w1 ⟨rfl, b1⟩
    go_wp2_with fail
    refine (bnew_any _).mono ?_
    rintro e w2 ⟨p, rfl, h2, b2⟩
    have s1 := b1.size
    have b2 := b1.trans (b2.mono s1)
    have H2 : Hid (Wb (fun k => w1.heap.size ≤ k) w2 p [] 0) := Lib.hid (h2.imp (fun k _ hk => hk.1))
    have s2 : w1.heap.size ≤ w2.heap.size := by have := h2.1; omega
    clear b1 h2
    go_wp2
    rw [HE0.out]
    go_loopw [9] (fun i wr => ∃ k : Nat, k ≤ n ∧ i = .int .i64 (k : Int) ∧ Wb (fun k => w1.heap.size ≤ k) wr p (wrun (bsN x0 x1 k)).1 (wrun (bsN x0 x1 k)).2 ∧ Below w.heap.size w wr ∧ w1.heap.size ≤ wr.heap.size) (fun i _ => n - (intOf i).toNat)
    case atStart => exact ⟨0, by omega, rfl, by simpa [wrun, bsN] using H2.out, b2, s2⟩
    case round =>
      obtain ⟨k, kn, rfl, hw, hb, hs⟩ := hrel
      clear H2 b2 s2 HE0
      by_cases c1 : k < n
      · have c1i : (k : Int) < (n : Int) := by omega
        obtain ⟨b, o, rfl, hbb, f1⟩ := lst_ati (HL0.out.1.below hb) (k := k) (by rw [HL0.out.2]; omega)
        obtain ⟨b', o', rfl, hbb', f2⟩ := lst_ati (HL1.out.1.below hb) (k := k) (by rw [HL1.out.2]; omega)
        have hst := bsN_succ x0 x1 k
        have ok := wrun_ok (bsN x0 x1 k)
        have hlk := wrun_len2 (bsN x0 x1 k)
        have hlk2 := bsN_len x0 x1 k
        obtain ⟨r, hr⟩ : ∃ r, (x1.getD k 0 % 32).toNat = r := ⟨_, rfl⟩
        rw [hr] at hst
        have hr32 : r < 32 := by omega
        have hr' : x1.getD k 0 % 32 = (r : Int) := by omega
        generalize x0.getD k 0 = x at *
        generalize x1.getD k 0 = y at *
        have WI : Hid (∀ nq, Calls Try.prog 13 #[.int .i64 y, .int .i64 32] (wr.drewN nq) fun e w'' => e = .returned (.int .i64 (r : Int)) ∧ w'' = wr.drewN nq) := fun nq =>
          (within_any y 32 (wr.drewN nq) (by omega) (by omega)).mono fun e w'' ⟨he, hw''⟩ => ⟨by rw [he]; exact ret_i64 hr', hw''.symm⟩
        have BC : Hid (∀ nq, Calls Try.prog 16 #[.pointer (some ⟨p, 0, none⟩), .int .i64 x, .int .i64 (1 + (r : Int))] (wr.drewN nq) fun e w'' => e = .returned (.tuple #[]) ∧ Wb (fun k => w1.heap.size ≤ k) w'' p (wrun (bsN x0 x1 (k + 1))).1 (wrun (bsN x0 x1 (k + 1))).2 ∧ Below w.heap.size w w'' ∧ w1.heap.size ≤ w''.heap.size) := fun nq => by
          rw [show (1 + (r : Int)) = ((1 + r : Nat) : Int) from by omega, hst, wrun_app]
          refine (wb_bits (w := wr.drewN nq) (s := wrun (bsN x0 x1 k)) (n := x) (size := 1 + r) (hw.drew nq) ok (by omega) (by omega) (by omega) (fun k hk => Nat.le_trans hs hk)).mono ?_
          rintro e w'' ⟨he, h3, o3⟩
          exact ⟨he, h3, (below_drewN hb nq).trans (o3.below (fun k hk => Nat.le_trans s1 hk)), Nat.le_trans hs o3.size⟩
        have w11 : IntKind.i64.wrap (1 + (r : Int)) = 1 + (r : Int) := IntWalk.i64_in _ (by omega)
        have c3 : (k : Int) < (len0 : Int) := by omega
        have c4 : (k : Int) < (len1 : Int) := by omega
        clear hw ok hst hr hr' hlk hlk2
        go_wp2
        go_region_with (first | (go_at_call 13; refine (WI.out 1).mono ?_; rintro e w' ⟨rfl, rfl⟩) | (go_at_call 16; refine (BC.out 1).mono ?_; rintro e w' ⟨rfl, h3, hb3, hs3⟩))
        all_goals
          have H3 := Lib.hid h3
          clear WI BC h3
          go_wp2
          go_roundw
          case rel => exact ⟨k + 1, by omega, by go_num, H3.out, hb3, hs3⟩
          case measure => simp [intOf] <;> omega
      · obtain rfl : k = n := by omega
        obtain ⟨bs, hbs⟩ : ∃ bs, bsN x0 x1 k = bs := ⟨_, rfl⟩
        rw [hbs] at hw
        have ok := wrun_ok bs
        have hlk := wrun_len2 bs
        have hlk2 := bsN_len x0 x1 k
        rw [hbs] at hlk2
        have HBS := Lib.hid hbs
        obtain ⟨g1, g2, g3, g4⟩ := bytesF_ok ok
        have FC : Hid (Calls Try.prog 18 #[.pointer (some ⟨p, 0, none⟩)] wr fun e w' => ∃ v, e = .returned v ∧ w'.ownsRow wr.heap.size 5 1 v (bytesF (wrun bs).1).length ((bytesF (wrun bs).1).map (Value.int .u8)) ∧ Below wr.heap.size wr w') := wb_bytes hw (by omega)
        obtain ⟨F, hF⟩ : ∃ F, bytesF (wrun bs).1 = F := ⟨_, rfl⟩
        have hE := end_back bs x2
        rw [hF] at FC g3 g4 hE
        have HF := Lib.hid hF
        have hFG : Hid (∀ i, i < (wrun bs).1.length → (F ++ x2).getD i 0 = (wrun bs).1.getD i 0) := Lib.hid (fun i hi => by
          rw [← hF, getD_app (by have := bytesF_len (wrun bs).1; omega), bytesF_get hi])
        obtain ⟨m, hm⟩ : ∃ m, F.length = m := ⟨_, rfl⟩
        rw [hm] at FC g4 hE
        have HM := Lib.hid hm
        have HE := Lib.hid hE
        have HG3 : Hid (∀ x ∈ F ++ x2, 0 ≤ x ∧ x ≤ 255) := Lib.hid (fun x hx => by
          rcases List.mem_append.1 hx with hx | hx
          · exact g3 x hx
          · exact HL2.out.2.2.2 x hx)
        clear hw hbs g1 g2 g3 hF hm hE ok
        go_wp2_with fail
        refine FC.out.mono ?_
        rintro e w3 ⟨v, rfl, hv, b3⟩
        have hs3 := Nat.le_trans s1 hs
        have b3' := hb.trans (b3.mono hs3)
        have s3 := b3'.size
        obtain ⟨A, c, rfl, hA, _, _⟩ := own_any hv
        have HV := Lib.hid (Lst.own hv)
        have HA := Lib.hid hA
        clear hv b3 hb FC hA hs3
        go_wp2_with (at_builtin; refine wpList_clone8 rfl (.tmp 46) (.tmp 47) rfl rfl rfl HM.out HA.out HV.out (by omega) ?_)
        intro V1 cv1 w4 hown4 b4
        have b4' := b3'.trans (b4.mono s3)
        have HL2' := Lib.hid (HL2.out.1.below b4')
        have s4 := b4'.size
        have s34 := b4.size
        clear b4 HV HA
        go_wp2_with (at_builtin; refine wpList_more8 rfl (.tmp 48) (.tmp 49) rfl rfl rfl HL2.out.2.1 HL2.out.2.2.1 HL2'.out hown4 (by omega) (by omega) s34 ?_)
        intro V5 w5 hown5 b5
        have b5' := b4'.trans (b5.mono s3)
        have s5 := b5'.size
        obtain ⟨A5, c5, rfl, hA5, _, _⟩ := own_any hown5
        have HV5 := Lib.hid (Lst.own hown5)
        have HA5 := Lib.hid hA5
        clear hown4 hown5 b5 hA5 HL2' b4' b3'
        have hGl : (F ++ x2).length = m + len2 := by rw [List.length_append, HM.out, HL2.out.2.1]
        have HGl := Lib.hid hGl
        obtain ⟨G, hG⟩ : ∃ G, F ++ x2 = G := ⟨_, rfl⟩
        rw [← List.map_append, hG] at HV5
        rw [hG] at hFG HG3 HE HGl
        clear hGl hG
        go_wp2_with fail
        refine (brnew_any (n := m + len2) (F := G) HGl.out HA5.out HV5.out (by omega)).mono ?_
        rintro e w6 ⟨q, rfl, h6, b6⟩
        have b6' := b5'.trans (b6.mono s5)
        have H6 := Lib.hid (h6.low s5)
        clear h6 b6 b5' HV5 HA5
        go_wp2
        go_loopw [12] (fun i wr2 => ∃ j : Nat, j ≤ k ∧ i = .int .i64 (j : Int) ∧ Rb wr2 w.heap.size q G (bat (bsN x0 x1 j)) ∧ Below w.heap.size w wr2) (fun i _ => k - (intOf i).toNat)
        case atStart => exact ⟨0, by omega, rfl, H6.out, b6'⟩
        case round =>
          obtain ⟨j, jk, rfl, hr, hbr⟩ := hrel
          clear H6 b6'
          have hrg := bat_rng (bsN x0 x1 j)
          have hrl := bsN_len x0 x1 j
          have hqlo := hr.1
          by_cases c2 : j < k
          · have c2i : (j : Int) < (k : Int) := by omega
            obtain ⟨b, o, rfl, hbb, f1⟩ := lst_ati (HL0.out.1.below hbr) (k := j) (by rw [HL0.out.2]; omega)
            obtain ⟨b', o', rfl, hbb', f2⟩ := lst_ati (HL1.out.1.below hbr) (k := j) (by rw [HL1.out.2]; omega)
            have hst := bsN_succ x0 x1 j
            obtain ⟨t, ht⟩ := bsN_pre x0 x1 (show j + 1 ≤ k from c2)
            rw [HBS.out] at ht
            obtain ⟨r, hr1⟩ : ∃ r, (x1.getD j 0 % 32).toNat = r := ⟨_, rfl⟩
            rw [hr1] at hst
            have hr32 : r < 32 := by omega
            have hr' : x1.getD j 0 % 32 = (r : Int) := by omega
            have hrd := read_num (a := bsN x0 x1 j) (t := t) (F := G) (n := x0.getD j 0) (size := 1 + r) (by
              rw [← hst, ← ht]; exact hFG.out)
            rw [← hst] at hrd
            generalize x0.getD j 0 = x at *
            generalize x1.getD j 0 = y at *
            obtain ⟨sz, hsz⟩ : ∃ sz, 1 + r = sz := ⟨_, rfl⟩
            have hszi : 1 + (r : Int) = (sz : Int) := by omega
            rw [hsz] at hrd
            have hmask := and_mask x sz (by omega)
            obtain ⟨z, hz⟩ : ∃ z, x % 2 ^ sz = z := ⟨_, rfl⟩
            have hraw := mask_raw (x := x) (k := sz) (by omega)
            rw [hz] at hmask hrd hraw
            have hneq : (z != bits .and .i64 x (IntKind.i64.wrap (IntKind.i64.wrap ((2 : Int) ^ min (IntKind.u64.wrap (sz : Int)).toNat 64) - 1))) = false := by rw [hraw]; exact bne_self_eq_false _
            obtain ⟨e1, e2⟩ := wrap_pow2 (k := sz) (by omega)
            have hsz0 : (0 : Int) ≤ (sz : Int) := by omega
            have hsz32 : sz ≤ 32 := by omega
            have hzz : (z == z) = true := beq_self_eq_true _
            have WI : Hid (∀ u, Calls Try.prog 13 #[.int .i64 y, .int .i64 32] u fun e w'' => e = .returned (.int .i64 (r : Int)) ∧ u = w'') := fun u =>
              (within_any y 32 u (by omega) (by omega)).mono fun e w'' ⟨he, hw''⟩ => ⟨by rw [he]; exact ret_i64 hr', hw''⟩
            have RC : Hid (∀ nq, Calls Try.prog 24 #[.pointer (some ⟨q, 0, none⟩), .int .i64 (sz : Int)] (wr.drewN nq) fun e w'' => e = .returned (.int .i64 z) ∧ Rb w'' w.heap.size q G (bat (bsN x0 x1 (j + 1))) ∧ Below w.heap.size w w'' ∧ w''.cell? ⟨b, o + j, none⟩ = some (.int .i64 x)) := fun nq => by
              refine (rb_bits (w := wr.drewN nq) (size := sz) (hr.drew nq) (by rw [HGl.out]; omega) (by have := hrg.2; omega) hrg.1 HG3.out (by omega) (by omega)).mono ?_
              rintro e w'' ⟨he, h3, o3⟩
              rw [hrd] at he h3
              refine ⟨he, h3, (below_drewN hbr nq).trans (o3.below (fun k hk => by subst hk; exact hqlo)), ?_⟩
              rw [o3.cell (by show ¬ b = q; omega)]
              exact f1
            have c3 : (j : Int) < (len0 : Int) := by omega
            have c4 : (j : Int) < (len1 : Int) := by omega
            clear hr hrd hr' hst ht hr1 hz hrg
            go_wp2_with fail
            refine (WI.out _).mono ?_
            rintro e w7 ⟨rfl, rfl⟩
            go_wp2
            go_region_with (go_at_call 24; refine (RC.out 1).mono ?_; rintro e w' ⟨rfl, h3, hb3, f5⟩)
            all_goals
              have H3 := Lib.hid h3
              clear WI RC h3
              go_wp2
              go_roundw
              case rel => exact ⟨j + 1, by omega, by go_num, H3.out, hb3⟩
              case measure => simp [intOf] <;> omega
          · obtain rfl : j = k := by omega
            rw [HBS.out] at hr hrg
            have HR := Lib.hid hr
            have hrg2 := hrg.2
            clear hr hrg
            go_wp2_with fail
            refine (rb_end HR.out (by rw [HGl.out]; omega) (by omega)).mono ?_
            rintro e w7 ⟨rfl, d7⟩
            rw [HE.out.1, HE.out.2]
            have b7 := Drew.to hbr d7
            clear d7 HR
            go_wp2
            go_ret
            exact ⟨ret_bool (by simp), b7⟩
theorem walk_bitsBack (a0 : Option Addr) (len0 cap0 : Nat) (z0 : List Int) (a1 : Option Addr) (len1 cap1 : Nat) (z1 : List Int) (a2 : Option Addr) (len2 cap2 : Nat) (z2 : List Int) (w : World) (w0 : IsRow .i64 w a0 len0 cap0 z0) (w1 : IsRow .i64 w a1 len1 cap1 z1) (w2 : IsRow .u8 w a2 len2 cap2 z2) :
    Calls Try.prog 5 #[.slice a0 len0 cap0, .slice a1 len1 cap1, .slice a2 len2 cap2] w fun e w' => e = .returned (.bool true) ∧ Below w.heap.size w w' := by
  by_cases q1 : len1 < len0
  · by_cases q2 : 40 < len1
    · exact walk_bitsBack_go a0 len0 cap0 z0 a1 len1 cap1 z1 a2 len2 cap2 z2 w w0 w1 w2 40 40 (by omega) rfl (Or.inl ⟨q1, by omega, rfl⟩)
    · exact walk_bitsBack_go a0 len0 cap0 z0 a1 len1 cap1 z1 a2 len2 cap2 z2 w w0 w1 w2 len1 len1 (by omega) rfl (Or.inr (Or.inl ⟨q1, by omega, rfl⟩))
  · by_cases q2 : 40 < len0
    · exact walk_bitsBack_go a0 len0 cap0 z0 a1 len1 cap1 z1 a2 len2 cap2 z2 w w0 w1 w2 40 40 (by omega) rfl (Or.inr (Or.inr (Or.inl ⟨q1, by omega, rfl⟩)))
    · exact walk_bitsBack_go a0 len0 cap0 z0 a1 len1 cap1 z1 a2 len2 cap2 z2 w w0 w1 w2 len0 len0 (by omega) rfl (Or.inr (Or.inr (Or.inr ⟨q1, by omega, rfl⟩)))
end Go.Proofs.Ytpobmnbloifpjaa
