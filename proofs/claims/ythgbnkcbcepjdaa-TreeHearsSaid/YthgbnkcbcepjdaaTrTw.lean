/- Two trees side by side: TreeTwo. -/
import Derived.Test.YthgbnkcbcepjdaaTrKn
import Derived.Outline
import Derived.Test.YthgbnkcbcepjdaaGrd
import Derived.Test.YthgbnkcbcepjdaaStr
import Derived.Deep.DeepCutAuto
import Derived.IntWalk
set_option linter.unusedVariables false
set_option linter.unusedSimpArgs false
namespace Go.Proofs.Ythgbnkcbcepjdaa
open Go.RowKit
set_option maxRecDepth 100000
set_option maxHeartbeats 400000 in
theorem within13 (a n : Int) (w : World) (hn : 1 ≤ n) (hm : n ≤ 4611686018427387904) :
    Calls Try.prog 9 #[.int .i64 a, .int .i64 n] w fun e w' => e = .returned (.int .i64 (a % n)) ∧ w = w' := by
  have hb := within_bd a n hn
  have hk := within_key a n hn
  have HK := Lib.hid hk
  clear hk
  have h0 : ¬ n = 0 := by omega
  by_cases hc : a.tmod n < 0
  · go_enter Try.func9, Try.ntmps9
    go_wp2
    go_ret
    refine ⟨ret_i64 ?_, rfl⟩
    rw [← HK.out, if_pos (by omega)]
  · go_enter Try.func9, Try.ntmps9
    go_wp2
    go_ret
    refine ⟨ret_i64 ?_, rfl⟩
    rw [← HK.out, if_neg (by omega)]
/-- A number below n. -/
def modN (a : Int) (n : Nat) : Nat := (a % (n : Int)).toNat
theorem modN_lt (a : Int) (n : Nat) (hn : 1 ≤ n) : modN a n < n ∧ a % (n : Int) = (modN a n : Int) := by
  have := within_rng a n (by omega)
  unfold modN
  omega
theorem some13 (a : Int) (n : Nat) (w : World) (hn : 1 ≤ n) (hm : n ≤ 100000) :
    Calls Try.prog 9 #[.int .i64 a, .int .i64 (n : Int)] w fun e w' => e = .returned (.int .i64 (modN a n : Int)) ∧ w = w' :=
  (within13 a n w (by omega) (by omega)).mono fun e w' ⟨he, hw⟩ => ⟨by rw [he, (modN_lt a n hn).2], hw⟩
/-- What a slice holds at k. -/
theorem row_at {w w' : World} {a : Option Addr} {len cap : Nat} {zs : List Int} (h : IsRow .i64 w a len cap zs) {k : Nat} (hk : k < len) (hb : Below w.heap.size w w') : ∃ b o, a = some ⟨b, o, none⟩ ∧ w'.cell? ⟨b, o + k, none⟩ = some (.int .i64 (zs.getD k 0)) := by
  obtain ⟨h1, h2, h3, h4⟩ := row_len h
  have hz : k < (zs.take len).length := by omega
  obtain ⟨b, o, e, hl, hc⟩ := lst_of_row h k (.int .i64 ((zs.take len)[k])) (by rw [List.getElem?_map, List.getElem?_eq_getElem hz]; rfl)
  refine ⟨b, o, e, (hb.cell (p := ⟨b, o + k, none⟩) hl).trans ?_⟩
  rw [hc, List.getElem_take, List.getD_eq_getElem?_getD, List.getElem?_eq_getElem (by rw [List.length_take] at hz; omega)]
  rfl
/-- The numbers set so far. -/
def setsM (d : Nat) (len : Nat) (zs : List Int) : Nat → TT
  | 0 => T0
  | k + 1 => if k < len then setM (setsM d len zs k) 3 3 d k (modN (zs.getD k 0) 9 : Nat) else setsM d len zs k
/-- What was encoded so far, leaf k of round i being f i. -/
def encs (bound : Int) (d : Nat) (f : Nat → Nat) (T : TT) : Nat → (List Int × Nat) × TT
  | 0 => (([], 0), T)
  | k + 1 => ((encM bound 3 d (f k) (encs bound d f T k).1 (encs bound d f T k).2).1, (encM bound 3 d (f k) (encs bound d f T k).1 (encs bound d f T k).2).2.1)
/-- All eight, each with blocks of its own. -/
structure Eight (o : Nat → Nat) (w0 w : World) (pa pb pc pd px py pz pv d : Nat) (Ta Tb Tc Td : TT) (sx sy sz sv : List Int × Nat) : Prop where
  a : TrO o 1 w pa 3 3 d Ta
  b : TrO o 2 w pb 3 3 d Tb
  c : TrO o 3 w pc 3 3 d Tc
  d : TrO o 4 w pd 3 3 d Td
  x : WrO o 5 w px sx
  y : WrO o 6 w py sy
  z : WrO o 7 w pz sz
  v : WrO o 8 w pv sv
  bs : Bs o w0.heap.size
  bel : Below w0.heap.size w0 w
theorem TrO.same_d {o o' : Nat → Nat} {a b : Nat} {w w' : World} {p p' W H d d' : Nat} {T T' : TT} (h : TrO o a w p W H d T) (h' : TrO o' b w' p' W H d' T') : d = d' := by
  obtain ⟨L, cl, sh, _, h2, rfl, _⟩ := h
  obtain ⟨L', cl', sh', _, h2', rfl, _⟩ := h'
  exact shp_len h2 h2'
section
variable {o : Nat → Nat} {w0 w : World} {pa pb pc pd px py pz pv d k : Nat} {Ta Tb Tc Td : TT} {sx sy sz sv : List Int × Nat}
theorem Eight.below {w' : World} (h : Eight o w0 w pa pb pc pd px py pz pv d Ta Tb Tc Td sx sy sz sv) (hb : Below w.heap.size w w') : Eight o w0 w' pa pb pc pd px py pz pv d Ta Tb Tc Td sx sy sz sv :=
  ⟨h.a.below hb (fun _ _ => rfl), h.b.below hb (fun _ _ => rfl), h.c.below hb (fun _ _ => rfl), h.d.below hb (fun _ _ => rfl), h.x.below hb (fun _ _ => rfl), h.y.below hb (fun _ _ => rfl), h.z.below hb (fun _ _ => rfl), h.v.below hb (fun _ _ => rfl), h.bs, h.bel.trans (hb.mono h.bel.size)⟩
theorem Eight.set_a (h : Eight o w0 w pa pb pc pd px py pz pv d Ta Tb Tc Td sx sy sz sv) (hk : k < 9) (n : Nat) (hn : n ≤ 1000) : Calls Try.prog 20 #[.pointer (some ⟨pa, 0, none⟩), .int .i64 (k : Int), .int .i64 (n : Int)] w fun e w' => e = .returned (.tuple #[]) ∧ Eight (onew o w 1) w0 w' pa pb pc pd px py pz pv d (setM Ta 3 3 d k (n : Int)) Tb Tc Td sx sy sz sv :=
  (set_o h.a (k := k) (by omega) n hn).mono fun e w' ⟨he, hT, ho⟩ => ⟨he, hT, h.b.other ho (onew_old o w 1) (by decide) (by decide), h.c.other ho (onew_old o w 1) (by decide) (by decide), h.d.other ho (onew_old o w 1) (by decide) (by decide), h.x.other ho (onew_old o w 1) (by decide) (by decide), h.y.other ho (onew_old o w 1) (by decide) (by decide), h.z.other ho (onew_old o w 1) (by decide) (by decide), h.v.other ho (onew_old o w 1) (by decide) (by decide), h.bs.new h.bel.size 1, h.bel.trans (ho.base h.bs (by decide) (by decide) h.bel.size)⟩
theorem Eight.enc_a (h : Eight o w0 w pa pb pc pd px py pz pv d Ta Tb Tc Td sx sy sz sv) (kk : Int) (hkk : kk = (k : Int)) (hk : k < 9) (bound : Int) (hb : 0 ≤ bound ∧ bound ≤ 7) (hd : d ≤ 8) (hl : sx.1.length ≤ 1000) : Calls Try.prog 22 #[.pointer (some ⟨pa, 0, none⟩), .pointer (some ⟨px, 0, none⟩), .int .i64 kk, .int .i64 bound] w fun e w' => e = .returned (.tuple #[]) ∧ Eight (onew o w 5) w0 w' pa pb pc pd px py pz pv d (encM bound 3 d k sx Ta).2.1 Tb Tc Td (encM bound 3 d k sx Ta).1 sy sz sv ∧ (encM bound 3 d k sx Ta).1.1.length ≤ sx.1.length + 72 := by
  subst hkk
  have hdb : d * (bound.toNat + 2) ≤ 8 * 9 := Nat.mul_le_mul hd (by omega)
  exact (enc_o h.a h.x (by decide) (by omega) bound (by omega) (by omega)).mono fun e w' ⟨he, hT, hW, ho, hlen⟩ => ⟨he, ⟨hT, h.b.other ho (onew_old o w 5) (by decide) (by decide), h.c.other ho (onew_old o w 5) (by decide) (by decide), h.d.other ho (onew_old o w 5) (by decide) (by decide), hW, h.y.other ho (onew_old o w 5) (by decide) (by decide), h.z.other ho (onew_old o w 5) (by decide) (by decide), h.v.other ho (onew_old o w 5) (by decide) (by decide), h.bs.new h.bel.size 5, h.bel.trans (ho.base h.bs (by decide) (by decide) h.bel.size)⟩, by omega⟩
theorem Eight.set_b (h : Eight o w0 w pa pb pc pd px py pz pv d Ta Tb Tc Td sx sy sz sv) (hk : k < 9) (n : Nat) (hn : n ≤ 1000) : Calls Try.prog 20 #[.pointer (some ⟨pb, 0, none⟩), .int .i64 (k : Int), .int .i64 (n : Int)] w fun e w' => e = .returned (.tuple #[]) ∧ Eight (onew o w 2) w0 w' pa pb pc pd px py pz pv d Ta (setM Tb 3 3 d k (n : Int)) Tc Td sx sy sz sv :=
  (set_o h.b (k := k) (by omega) n hn).mono fun e w' ⟨he, hT, ho⟩ => ⟨he, h.a.other ho (onew_old o w 2) (by decide) (by decide), hT, h.c.other ho (onew_old o w 2) (by decide) (by decide), h.d.other ho (onew_old o w 2) (by decide) (by decide), h.x.other ho (onew_old o w 2) (by decide) (by decide), h.y.other ho (onew_old o w 2) (by decide) (by decide), h.z.other ho (onew_old o w 2) (by decide) (by decide), h.v.other ho (onew_old o w 2) (by decide) (by decide), h.bs.new h.bel.size 2, h.bel.trans (ho.base h.bs (by decide) (by decide) h.bel.size)⟩
theorem Eight.enc_b (h : Eight o w0 w pa pb pc pd px py pz pv d Ta Tb Tc Td sx sy sz sv) (kk : Int) (hkk : kk = (k : Int)) (hk : k < 9) (bound : Int) (hb : 0 ≤ bound ∧ bound ≤ 7) (hd : d ≤ 8) (hl : sy.1.length ≤ 1000) : Calls Try.prog 22 #[.pointer (some ⟨pb, 0, none⟩), .pointer (some ⟨py, 0, none⟩), .int .i64 kk, .int .i64 bound] w fun e w' => e = .returned (.tuple #[]) ∧ Eight (onew o w 6) w0 w' pa pb pc pd px py pz pv d Ta (encM bound 3 d k sy Tb).2.1 Tc Td sx (encM bound 3 d k sy Tb).1 sz sv ∧ (encM bound 3 d k sy Tb).1.1.length ≤ sy.1.length + 72 := by
  subst hkk
  have hdb : d * (bound.toNat + 2) ≤ 8 * 9 := Nat.mul_le_mul hd (by omega)
  exact (enc_o h.b h.y (by decide) (by omega) bound (by omega) (by omega)).mono fun e w' ⟨he, hT, hW, ho, hlen⟩ => ⟨he, ⟨h.a.other ho (onew_old o w 6) (by decide) (by decide), hT, h.c.other ho (onew_old o w 6) (by decide) (by decide), h.d.other ho (onew_old o w 6) (by decide) (by decide), h.x.other ho (onew_old o w 6) (by decide) (by decide), hW, h.z.other ho (onew_old o w 6) (by decide) (by decide), h.v.other ho (onew_old o w 6) (by decide) (by decide), h.bs.new h.bel.size 6, h.bel.trans (ho.base h.bs (by decide) (by decide) h.bel.size)⟩, by omega⟩
theorem Eight.set_c (h : Eight o w0 w pa pb pc pd px py pz pv d Ta Tb Tc Td sx sy sz sv) (hk : k < 9) (n : Nat) (hn : n ≤ 1000) : Calls Try.prog 20 #[.pointer (some ⟨pc, 0, none⟩), .int .i64 (k : Int), .int .i64 (n : Int)] w fun e w' => e = .returned (.tuple #[]) ∧ Eight (onew o w 3) w0 w' pa pb pc pd px py pz pv d Ta Tb (setM Tc 3 3 d k (n : Int)) Td sx sy sz sv :=
  (set_o h.c (k := k) (by omega) n hn).mono fun e w' ⟨he, hT, ho⟩ => ⟨he, h.a.other ho (onew_old o w 3) (by decide) (by decide), h.b.other ho (onew_old o w 3) (by decide) (by decide), hT, h.d.other ho (onew_old o w 3) (by decide) (by decide), h.x.other ho (onew_old o w 3) (by decide) (by decide), h.y.other ho (onew_old o w 3) (by decide) (by decide), h.z.other ho (onew_old o w 3) (by decide) (by decide), h.v.other ho (onew_old o w 3) (by decide) (by decide), h.bs.new h.bel.size 3, h.bel.trans (ho.base h.bs (by decide) (by decide) h.bel.size)⟩
theorem Eight.enc_c (h : Eight o w0 w pa pb pc pd px py pz pv d Ta Tb Tc Td sx sy sz sv) (kk : Int) (hkk : kk = (k : Int)) (hk : k < 9) (bound : Int) (hb : 0 ≤ bound ∧ bound ≤ 7) (hd : d ≤ 8) (hl : sz.1.length ≤ 1000) : Calls Try.prog 22 #[.pointer (some ⟨pc, 0, none⟩), .pointer (some ⟨pz, 0, none⟩), .int .i64 kk, .int .i64 bound] w fun e w' => e = .returned (.tuple #[]) ∧ Eight (onew o w 7) w0 w' pa pb pc pd px py pz pv d Ta Tb (encM bound 3 d k sz Tc).2.1 Td sx sy (encM bound 3 d k sz Tc).1 sv ∧ (encM bound 3 d k sz Tc).1.1.length ≤ sz.1.length + 72 := by
  subst hkk
  have hdb : d * (bound.toNat + 2) ≤ 8 * 9 := Nat.mul_le_mul hd (by omega)
  exact (enc_o h.c h.z (by decide) (by omega) bound (by omega) (by omega)).mono fun e w' ⟨he, hT, hW, ho, hlen⟩ => ⟨he, ⟨h.a.other ho (onew_old o w 7) (by decide) (by decide), h.b.other ho (onew_old o w 7) (by decide) (by decide), hT, h.d.other ho (onew_old o w 7) (by decide) (by decide), h.x.other ho (onew_old o w 7) (by decide) (by decide), h.y.other ho (onew_old o w 7) (by decide) (by decide), hW, h.v.other ho (onew_old o w 7) (by decide) (by decide), h.bs.new h.bel.size 7, h.bel.trans (ho.base h.bs (by decide) (by decide) h.bel.size)⟩, by omega⟩
theorem Eight.set_d (h : Eight o w0 w pa pb pc pd px py pz pv d Ta Tb Tc Td sx sy sz sv) (hk : k < 9) (n : Nat) (hn : n ≤ 1000) : Calls Try.prog 20 #[.pointer (some ⟨pd, 0, none⟩), .int .i64 (k : Int), .int .i64 (n : Int)] w fun e w' => e = .returned (.tuple #[]) ∧ Eight (onew o w 4) w0 w' pa pb pc pd px py pz pv d Ta Tb Tc (setM Td 3 3 d k (n : Int)) sx sy sz sv :=
  (set_o h.d (k := k) (by omega) n hn).mono fun e w' ⟨he, hT, ho⟩ => ⟨he, h.a.other ho (onew_old o w 4) (by decide) (by decide), h.b.other ho (onew_old o w 4) (by decide) (by decide), h.c.other ho (onew_old o w 4) (by decide) (by decide), hT, h.x.other ho (onew_old o w 4) (by decide) (by decide), h.y.other ho (onew_old o w 4) (by decide) (by decide), h.z.other ho (onew_old o w 4) (by decide) (by decide), h.v.other ho (onew_old o w 4) (by decide) (by decide), h.bs.new h.bel.size 4, h.bel.trans (ho.base h.bs (by decide) (by decide) h.bel.size)⟩
theorem Eight.enc_d (h : Eight o w0 w pa pb pc pd px py pz pv d Ta Tb Tc Td sx sy sz sv) (kk : Int) (hkk : kk = (k : Int)) (hk : k < 9) (bound : Int) (hb : 0 ≤ bound ∧ bound ≤ 7) (hd : d ≤ 8) (hl : sv.1.length ≤ 1000) : Calls Try.prog 22 #[.pointer (some ⟨pd, 0, none⟩), .pointer (some ⟨pv, 0, none⟩), .int .i64 kk, .int .i64 bound] w fun e w' => e = .returned (.tuple #[]) ∧ Eight (onew o w 8) w0 w' pa pb pc pd px py pz pv d Ta Tb Tc (encM bound 3 d k sv Td).2.1 sx sy sz (encM bound 3 d k sv Td).1 ∧ (encM bound 3 d k sv Td).1.1.length ≤ sv.1.length + 72 := by
  subst hkk
  have hdb : d * (bound.toNat + 2) ≤ 8 * 9 := Nat.mul_le_mul hd (by omega)
  exact (enc_o h.d h.v (by decide) (by omega) bound (by omega) (by omega)).mono fun e w' ⟨he, hT, hW, ho, hlen⟩ => ⟨he, ⟨h.a.other ho (onew_old o w 8) (by decide) (by decide), h.b.other ho (onew_old o w 8) (by decide) (by decide), h.c.other ho (onew_old o w 8) (by decide) (by decide), hT, h.x.other ho (onew_old o w 8) (by decide) (by decide), h.y.other ho (onew_old o w 8) (by decide) (by decide), h.z.other ho (onew_old o w 8) (by decide) (by decide), hW, h.bs.new h.bel.size 8, h.bel.trans (ho.base h.bs (by decide) (by decide) h.bel.size)⟩, by omega⟩
end
/-- A row of bytes. -/
def RowB (w : World) (V : Value) (l : List Int) : Prop := ∃ lo, w.ownsRow lo 5 1 V l.length (l.map (Value.int .u8))
theorem RowB.below {w w' : World} {V : Value} {l : List Int} (h : RowB w V l) (hb : Below w.heap.size w w') : RowB w' V l := by
  obtain ⟨lo, h⟩ := h
  exact ⟨lo, ownsRow_keep h hb.size (fun k e => hb.block k (own_lt h e).2)⟩
theorem RowB.conv {w : World} {V : Value} {l : List Int} (h : RowB w V l) : (convert 22 9 V).run Try.prog w = .ok (.string (strOf l)) w := by
  obtain ⟨lo, h⟩ := h
  obtain ⟨A, cap, rfl, _⟩ := own_any h
  exact conv_str rfl (Lst.own h)
theorem bytes_r {o : Nat → Nat} {x : Nat} {w : World} {wp : Nat} {s : List Int × Nat} (h : WrO o x w wp s) (hl : s.1.length ≤ 80000) :
    Calls Try.prog 23 #[.pointer (some ⟨wp, 0, none⟩)] w fun e w' => ∃ v, e = .returned v ∧ RowB w' v (bytesF s.1) ∧ Below w.heap.size w w' :=
  (bytes_o h hl).mono fun e w' ⟨v, he, h1, h2⟩ => ⟨v, he, ⟨_, h1⟩, h2⟩

set_option maxHeartbeats 8000000 in
set_option pp.deepTerms true in
set_option pp.maxSteps 10000000 in
theorem walk_treeTwo (a0 : Option Addr) (len0 cap0 : Nat) (z0 : List Int) (a1 : Option Addr) (len1 cap1 : Nat) (z1 : List Int) (w : World) (w0 : IsRow .i64 w a0 len0 cap0 z0) (w1 : IsRow .i64 w a1 len1 cap1 z1) :
    Calls Try.prog 7 #[.slice a0 len0 cap0, .slice a1 len1 cap1] w fun e w' => e = .returned (.bool true) ∧ Below w.heap.size w w' := by
  have hb0 := row_len w0
  have hb1 := row_len w1
  have hm0 : len0 ≤ 9223372036854775807 := by have := hb0.2.2.1; unfold maxLen at this; omega
  have hm1 : len1 ≤ 9223372036854775807 := by have := hb1.2.2.1; unfold maxLen at this; omega
  have hc0 := hb0.2.1
  have hc1 := hb1.2.1
  have R0 := Lib.hid w0
  have R1 := Lib.hid w1
  clear w0 w1 hb0 hb1
  have K := Lib.hid (fun u => known13 u)
  go_enter Try.func7, Try.ntmps7
  go_wp2_with fail
  refine (K.out _).mono ?_
  rintro e u0 ⟨rfl, hb⟩
  have HB := Lib.hid hb
  have O0 := Lib.hid ((Bs.zero w.heap.size))
  clear hb K
  obtain ⟨o0, ho0⟩ : ∃ o0 : Nat → Nat, o0 = fun _ => 0 := ⟨_, rfl⟩
  rw [← ho0] at O0
  clear ho0
  go_wp2_with fail
  refine (new_o o0 1 3 3 u0 (by omega) (by omega)).mono ?_
  rintro e u1 ⟨pa, d0, rfl, hT, hb, hd⟩
  have Hpa0 := Lib.hid hT
  have OB0 := Lib.hid (O0.out.new HB.out.size 1)
  have HB' := Lib.hid (HB.out.trans (hb.mono HB.out.size))
  clear hT hb HB
  have HB := HB'
  clear HB'
  obtain ⟨o1, ho⟩ : ∃ o' : Nat → Nat, onew o0 u0 1 = o' := ⟨_, rfl⟩
  rw [ho] at OB0 Hpa0
  have O1 := OB0
  clear ho OB0 O0
  go_wp2_with fail
  refine (new_o o1 2 3 3 u1 (by omega) (by omega)).mono ?_
  rintro e u2 ⟨pb, d1, rfl, hT, hb, hd⟩
  have Hpa1 := Lib.hid (Hpa0.out.below hb (onew_old o1 u1 2))
  clear Hpa0
  have Hpb1 := Lib.hid hT
  have OB1 := Lib.hid (O1.out.new HB.out.size 2)
  have HB' := Lib.hid (HB.out.trans (hb.mono HB.out.size))
  clear hT hb HB
  have HB := HB'
  clear HB'
  obtain ⟨o2, ho⟩ : ∃ o' : Nat → Nat, onew o1 u1 2 = o' := ⟨_, rfl⟩
  rw [ho] at OB1 Hpa1 Hpb1
  have O2 := OB1
  clear ho OB1 O1
  go_wp2_with fail
  refine (new_o o2 3 3 3 u2 (by omega) (by omega)).mono ?_
  rintro e u3 ⟨pc, d2, rfl, hT, hb, hd⟩
  have Hpa2 := Lib.hid (Hpa1.out.below hb (onew_old o2 u2 3))
  clear Hpa1
  have Hpb2 := Lib.hid (Hpb1.out.below hb (onew_old o2 u2 3))
  clear Hpb1
  have Hpc2 := Lib.hid hT
  have OB2 := Lib.hid (O2.out.new HB.out.size 3)
  have HB' := Lib.hid (HB.out.trans (hb.mono HB.out.size))
  clear hT hb HB
  have HB := HB'
  clear HB'
  obtain ⟨o3, ho⟩ : ∃ o' : Nat → Nat, onew o2 u2 3 = o' := ⟨_, rfl⟩
  rw [ho] at OB2 Hpa2 Hpb2 Hpc2
  have O3 := OB2
  clear ho OB2 O2
  go_wp2_with fail
  refine (new_o o3 4 3 3 u3 (by omega) (by omega)).mono ?_
  rintro e u4 ⟨pd, d3, rfl, hT, hb, hd⟩
  have Hpa3 := Lib.hid (Hpa2.out.below hb (onew_old o3 u3 4))
  clear Hpa2
  have Hpb3 := Lib.hid (Hpb2.out.below hb (onew_old o3 u3 4))
  clear Hpb2
  have Hpc3 := Lib.hid (Hpc2.out.below hb (onew_old o3 u3 4))
  clear Hpc2
  have Hpd3 := Lib.hid hT
  have OB3 := Lib.hid (O3.out.new HB.out.size 4)
  have HB' := Lib.hid (HB.out.trans (hb.mono HB.out.size))
  clear hT hb HB
  have HB := HB'
  clear HB'
  obtain ⟨o4, ho⟩ : ∃ o' : Nat → Nat, onew o3 u3 4 = o' := ⟨_, rfl⟩
  rw [ho] at OB3 Hpa3 Hpb3 Hpc3 Hpd3
  have O4 := OB3
  clear ho OB3 O3
  go_wp2_with fail
  refine (wnew_o o4 5 u4).mono ?_
  rintro e u5 ⟨px, rfl, hT, hb⟩
  have Hpa4 := Lib.hid (Hpa3.out.below hb (onew_old o4 u4 5))
  clear Hpa3
  have Hpb4 := Lib.hid (Hpb3.out.below hb (onew_old o4 u4 5))
  clear Hpb3
  have Hpc4 := Lib.hid (Hpc3.out.below hb (onew_old o4 u4 5))
  clear Hpc3
  have Hpd4 := Lib.hid (Hpd3.out.below hb (onew_old o4 u4 5))
  clear Hpd3
  have Hpx4 := Lib.hid hT
  have OB4 := Lib.hid (O4.out.new HB.out.size 5)
  have HB' := Lib.hid (HB.out.trans (hb.mono HB.out.size))
  clear hT hb HB
  have HB := HB'
  clear HB'
  obtain ⟨o5, ho⟩ : ∃ o' : Nat → Nat, onew o4 u4 5 = o' := ⟨_, rfl⟩
  rw [ho] at OB4 Hpa4 Hpb4 Hpc4 Hpd4 Hpx4
  have O5 := OB4
  clear ho OB4 O4
  go_wp2_with fail
  refine (wnew_o o5 6 u5).mono ?_
  rintro e u6 ⟨py, rfl, hT, hb⟩
  have Hpa5 := Lib.hid (Hpa4.out.below hb (onew_old o5 u5 6))
  clear Hpa4
  have Hpb5 := Lib.hid (Hpb4.out.below hb (onew_old o5 u5 6))
  clear Hpb4
  have Hpc5 := Lib.hid (Hpc4.out.below hb (onew_old o5 u5 6))
  clear Hpc4
  have Hpd5 := Lib.hid (Hpd4.out.below hb (onew_old o5 u5 6))
  clear Hpd4
  have Hpx5 := Lib.hid (Hpx4.out.below hb (onew_old o5 u5 6))
  clear Hpx4
  have Hpy5 := Lib.hid hT
  have OB5 := Lib.hid (O5.out.new HB.out.size 6)
  have HB' := Lib.hid (HB.out.trans (hb.mono HB.out.size))
  clear hT hb HB
  have HB := HB'
  clear HB'
  obtain ⟨o6, ho⟩ : ∃ o' : Nat → Nat, onew o5 u5 6 = o' := ⟨_, rfl⟩
  rw [ho] at OB5 Hpa5 Hpb5 Hpc5 Hpd5 Hpx5 Hpy5
  have O6 := OB5
  clear ho OB5 O5
  go_wp2_with fail
  refine (wnew_o o6 7 u6).mono ?_
  rintro e u7 ⟨pz, rfl, hT, hb⟩
  have Hpa6 := Lib.hid (Hpa5.out.below hb (onew_old o6 u6 7))
  clear Hpa5
  have Hpb6 := Lib.hid (Hpb5.out.below hb (onew_old o6 u6 7))
  clear Hpb5
  have Hpc6 := Lib.hid (Hpc5.out.below hb (onew_old o6 u6 7))
  clear Hpc5
  have Hpd6 := Lib.hid (Hpd5.out.below hb (onew_old o6 u6 7))
  clear Hpd5
  have Hpx6 := Lib.hid (Hpx5.out.below hb (onew_old o6 u6 7))
  clear Hpx5
  have Hpy6 := Lib.hid (Hpy5.out.below hb (onew_old o6 u6 7))
  clear Hpy5
  have Hpz6 := Lib.hid hT
  have OB6 := Lib.hid (O6.out.new HB.out.size 7)
  have HB' := Lib.hid (HB.out.trans (hb.mono HB.out.size))
  clear hT hb HB
  have HB := HB'
  clear HB'
  obtain ⟨o7, ho⟩ : ∃ o' : Nat → Nat, onew o6 u6 7 = o' := ⟨_, rfl⟩
  rw [ho] at OB6 Hpa6 Hpb6 Hpc6 Hpd6 Hpx6 Hpy6 Hpz6
  have O7 := OB6
  clear ho OB6 O6
  go_wp2_with fail
  refine (wnew_o o7 8 u7).mono ?_
  rintro e u8 ⟨pv, rfl, hT, hb⟩
  have Hpa7 := Lib.hid (Hpa6.out.below hb (onew_old o7 u7 8))
  clear Hpa6
  have Hpb7 := Lib.hid (Hpb6.out.below hb (onew_old o7 u7 8))
  clear Hpb6
  have Hpc7 := Lib.hid (Hpc6.out.below hb (onew_old o7 u7 8))
  clear Hpc6
  have Hpd7 := Lib.hid (Hpd6.out.below hb (onew_old o7 u7 8))
  clear Hpd6
  have Hpx7 := Lib.hid (Hpx6.out.below hb (onew_old o7 u7 8))
  clear Hpx6
  have Hpy7 := Lib.hid (Hpy6.out.below hb (onew_old o7 u7 8))
  clear Hpy6
  have Hpz7 := Lib.hid (Hpz6.out.below hb (onew_old o7 u7 8))
  clear Hpz6
  have Hpv7 := Lib.hid hT
  have OB7 := Lib.hid (O7.out.new HB.out.size 8)
  have HB' := Lib.hid (HB.out.trans (hb.mono HB.out.size))
  clear hT hb HB
  have HB := HB'
  clear HB'
  obtain ⟨o8, ho⟩ : ∃ o' : Nat → Nat, onew o7 u7 8 = o' := ⟨_, rfl⟩
  rw [ho] at OB7 Hpa7 Hpb7 Hpc7 Hpd7 Hpx7 Hpy7 Hpz7 Hpv7
  have O8 := OB7
  clear ho OB7 O7
  obtain rfl := Hpa7.out.same_d Hpb7.out
  obtain rfl := Hpa7.out.same_d Hpc7.out
  obtain rfl := Hpa7.out.same_d Hpd7.out
  have HE : Hid (Eight o8 w u8 pa pb pc pd px py pz pv d0 T0 T0 T0 T0 ([], 0) ([], 0) ([], 0) ([], 0)) := Lib.hid ⟨Hpa7.out, Hpb7.out, Hpc7.out, Hpd7.out, Hpx7.out, Hpy7.out, Hpz7.out, Hpv7.out, O8.out, HB.out⟩
  clear Hpa7 Hpb7 Hpc7 Hpd7 Hpx7 Hpy7 Hpz7 Hpv7 O8 HB
  go_wp2_with fail
  go_loopw [13] (fun iv wr => ∃ (k : Nat) (o : Nat → Nat), k ≤ 9 ∧ iv = .int .i64 (k : Int) ∧ Hid (Eight o w wr pa pb pc pd px py pz pv d0 (setsM d0 len0 z0 k) (setsM d0 len1 z1 k) (setsM d0 len0 z0 k) (setsM d0 len1 z1 k) ([], 0) ([], 0) ([], 0) ([], 0))) (fun iv _ => 9 - (intOf iv).toNat)
  case atStart => exact ⟨0, _, by omega, rfl, HE⟩
  case round =>
    obtain ⟨k, o, hk, rfl, HEk⟩ := hrel
    by_cases hlt : k < 9
    · have hS0 : ∀ b, decide (k < len0) = b → setsM d0 len0 z0 (k + 1) = if b then setM (setsM d0 len0 z0 k) 3 3 d0 k (modN (z0.getD k 0) 9 : Nat) else setsM d0 len0 z0 k := by
        intro b hb; subst hb; simp [setsM]
      have hS1 : ∀ b, decide (k < len1) = b → setsM d0 len1 z1 (k + 1) = if b then setM (setsM d0 len1 z1 k) 3 3 d0 k (modN (z1.getD k 0) 9 : Nat) else setsM d0 len1 z1 k := by
        intro b hb; subst hb; simp [setsM]
      have HS0 := Lib.hid hS0
      have HS1 := Lib.hid hS1
      clear hS0 hS1
      by_cases c0 : k < len0
      · by_cases c1 : k < len1
        · skip
          have e0 : decide ((k : Int) < (len0 : Int)) = true := by simp; omega
          have e1 : decide ((k : Int) < (len1 : Int)) = true := by simp; omega
          have g0 := HS0.out true (by simp; omega)
          have g1 := HS1.out true (by simp; omega)
          simp only [if_true] at g0
          simp only [if_true] at g1
          have G0 := Lib.hid g0
          have G1 := Lib.hid g1
          clear g0 g1 HS0 HS1
          obtain ⟨b0, f0, rfl, hcell⟩ := row_at R0.out (k := k) (by omega) HEk.out.bel
          have ki : (k : Int) < (len0 : Int) := by omega
          go_wp2_with fail
          refine (some13 _ 9 _ (by omega) (by omega)).mono ?_
          rintro e w' ⟨rfl, rfl⟩
          go_wp2_with fail
          refine (HEk.out.set_a hlt (modN (z0.getD k 0) 9) (by have := (modN_lt (z0.getD k 0) 9 (by omega)).1; omega)).mono ?_
          rintro e q1 ⟨rfl, hE⟩
          have E1 := Lib.hid hE
          clear hE hcell
          obtain ⟨b0', f0', hsl, hcell⟩ := row_at R0.out (k := k) (by omega) E1.out.bel
          injection hsl with hsl
          injection hsl with hs1 hs2
          subst hs1 hs2
          have ki : (k : Int) < (len0 : Int) := by omega
          go_wp2_with fail
          refine (some13 _ 9 _ (by omega) (by omega)).mono ?_
          rintro e w' ⟨rfl, rfl⟩
          go_wp2_with fail
          refine (E1.out.set_c hlt (modN (z0.getD k 0) 9) (by have := (modN_lt (z0.getD k 0) 9 (by omega)).1; omega)).mono ?_
          rintro e q2 ⟨rfl, hE⟩
          have E2 := Lib.hid hE
          clear hE hcell
          obtain ⟨b0', f0', hsl, hcell⟩ := row_at R0.out (k := k) (by omega) E2.out.bel
          injection hsl with hsl
          injection hsl with hs1 hs2
          subst hs1 hs2
          clear hcell
          obtain ⟨b1, f1, rfl, hcell⟩ := row_at R1.out (k := k) (by omega) E2.out.bel
          have ki : (k : Int) < (len1 : Int) := by omega
          go_wp2_with fail
          refine (some13 _ 9 _ (by omega) (by omega)).mono ?_
          rintro e w' ⟨rfl, rfl⟩
          go_wp2_with fail
          refine (E2.out.set_b hlt (modN (z1.getD k 0) 9) (by have := (modN_lt (z1.getD k 0) 9 (by omega)).1; omega)).mono ?_
          rintro e q3 ⟨rfl, hE⟩
          have E3 := Lib.hid hE
          clear hE hcell
          obtain ⟨b1', f1', hsl, hcell⟩ := row_at R1.out (k := k) (by omega) E3.out.bel
          injection hsl with hsl
          injection hsl with hs1 hs2
          subst hs1 hs2
          have ki : (k : Int) < (len1 : Int) := by omega
          go_wp2_with fail
          refine (some13 _ 9 _ (by omega) (by omega)).mono ?_
          rintro e w' ⟨rfl, rfl⟩
          go_wp2_with fail
          refine (E3.out.set_d hlt (modN (z1.getD k 0) 9) (by have := (modN_lt (z1.getD k 0) 9 (by omega)).1; omega)).mono ?_
          rintro e q4 ⟨rfl, hE⟩
          have E4 := Lib.hid hE
          clear hE hcell
          obtain ⟨b1', f1', hsl, hcell⟩ := row_at R1.out (k := k) (by omega) E4.out.bel
          injection hsl with hsl
          injection hsl with hs1 hs2
          subst hs1 hs2
          clear hcell
          go_wp2
          go_roundw
          case rel => exact ⟨k + 1, _, by omega, by go_num, by rw [G0.out, G1.out]; exact E4⟩
          case measure => simp [intOf]; omega
        · skip
          have e0 : decide ((k : Int) < (len0 : Int)) = true := by simp; omega
          have e1 : decide ((k : Int) < (len1 : Int)) = false := by simp; omega
          have g0 := HS0.out true (by simp; omega)
          have g1 := HS1.out false (by simp; omega)
          simp only [if_true] at g0
          simp only [Bool.false_eq_true, if_false] at g1
          have G0 := Lib.hid g0
          have G1 := Lib.hid g1
          clear g0 g1 HS0 HS1
          obtain ⟨b0, f0, rfl, hcell⟩ := row_at R0.out (k := k) (by omega) HEk.out.bel
          have ki : (k : Int) < (len0 : Int) := by omega
          go_wp2_with fail
          refine (some13 _ 9 _ (by omega) (by omega)).mono ?_
          rintro e w' ⟨rfl, rfl⟩
          go_wp2_with fail
          refine (HEk.out.set_a hlt (modN (z0.getD k 0) 9) (by have := (modN_lt (z0.getD k 0) 9 (by omega)).1; omega)).mono ?_
          rintro e q1 ⟨rfl, hE⟩
          have E1 := Lib.hid hE
          clear hE hcell
          obtain ⟨b0', f0', hsl, hcell⟩ := row_at R0.out (k := k) (by omega) E1.out.bel
          injection hsl with hsl
          injection hsl with hs1 hs2
          subst hs1 hs2
          have ki : (k : Int) < (len0 : Int) := by omega
          go_wp2_with fail
          refine (some13 _ 9 _ (by omega) (by omega)).mono ?_
          rintro e w' ⟨rfl, rfl⟩
          go_wp2_with fail
          refine (E1.out.set_c hlt (modN (z0.getD k 0) 9) (by have := (modN_lt (z0.getD k 0) 9 (by omega)).1; omega)).mono ?_
          rintro e q2 ⟨rfl, hE⟩
          have E2 := Lib.hid hE
          clear hE hcell
          obtain ⟨b0', f0', hsl, hcell⟩ := row_at R0.out (k := k) (by omega) E2.out.bel
          injection hsl with hsl
          injection hsl with hs1 hs2
          subst hs1 hs2
          clear hcell
          go_wp2
          go_roundw
          case rel => exact ⟨k + 1, _, by omega, by go_num, by rw [G0.out, G1.out]; exact E2⟩
          case measure => simp [intOf]; omega
      · by_cases c1 : k < len1
        · skip
          have e0 : decide ((k : Int) < (len0 : Int)) = false := by simp; omega
          have e1 : decide ((k : Int) < (len1 : Int)) = true := by simp; omega
          have g0 := HS0.out false (by simp; omega)
          have g1 := HS1.out true (by simp; omega)
          simp only [Bool.false_eq_true, if_false] at g0
          simp only [if_true] at g1
          have G0 := Lib.hid g0
          have G1 := Lib.hid g1
          clear g0 g1 HS0 HS1
          obtain ⟨b1, f1, rfl, hcell⟩ := row_at R1.out (k := k) (by omega) HEk.out.bel
          have ki : (k : Int) < (len1 : Int) := by omega
          go_wp2_with fail
          refine (some13 _ 9 _ (by omega) (by omega)).mono ?_
          rintro e w' ⟨rfl, rfl⟩
          go_wp2_with fail
          refine (HEk.out.set_b hlt (modN (z1.getD k 0) 9) (by have := (modN_lt (z1.getD k 0) 9 (by omega)).1; omega)).mono ?_
          rintro e q1 ⟨rfl, hE⟩
          have E1 := Lib.hid hE
          clear hE hcell
          obtain ⟨b1', f1', hsl, hcell⟩ := row_at R1.out (k := k) (by omega) E1.out.bel
          injection hsl with hsl
          injection hsl with hs1 hs2
          subst hs1 hs2
          have ki : (k : Int) < (len1 : Int) := by omega
          go_wp2_with fail
          refine (some13 _ 9 _ (by omega) (by omega)).mono ?_
          rintro e w' ⟨rfl, rfl⟩
          go_wp2_with fail
          refine (E1.out.set_d hlt (modN (z1.getD k 0) 9) (by have := (modN_lt (z1.getD k 0) 9 (by omega)).1; omega)).mono ?_
          rintro e q2 ⟨rfl, hE⟩
          have E2 := Lib.hid hE
          clear hE hcell
          obtain ⟨b1', f1', hsl, hcell⟩ := row_at R1.out (k := k) (by omega) E2.out.bel
          injection hsl with hsl
          injection hsl with hs1 hs2
          subst hs1 hs2
          clear hcell
          go_wp2
          go_roundw
          case rel => exact ⟨k + 1, _, by omega, by go_num, by rw [G0.out, G1.out]; exact E2⟩
          case measure => simp [intOf]; omega
        · skip
          have e0 : decide ((k : Int) < (len0 : Int)) = false := by simp; omega
          have e1 : decide ((k : Int) < (len1 : Int)) = false := by simp; omega
          have g0 := HS0.out false (by simp; omega)
          have g1 := HS1.out false (by simp; omega)
          simp only [Bool.false_eq_true, if_false] at g0
          simp only [Bool.false_eq_true, if_false] at g1
          have G0 := Lib.hid g0
          have G1 := Lib.hid g1
          clear g0 g1 HS0 HS1
          go_wp2
          go_roundw
          case rel => exact ⟨k + 1, _, by omega, by go_num, by rw [G0.out, G1.out]; exact HEk⟩
          case measure => simp [intOf]; omega
    · obtain rfl : k = 9 := by omega
      rw [show ((9 : Nat) : Int) = 9 from rfl]
      obtain ⟨TA, hTA⟩ : ∃ TA, setsM d0 len0 z0 9 = TA := ⟨_, rfl⟩
      obtain ⟨TBb, hTB⟩ : ∃ TBb, setsM d0 len1 z1 9 = TBb := ⟨_, rfl⟩
      rw [hTA, hTB] at HEk
      have hd0 : d0 ≤ 8 := by omega
      clear hTA hTB HE
      go_wp2_with fail
      go_loopw [14] (fun iv wr => ∃ (k : Nat) (o : Nat → Nat), k ≤ 9 ∧ iv = .int .i64 (k : Int) ∧ Hid (Eight o w wr pa pb pc pd px py pz pv d0 (encs 5 d0 (fun k => k) TA k).2 (encs 7 d0 (fun k => 8 - k) TBb k).2 TA TBb (encs 5 d0 (fun k => k) TA k).1 (encs 7 d0 (fun k => 8 - k) TBb k).1 ([], 0) ([], 0)) ∧ (encs 5 d0 (fun k => k) TA k).1.1.length ≤ k * 72 ∧ (encs 7 d0 (fun k => 8 - k) TBb k).1.1.length ≤ k * 72) (fun iv _ => 9 - (intOf iv).toNat)
      case atStart => exact ⟨0, _, by omega, rfl, HEk, by simp [encs], by simp [encs]⟩
      case round =>
        obtain ⟨k, o, hk, rfl, HE2, hl1, hl2⟩ := hrel
        clear HEk
        by_cases hlt2 : k < 9
        · have e1 : (8 : Int) - (k : Int) = ((8 - k : Nat) : Int) := by omega
          have HE1 := Lib.hid e1
          clear e1
          go_wp2_with fail
          refine (HE2.out.enc_a (k : Int) rfl hlt2 5 (by omega) hd0 (by omega)).mono ?_
          rintro e q1 ⟨rfl, hE, hla⟩
          have E1 := Lib.hid hE
          clear hE
          go_wp2_with fail
          refine (E1.out.enc_b (k := 8 - k) _ HE1.out (by omega) 7 (by omega) hd0 (by omega)).mono ?_
          rintro e q2 ⟨rfl, hE, hlb⟩
          have E2 := Lib.hid hE
          have LA := Lib.hid hla
          have LB := Lib.hid hlb
          clear hE hla hlb
          go_wp2
          go_roundw
          case rel => exact ⟨k + 1, _, by omega, by go_num, E2, by have := LA.out; simp only [encs]; omega, by have := LB.out; simp only [encs]; omega⟩
          case measure => simp [intOf]; omega
        · obtain rfl : k = 9 := by omega
          rw [show ((9 : Nat) : Int) = 9 from rfl]
          go_wp2_with fail
          go_loopw [15] (fun iv wr => ∃ (k : Nat) (o : Nat → Nat), k ≤ 9 ∧ iv = .int .i64 (k : Int) ∧ Hid (Eight o w wr pa pb pc pd px py pz pv d0 (encs 5 d0 (fun k => k) TA 9).2 (encs 7 d0 (fun k => 8 - k) TBb 9).2 (encs 5 d0 (fun k => k) TA k).2 TBb (encs 5 d0 (fun k => k) TA 9).1 (encs 7 d0 (fun k => 8 - k) TBb 9).1 (encs 5 d0 (fun k => k) TA k).1 ([], 0)) ∧ (encs 5 d0 (fun k => k) TA k).1.1.length ≤ k * 72) (fun iv _ => 9 - (intOf iv).toNat)
          case atStart => exact ⟨0, _, by omega, rfl, HE2, by simp [encs]⟩
          case round =>
            obtain ⟨k, o, hk, rfl, HE3, hl3⟩ := hrel
            clear HE2
            by_cases hlt3 : k < 9
            · go_wp2_with fail
              refine (HE3.out.enc_c (k : Int) rfl hlt3 5 (by omega) hd0 (by omega)).mono ?_
              rintro e q1 ⟨rfl, hE, hla⟩
              have E1 := Lib.hid hE
              have LA := Lib.hid hla
              clear hE hla
              go_wp2
              go_roundw
              case rel => exact ⟨k + 1, _, by omega, by go_num, E1, by have := LA.out; simp only [encs]; omega⟩
              case measure => simp [intOf]; omega
            · obtain rfl : k = 9 := by omega
              rw [show ((9 : Nat) : Int) = 9 from rfl]
              go_wp2_with fail
              go_loopw [16] (fun iv wr => ∃ (k : Nat) (o : Nat → Nat), k ≤ 9 ∧ iv = .int .i64 (k : Int) ∧ Hid (Eight o w wr pa pb pc pd px py pz pv d0 (encs 5 d0 (fun k => k) TA 9).2 (encs 7 d0 (fun k => 8 - k) TBb 9).2 (encs 5 d0 (fun k => k) TA 9).2 (encs 7 d0 (fun k => 8 - k) TBb k).2 (encs 5 d0 (fun k => k) TA 9).1 (encs 7 d0 (fun k => 8 - k) TBb 9).1 (encs 5 d0 (fun k => k) TA 9).1 (encs 7 d0 (fun k => 8 - k) TBb k).1) ∧ (encs 7 d0 (fun k => 8 - k) TBb k).1.1.length ≤ k * 72) (fun iv _ => 9 - (intOf iv).toNat)
              case atStart => exact ⟨0, _, by omega, rfl, HE3, by simp [encs]⟩
              case round =>
                obtain ⟨k, o, hk, rfl, HE4, hl4⟩ := hrel
                clear HE3
                by_cases hlt4 : k < 9
                · have e1 : (8 : Int) - (k : Int) = ((8 - k : Nat) : Int) := by omega
                  have HE1 := Lib.hid e1
                  clear e1
                  go_wp2_with fail
                  refine (HE4.out.enc_d (k := 8 - k) _ HE1.out (by omega) 7 (by omega) hd0 (by omega)).mono ?_
                  rintro e q2 ⟨rfl, hE, hlb⟩
                  have E2 := Lib.hid hE
                  have LB := Lib.hid hlb
                  clear hE hlb
                  go_wp2
                  go_roundw
                  case rel => exact ⟨k + 1, _, by omega, by go_num, E2, by have := LB.out; simp only [encs]; omega⟩
                  case measure => simp [intOf]; omega
                · obtain rfl : k = 9 := by omega
                  rw [show ((9 : Nat) : Int) = 9 from rfl]
                  obtain ⟨s1, hs1⟩ : ∃ s1, (encs 5 d0 (fun k => k) TA 9).1 = s1 := ⟨_, rfl⟩
                  obtain ⟨s2, hs2⟩ : ∃ s2, (encs 7 d0 (fun k => 8 - k) TBb 9).1 = s2 := ⟨_, rfl⟩
                  rw [hs1, hs2] at HE4
                  rw [hs1] at hl3
                  rw [hs2] at hl4
                  clear hs1 hs2 hl1 hl2
                  go_wp2_with fail
                  obtain ⟨TAx, hTx⟩ : ∃ TAx, (encs 5 d0 (fun k => k) TA 9).2 = TAx := ⟨_, rfl⟩
                  rw [hTx] at HE4
                  clear hTx
                  obtain ⟨TBx, hTx⟩ : ∃ TBx, (encs 7 d0 (fun k => 8 - k) TBb 9).2 = TBx := ⟨_, rfl⟩
                  rw [hTx] at HE4
                  clear hTx
                  have hE5 := HE4.out.below (below_drewN (Below.refl _ wr) 1)
                  have HE5 := Lib.hid hE5
                  clear hE5 HE4
                  refine (wpIn_wide (n := 9)).1 (regionIn_inv (w := wr) (Inv := fun L a' w' => ∃ (V1 : Value) (V2 : Value) (V3 : Value) (V4 : Value), a' = { tmps := #[.slice a0 len0 cap0, .slice a1 len1 cap1, undef, undef, bif L 16 then .bool true else .bool false, .pointer (some ⟨pa, 0, none⟩), .pointer (some ⟨pb, 0, none⟩), .pointer (some ⟨pc, 0, none⟩), .pointer (some ⟨pd, 0, none⟩), .pointer (some ⟨px, 0, none⟩), .pointer (some ⟨py, 0, none⟩), .pointer (some ⟨pz, 0, none⟩), .pointer (some ⟨pv, 0, none⟩), .int .i64 9, .int .i64 9, .int .i64 9, .int .i64 9, .bool true, .bool false, .pointer (some ⟨pa, 0, none⟩), .pointer (some ⟨pb, 0, none⟩), .pointer (some ⟨pc, 0, none⟩), .pointer (some ⟨pd, 0, none⟩), .pointer (some ⟨px, 0, none⟩), .pointer (some ⟨py, 0, none⟩), .pointer (some ⟨pz, 0, none⟩), .pointer (some ⟨pv, 0, none⟩), .int .i64 9, .bool false, u29, u30, u31, u32, u33, u34, u35, u36, u37, u38, u39, u40, u41, u42, u43, u44, u45, u46, u47, u48, u49, u50, u51, u52, u53, u54, u55, u56, u57, u58, u59, u60, u61, u62, u63, u64, u65, u66, u67, u68, u69, u70, .int .i64 9, .bool false, u73, u74, u75, u76, u77, u78, u79, u80, u81, u82, u83, .int .i64 9, .bool false, u86, u87, u88, u89, u90, u91, .int .i64 9, .bool false, u94, u95, u96, u97, u98, u99, u100, bif L 0 then .pointer (some ⟨px, 0, none⟩) else undef, bif L 1 then V1 else undef, bif L 2 then .string (strOf (bytesF s1.1)) else undef, bif L 3 then .pointer (some ⟨pz, 0, none⟩) else undef, bif L 4 then V2 else undef, bif L 5 then .string (strOf (bytesF s1.1)) else undef, bif L 6 then .bool true else undef, bif L 7 then .bool true else undef, bif L 8 then .pointer (some ⟨py, 0, none⟩) else undef, bif L 9 then V3 else undef, bif L 10 then .string (strOf (bytesF s2.1)) else undef, bif L 11 then .pointer (some ⟨pv, 0, none⟩) else undef, bif L 12 then V4 else undef, bif L 13 then .string (strOf (bytesF s2.1)) else undef, bif L 14 then .bool true else undef, bif L 15 then .bool true else undef], defers := [] } ∧ (bif L 12 then ((Eight o w w' pa pb pc pd px py pz pv d0 TAx TBx TAx TBx s1 s2 s1 s2 ∧ RowB w' V3 (bytesF s2.1) ∧ RowB w' V4 (bytesF s2.1))) else (bif L 9 then ((Eight o w w' pa pb pc pd px py pz pv d0 TAx TBx TAx TBx s1 s2 s1 s2 ∧ RowB w' V3 (bytesF s2.1))) else (bif L 4 then ((Eight o w w' pa pb pc pd px py pz pv d0 TAx TBx TAx TBx s1 s2 s1 s2 ∧ RowB w' V1 (bytesF s1.1) ∧ RowB w' V2 (bytesF s1.1))) else (bif L 1 then ((Eight o w w' pa pb pc pd px py pz pv d0 TAx TBx TAx TBx s1 s2 s1 s2 ∧ RowB w' V1 (bytesF s1.1))) else Eight o w w' pa pb pc pd px py pz pv d0 TAx TBx TAx TBx s1 s2 s1 s2))))) (by kernel_rfl) (by kernel_rfl) ?startq ?stepq ?finq)
                  case startq => exact ⟨.bool false, .bool false, .bool false, .bool false, rfl, HE5.out⟩
                  case stepq =>
                    intro i hi L a' w' hI hs hu
                    obtain ⟨V1, V2, V3, V4, rfl, hph⟩ := hI
                    have hL := hu.1
                    have hi : i < 17 := hi
                    obtain rfl | rfl | rfl | rfl | rfl | rfl | rfl | rfl | rfl | rfl | rfl | rfl | rfl | rfl | rfl | rfl | rfl := (by omega : i = 0 ∨ i = 1 ∨ i = 2 ∨ i = 3 ∨ i = 4 ∨ i = 5 ∨ i = 6 ∨ i = 7 ∨ i = 8 ∨ i = 9 ∨ i = 10 ∨ i = 11 ∨ i = 12 ∨ i = 13 ∨ i = 14 ∨ i = 15 ∨ i = 16)
                    · skip
                      have n1 : L 1 = false := not_yet hL fun h => shut_at hs 1 0 (by kernel_rfl) (h)
                      have n4 : L 4 = false := not_yet hL fun h => shut_at hs 1 0 (by kernel_rfl) (shut_at hs 4 1 (by kernel_rfl) (h))
                      have n9 : L 9 = false := not_yet hL fun h => shut_at hs 1 0 (by kernel_rfl) (shut_at hs 4 1 (by kernel_rfl) (shut_at hs 7 4 (by kernel_rfl) (shut_at hs 9 7 (by kernel_rfl) (h))))
                      have n12 : L 12 = false := not_yet hL fun h => shut_at hs 1 0 (by kernel_rfl) (shut_at hs 4 1 (by kernel_rfl) (shut_at hs 7 4 (by kernel_rfl) (shut_at hs 12 7 (by kernel_rfl) (h))))
                      refine opIn_run (v := .pointer (some ⟨px, 0, none⟩)) (w' := w') rfl rfl (fun c h => by cases h) (fun _ => trivial) ?_ ⟨V1, V2, V3, V4, by simp [Act.put, upd, n1, n4, n9, n12, hL], by simpa [upd] using hph⟩
                      simp only [n1, n4, n9, n12, hL, cond_true, cond_false]
                      go_simp
                    · skip
                      have y0 : L 0 = true := up_at hu 0 (by kernel_rfl)
                      have n4 : L 4 = false := not_yet hL fun h => shut_at hs 4 1 (by kernel_rfl) (h)
                      have n9 : L 9 = false := not_yet hL fun h => shut_at hs 4 1 (by kernel_rfl) (shut_at hs 7 4 (by kernel_rfl) (shut_at hs 9 7 (by kernel_rfl) (h)))
                      have n12 : L 12 = false := not_yet hL fun h => shut_at hs 4 1 (by kernel_rfl) (shut_at hs 7 4 (by kernel_rfl) (shut_at hs 12 7 (by kernel_rfl) (h)))
                      simp only [y0, n4, n9, n12, hL, cond_true, cond_false] at hph
                      refine opIn_call (f := 23) (args := #[.pointer (some ⟨px, 0, none⟩)]) (w' := w') rfl rfl (fun c h => by cases h) (fun _ => trivial) rfl ?_ ((callsIn_wide.2 (bytes_r hph.x (by omega))).mono ?_)
                      · simp only [y0, n4, n9, n12, hL, cond_true, cond_false]
                        go_simp
                      · rintro e w2 ⟨Vn, rfl, hr, hb9⟩
                        exact ⟨_, rfl, Vn, V2, V3, V4, by simp [Act.put, upd, y0, n4, n9, n12, hL], by simp only [upd, y0, n4, n9, n12, hL]; exact ⟨hph.below hb9, hr⟩⟩
                    · skip
                      have y0 : L 0 = true := shut_at hs 1 0 (by kernel_rfl) (up_at hu 1 (by kernel_rfl))
                      have y1 : L 1 = true := up_at hu 1 (by kernel_rfl)
                      have n9 : L 9 = false := not_yet hL fun h => shut_at hs 6 2 (by kernel_rfl) (shut_at hs 7 6 (by kernel_rfl) (shut_at hs 9 7 (by kernel_rfl) (h)))
                      have n12 : L 12 = false := not_yet hL fun h => shut_at hs 6 2 (by kernel_rfl) (shut_at hs 7 6 (by kernel_rfl) (shut_at hs 12 7 (by kernel_rfl) (h)))
                      simp only [y0, y1, n9, n12, hL, cond_true, cond_false] at hph
                      have hc := RowB.conv (show RowB w' V1 (bytesF s1.1) by cases h4 : L 4 <;> simp only [h4, cond_true, cond_false] at hph <;> first | exact hph.2 | exact hph.2.1)
                      refine opIn_run (v := .string (strOf (bytesF s1.1))) (w' := w') rfl rfl (fun c h => by cases h) (fun _ => trivial) ?_ ⟨V1, V2, V3, V4, by simp [Act.put, upd, y0, y1, n9, n12, hL], by simp only [upd, y0, y1, n9, n12, hL]; exact hph⟩
                      simp only [y0, y1, n9, n12, hL, cond_true, cond_false]
                      go_simp
                    · skip
                      have n4 : L 4 = false := not_yet hL fun h => shut_at hs 4 3 (by kernel_rfl) (h)
                      have n9 : L 9 = false := not_yet hL fun h => shut_at hs 4 3 (by kernel_rfl) (shut_at hs 7 4 (by kernel_rfl) (shut_at hs 9 7 (by kernel_rfl) (h)))
                      have n12 : L 12 = false := not_yet hL fun h => shut_at hs 4 3 (by kernel_rfl) (shut_at hs 7 4 (by kernel_rfl) (shut_at hs 12 7 (by kernel_rfl) (h)))
                      refine opIn_run (v := .pointer (some ⟨pz, 0, none⟩)) (w' := w') rfl rfl (fun c h => by cases h) (fun _ => trivial) ?_ ⟨V1, V2, V3, V4, by simp [Act.put, upd, n4, n9, n12, hL], by simpa [upd] using hph⟩
                      simp only [n4, n9, n12, hL, cond_true, cond_false]
                      go_simp
                    · skip
                      have y0 : L 0 = true := shut_at hs 1 0 (by kernel_rfl) (up_at hu 1 (by kernel_rfl))
                      have y1 : L 1 = true := up_at hu 1 (by kernel_rfl)
                      have y3 : L 3 = true := up_at hu 3 (by kernel_rfl)
                      have n9 : L 9 = false := not_yet hL fun h => shut_at hs 7 4 (by kernel_rfl) (shut_at hs 9 7 (by kernel_rfl) (h))
                      have n12 : L 12 = false := not_yet hL fun h => shut_at hs 7 4 (by kernel_rfl) (shut_at hs 12 7 (by kernel_rfl) (h))
                      simp only [y0, y1, y3, n9, n12, hL, cond_true, cond_false] at hph
                      refine opIn_call (f := 23) (args := #[.pointer (some ⟨pz, 0, none⟩)]) (w' := w') rfl rfl (fun c h => by cases h) (fun _ => trivial) rfl ?_ ((callsIn_wide.2 (bytes_r hph.1.z (by omega))).mono ?_)
                      · simp only [y0, y1, y3, n9, n12, hL, cond_true, cond_false]
                        go_simp
                      · rintro e w2 ⟨Vn, rfl, hr, hb9⟩
                        exact ⟨_, rfl, V1, Vn, V3, V4, by simp [Act.put, upd, y0, y1, y3, n9, n12, hL], by simp only [upd, y0, y1, y3, n9, n12, hL]; exact ⟨hph.1.below hb9, hph.2.below hb9, hr⟩⟩
                    · skip
                      have y0 : L 0 = true := shut_at hs 1 0 (by kernel_rfl) (shut_at hs 4 1 (by kernel_rfl) (up_at hu 4 (by kernel_rfl)))
                      have y1 : L 1 = true := shut_at hs 4 1 (by kernel_rfl) (up_at hu 4 (by kernel_rfl))
                      have y3 : L 3 = true := shut_at hs 4 3 (by kernel_rfl) (up_at hu 4 (by kernel_rfl))
                      have y4 : L 4 = true := up_at hu 4 (by kernel_rfl)
                      have n9 : L 9 = false := not_yet hL fun h => shut_at hs 6 5 (by kernel_rfl) (shut_at hs 7 6 (by kernel_rfl) (shut_at hs 9 7 (by kernel_rfl) (h)))
                      have n12 : L 12 = false := not_yet hL fun h => shut_at hs 6 5 (by kernel_rfl) (shut_at hs 7 6 (by kernel_rfl) (shut_at hs 12 7 (by kernel_rfl) (h)))
                      simp only [y0, y1, y3, y4, n9, n12, hL, cond_true, cond_false] at hph
                      have hc := hph.2.2.conv
                      refine opIn_run (v := .string (strOf (bytesF s1.1))) (w' := w') rfl rfl (fun c h => by cases h) (fun _ => trivial) ?_ ⟨V1, V2, V3, V4, by simp [Act.put, upd, y0, y1, y3, y4, n9, n12, hL], by simp only [upd, y0, y1, y3, y4, n9, n12, hL]; exact hph⟩
                      simp only [y0, y1, y3, y4, n9, n12, hL, cond_true, cond_false]
                      go_simp
                    · skip
                      have y0 : L 0 = true := shut_at hs 1 0 (by kernel_rfl) (shut_at hs 2 1 (by kernel_rfl) (up_at hu 2 (by kernel_rfl)))
                      have y1 : L 1 = true := shut_at hs 2 1 (by kernel_rfl) (up_at hu 2 (by kernel_rfl))
                      have y2 : L 2 = true := up_at hu 2 (by kernel_rfl)
                      have y3 : L 3 = true := shut_at hs 4 3 (by kernel_rfl) (shut_at hs 5 4 (by kernel_rfl) (up_at hu 5 (by kernel_rfl)))
                      have y4 : L 4 = true := shut_at hs 5 4 (by kernel_rfl) (up_at hu 5 (by kernel_rfl))
                      have y5 : L 5 = true := up_at hu 5 (by kernel_rfl)
                      have n9 : L 9 = false := not_yet hL fun h => shut_at hs 7 6 (by kernel_rfl) (shut_at hs 9 7 (by kernel_rfl) (h))
                      have n12 : L 12 = false := not_yet hL fun h => shut_at hs 7 6 (by kernel_rfl) (shut_at hs 12 7 (by kernel_rfl) (h))
                      refine opIn_run (v := .bool true) (w' := w') rfl rfl (fun c h => by cases h) (fun _ => trivial) ?_ ⟨V1, V2, V3, V4, by simp [Act.put, upd, y0, y1, y2, y3, y4, y5, n9, n12, hL], by simpa [upd] using hph⟩
                      simp only [y0, y1, y2, y3, y4, y5, n9, n12, hL, cond_true, cond_false]
                      go_simp
                    · skip
                      have y0 : L 0 = true := shut_at hs 1 0 (by kernel_rfl) (shut_at hs 4 1 (by kernel_rfl) (up_at hu 4 (by kernel_rfl)))
                      have y1 : L 1 = true := shut_at hs 4 1 (by kernel_rfl) (up_at hu 4 (by kernel_rfl))
                      have y2 : L 2 = true := shut_at hs 6 2 (by kernel_rfl) (up_at hu 6 (by kernel_rfl))
                      have y3 : L 3 = true := shut_at hs 4 3 (by kernel_rfl) (up_at hu 4 (by kernel_rfl))
                      have y4 : L 4 = true := up_at hu 4 (by kernel_rfl)
                      have y5 : L 5 = true := shut_at hs 6 5 (by kernel_rfl) (up_at hu 6 (by kernel_rfl))
                      have y6 : L 6 = true := up_at hu 6 (by kernel_rfl)
                      have n9 : L 9 = false := not_yet hL fun h => shut_at hs 9 7 (by kernel_rfl) (h)
                      have n12 : L 12 = false := not_yet hL fun h => shut_at hs 12 7 (by kernel_rfl) (h)
                      refine opIn_run (v := .bool true) (w' := w') rfl rfl (fun c h => by cases h) (fun _ => trivial) ?_ ⟨V1, V2, V3, V4, by simp [Act.put, upd, y0, y1, y2, y3, y4, y5, y6, n9, n12, hL], by simpa [upd] using hph⟩
                      simp only [y0, y1, y2, y3, y4, y5, y6, n9, n12, hL, cond_true, cond_false]
                      go_simp
                    · skip
                      have y0 : L 0 = true := shut_at hs 1 0 (by kernel_rfl) (shut_at hs 4 1 (by kernel_rfl) (shut_at hs 7 4 (by kernel_rfl) (up_at hu 7 (by kernel_rfl))))
                      have y1 : L 1 = true := shut_at hs 4 1 (by kernel_rfl) (shut_at hs 7 4 (by kernel_rfl) (up_at hu 7 (by kernel_rfl)))
                      have y2 : L 2 = true := shut_at hs 6 2 (by kernel_rfl) (shut_at hs 7 6 (by kernel_rfl) (up_at hu 7 (by kernel_rfl)))
                      have y3 : L 3 = true := shut_at hs 4 3 (by kernel_rfl) (shut_at hs 7 4 (by kernel_rfl) (up_at hu 7 (by kernel_rfl)))
                      have y4 : L 4 = true := shut_at hs 7 4 (by kernel_rfl) (up_at hu 7 (by kernel_rfl))
                      have y5 : L 5 = true := shut_at hs 6 5 (by kernel_rfl) (shut_at hs 7 6 (by kernel_rfl) (up_at hu 7 (by kernel_rfl)))
                      have y6 : L 6 = true := shut_at hs 7 6 (by kernel_rfl) (up_at hu 7 (by kernel_rfl))
                      have y7 : L 7 = true := up_at hu 7 (by kernel_rfl)
                      have n9 : L 9 = false := not_yet hL fun h => shut_at hs 9 8 (by kernel_rfl) (h)
                      have n12 : L 12 = false := not_yet hL fun h => shut_at hs 9 8 (by kernel_rfl) (shut_at hs 12 9 (by kernel_rfl) (h))
                      refine opIn_run_g (v := .pointer (some ⟨py, 0, none⟩)) (w' := w') (j := 7) (b := true) rfl rfl (by simp [yielded, y0, y1, y2, y3, y4, y5, y6, y7, n9, n12, hL]) (fun c h => by cases h) (fun _ => trivial) ?_ ⟨V1, V2, V3, V4, by simp [Act.put, upd, y0, y1, y2, y3, y4, y5, y6, y7, n9, n12, hL], by simpa [upd] using hph⟩
                      simp only [y0, y1, y2, y3, y4, y5, y6, y7, n9, n12, hL, cond_true, cond_false]
                      go_simp
                    · skip
                      have y0 : L 0 = true := shut_at hs 1 0 (by kernel_rfl) (shut_at hs 4 1 (by kernel_rfl) (shut_at hs 7 4 (by kernel_rfl) (up_at hu 7 (by kernel_rfl))))
                      have y1 : L 1 = true := shut_at hs 4 1 (by kernel_rfl) (shut_at hs 7 4 (by kernel_rfl) (up_at hu 7 (by kernel_rfl)))
                      have y2 : L 2 = true := shut_at hs 6 2 (by kernel_rfl) (shut_at hs 7 6 (by kernel_rfl) (up_at hu 7 (by kernel_rfl)))
                      have y3 : L 3 = true := shut_at hs 4 3 (by kernel_rfl) (shut_at hs 7 4 (by kernel_rfl) (up_at hu 7 (by kernel_rfl)))
                      have y4 : L 4 = true := shut_at hs 7 4 (by kernel_rfl) (up_at hu 7 (by kernel_rfl))
                      have y5 : L 5 = true := shut_at hs 6 5 (by kernel_rfl) (shut_at hs 7 6 (by kernel_rfl) (up_at hu 7 (by kernel_rfl)))
                      have y6 : L 6 = true := shut_at hs 7 6 (by kernel_rfl) (up_at hu 7 (by kernel_rfl))
                      have y7 : L 7 = true := up_at hu 7 (by kernel_rfl)
                      have y8 : L 8 = true := up_at hu 8 (by kernel_rfl)
                      have n12 : L 12 = false := not_yet hL fun h => shut_at hs 12 9 (by kernel_rfl) (h)
                      simp only [y0, y1, y2, y3, y4, y5, y6, y7, y8, n12, hL, cond_true, cond_false] at hph
                      refine opIn_call_g (f := 23) (args := #[.pointer (some ⟨py, 0, none⟩)]) (w' := w') (j := 7) (b := true) rfl rfl (by simp [yielded, y0, y1, y2, y3, y4, y5, y6, y7, y8, n12, hL]) (fun c h => by cases h) (fun _ => trivial) rfl ?_ ((callsIn_wide.2 (bytes_r hph.1.y (by omega))).mono ?_)
                      · simp only [y0, y1, y2, y3, y4, y5, y6, y7, y8, n12, hL, cond_true, cond_false]
                        go_simp
                      · rintro e w2 ⟨Vn, rfl, hr, hb9⟩
                        exact ⟨_, rfl, V1, V2, Vn, V4, by simp [Act.put, upd, y0, y1, y2, y3, y4, y5, y6, y7, y8, n12, hL], by simp only [upd, y0, y1, y2, y3, y4, y5, y6, y7, y8, n12, hL]; exact ⟨hph.1.below hb9, hr⟩⟩
                    · skip
                      have y0 : L 0 = true := shut_at hs 1 0 (by kernel_rfl) (shut_at hs 4 1 (by kernel_rfl) (shut_at hs 7 4 (by kernel_rfl) (up_at hu 7 (by kernel_rfl))))
                      have y1 : L 1 = true := shut_at hs 4 1 (by kernel_rfl) (shut_at hs 7 4 (by kernel_rfl) (up_at hu 7 (by kernel_rfl)))
                      have y2 : L 2 = true := shut_at hs 6 2 (by kernel_rfl) (shut_at hs 7 6 (by kernel_rfl) (up_at hu 7 (by kernel_rfl)))
                      have y3 : L 3 = true := shut_at hs 4 3 (by kernel_rfl) (shut_at hs 7 4 (by kernel_rfl) (up_at hu 7 (by kernel_rfl)))
                      have y4 : L 4 = true := shut_at hs 7 4 (by kernel_rfl) (up_at hu 7 (by kernel_rfl))
                      have y5 : L 5 = true := shut_at hs 6 5 (by kernel_rfl) (shut_at hs 7 6 (by kernel_rfl) (up_at hu 7 (by kernel_rfl)))
                      have y6 : L 6 = true := shut_at hs 7 6 (by kernel_rfl) (up_at hu 7 (by kernel_rfl))
                      have y7 : L 7 = true := up_at hu 7 (by kernel_rfl)
                      have y8 : L 8 = true := shut_at hs 9 8 (by kernel_rfl) (up_at hu 9 (by kernel_rfl))
                      have y9 : L 9 = true := up_at hu 9 (by kernel_rfl)
                      simp only [y0, y1, y2, y3, y4, y5, y6, y7, y8, y9, hL, cond_true, cond_false] at hph
                      have hc := RowB.conv (show RowB w' V3 (bytesF s2.1) by cases h4 : L 12 <;> simp only [h4, cond_true, cond_false] at hph <;> first | exact hph.2 | exact hph.2.1)
                      refine opIn_run_g (v := .string (strOf (bytesF s2.1))) (w' := w') (j := 7) (b := true) rfl rfl (by simp [yielded, y0, y1, y2, y3, y4, y5, y6, y7, y8, y9, hL]) (fun c h => by cases h) (fun _ => trivial) ?_ ⟨V1, V2, V3, V4, by simp [Act.put, upd, y0, y1, y2, y3, y4, y5, y6, y7, y8, y9, hL], by simp only [upd, y0, y1, y2, y3, y4, y5, y6, y7, y8, y9, hL]; exact hph⟩
                      simp only [y0, y1, y2, y3, y4, y5, y6, y7, y8, y9, hL, cond_true, cond_false]
                      go_simp
                    · skip
                      have y0 : L 0 = true := shut_at hs 1 0 (by kernel_rfl) (shut_at hs 4 1 (by kernel_rfl) (shut_at hs 7 4 (by kernel_rfl) (up_at hu 7 (by kernel_rfl))))
                      have y1 : L 1 = true := shut_at hs 4 1 (by kernel_rfl) (shut_at hs 7 4 (by kernel_rfl) (up_at hu 7 (by kernel_rfl)))
                      have y2 : L 2 = true := shut_at hs 6 2 (by kernel_rfl) (shut_at hs 7 6 (by kernel_rfl) (up_at hu 7 (by kernel_rfl)))
                      have y3 : L 3 = true := shut_at hs 4 3 (by kernel_rfl) (shut_at hs 7 4 (by kernel_rfl) (up_at hu 7 (by kernel_rfl)))
                      have y4 : L 4 = true := shut_at hs 7 4 (by kernel_rfl) (up_at hu 7 (by kernel_rfl))
                      have y5 : L 5 = true := shut_at hs 6 5 (by kernel_rfl) (shut_at hs 7 6 (by kernel_rfl) (up_at hu 7 (by kernel_rfl)))
                      have y6 : L 6 = true := shut_at hs 7 6 (by kernel_rfl) (up_at hu 7 (by kernel_rfl))
                      have y7 : L 7 = true := up_at hu 7 (by kernel_rfl)
                      have n12 : L 12 = false := not_yet hL fun h => shut_at hs 12 11 (by kernel_rfl) (h)
                      refine opIn_run_g (v := .pointer (some ⟨pv, 0, none⟩)) (w' := w') (j := 7) (b := true) rfl rfl (by simp [yielded, y0, y1, y2, y3, y4, y5, y6, y7, n12, hL]) (fun c h => by cases h) (fun _ => trivial) ?_ ⟨V1, V2, V3, V4, by simp [Act.put, upd, y0, y1, y2, y3, y4, y5, y6, y7, n12, hL], by simpa [upd] using hph⟩
                      simp only [y0, y1, y2, y3, y4, y5, y6, y7, n12, hL, cond_true, cond_false]
                      go_simp
                    · skip
                      have y0 : L 0 = true := shut_at hs 1 0 (by kernel_rfl) (shut_at hs 4 1 (by kernel_rfl) (shut_at hs 7 4 (by kernel_rfl) (up_at hu 7 (by kernel_rfl))))
                      have y1 : L 1 = true := shut_at hs 4 1 (by kernel_rfl) (shut_at hs 7 4 (by kernel_rfl) (up_at hu 7 (by kernel_rfl)))
                      have y2 : L 2 = true := shut_at hs 6 2 (by kernel_rfl) (shut_at hs 7 6 (by kernel_rfl) (up_at hu 7 (by kernel_rfl)))
                      have y3 : L 3 = true := shut_at hs 4 3 (by kernel_rfl) (shut_at hs 7 4 (by kernel_rfl) (up_at hu 7 (by kernel_rfl)))
                      have y4 : L 4 = true := shut_at hs 7 4 (by kernel_rfl) (up_at hu 7 (by kernel_rfl))
                      have y5 : L 5 = true := shut_at hs 6 5 (by kernel_rfl) (shut_at hs 7 6 (by kernel_rfl) (up_at hu 7 (by kernel_rfl)))
                      have y6 : L 6 = true := shut_at hs 7 6 (by kernel_rfl) (up_at hu 7 (by kernel_rfl))
                      have y7 : L 7 = true := up_at hu 7 (by kernel_rfl)
                      have y8 : L 8 = true := shut_at hs 9 8 (by kernel_rfl) (up_at hu 9 (by kernel_rfl))
                      have y9 : L 9 = true := up_at hu 9 (by kernel_rfl)
                      have y11 : L 11 = true := up_at hu 11 (by kernel_rfl)
                      simp only [y0, y1, y2, y3, y4, y5, y6, y7, y8, y9, y11, hL, cond_true, cond_false] at hph
                      refine opIn_call_g (f := 23) (args := #[.pointer (some ⟨pv, 0, none⟩)]) (w' := w') (j := 7) (b := true) rfl rfl (by simp [yielded, y0, y1, y2, y3, y4, y5, y6, y7, y8, y9, y11, hL]) (fun c h => by cases h) (fun _ => trivial) rfl ?_ ((callsIn_wide.2 (bytes_r hph.1.v (by omega))).mono ?_)
                      · simp only [y0, y1, y2, y3, y4, y5, y6, y7, y8, y9, y11, hL, cond_true, cond_false]
                        go_simp
                      · rintro e w2 ⟨Vn, rfl, hr, hb9⟩
                        exact ⟨_, rfl, V1, V2, V3, Vn, by simp [Act.put, upd, y0, y1, y2, y3, y4, y5, y6, y7, y8, y9, y11, hL], by simp only [upd, y0, y1, y2, y3, y4, y5, y6, y7, y8, y9, y11, hL]; exact ⟨hph.1.below hb9, hph.2.below hb9, hr⟩⟩
                    · skip
                      have y0 : L 0 = true := shut_at hs 1 0 (by kernel_rfl) (shut_at hs 4 1 (by kernel_rfl) (shut_at hs 7 4 (by kernel_rfl) (up_at hu 7 (by kernel_rfl))))
                      have y1 : L 1 = true := shut_at hs 4 1 (by kernel_rfl) (shut_at hs 7 4 (by kernel_rfl) (up_at hu 7 (by kernel_rfl)))
                      have y2 : L 2 = true := shut_at hs 6 2 (by kernel_rfl) (shut_at hs 7 6 (by kernel_rfl) (up_at hu 7 (by kernel_rfl)))
                      have y3 : L 3 = true := shut_at hs 4 3 (by kernel_rfl) (shut_at hs 7 4 (by kernel_rfl) (up_at hu 7 (by kernel_rfl)))
                      have y4 : L 4 = true := shut_at hs 7 4 (by kernel_rfl) (up_at hu 7 (by kernel_rfl))
                      have y5 : L 5 = true := shut_at hs 6 5 (by kernel_rfl) (shut_at hs 7 6 (by kernel_rfl) (up_at hu 7 (by kernel_rfl)))
                      have y6 : L 6 = true := shut_at hs 7 6 (by kernel_rfl) (up_at hu 7 (by kernel_rfl))
                      have y7 : L 7 = true := up_at hu 7 (by kernel_rfl)
                      have y8 : L 8 = true := shut_at hs 9 8 (by kernel_rfl) (shut_at hs 12 9 (by kernel_rfl) (up_at hu 12 (by kernel_rfl)))
                      have y9 : L 9 = true := shut_at hs 12 9 (by kernel_rfl) (up_at hu 12 (by kernel_rfl))
                      have y11 : L 11 = true := shut_at hs 12 11 (by kernel_rfl) (up_at hu 12 (by kernel_rfl))
                      have y12 : L 12 = true := up_at hu 12 (by kernel_rfl)
                      simp only [y0, y1, y2, y3, y4, y5, y6, y7, y8, y9, y11, y12, hL, cond_true, cond_false] at hph
                      have hc := hph.2.2.conv
                      refine opIn_run_g (v := .string (strOf (bytesF s2.1))) (w' := w') (j := 7) (b := true) rfl rfl (by simp [yielded, y0, y1, y2, y3, y4, y5, y6, y7, y8, y9, y11, y12, hL]) (fun c h => by cases h) (fun _ => trivial) ?_ ⟨V1, V2, V3, V4, by simp [Act.put, upd, y0, y1, y2, y3, y4, y5, y6, y7, y8, y9, y11, y12, hL], by simp only [upd, y0, y1, y2, y3, y4, y5, y6, y7, y8, y9, y11, y12, hL]; exact hph⟩
                      simp only [y0, y1, y2, y3, y4, y5, y6, y7, y8, y9, y11, y12, hL, cond_true, cond_false]
                      go_simp
                    · skip
                      have y0 : L 0 = true := shut_at hs 1 0 (by kernel_rfl) (shut_at hs 4 1 (by kernel_rfl) (shut_at hs 7 4 (by kernel_rfl) (up_at hu 7 (by kernel_rfl))))
                      have y1 : L 1 = true := shut_at hs 4 1 (by kernel_rfl) (shut_at hs 7 4 (by kernel_rfl) (up_at hu 7 (by kernel_rfl)))
                      have y2 : L 2 = true := shut_at hs 6 2 (by kernel_rfl) (shut_at hs 7 6 (by kernel_rfl) (up_at hu 7 (by kernel_rfl)))
                      have y3 : L 3 = true := shut_at hs 4 3 (by kernel_rfl) (shut_at hs 7 4 (by kernel_rfl) (up_at hu 7 (by kernel_rfl)))
                      have y4 : L 4 = true := shut_at hs 7 4 (by kernel_rfl) (up_at hu 7 (by kernel_rfl))
                      have y5 : L 5 = true := shut_at hs 6 5 (by kernel_rfl) (shut_at hs 7 6 (by kernel_rfl) (up_at hu 7 (by kernel_rfl)))
                      have y6 : L 6 = true := shut_at hs 7 6 (by kernel_rfl) (up_at hu 7 (by kernel_rfl))
                      have y7 : L 7 = true := up_at hu 7 (by kernel_rfl)
                      have y8 : L 8 = true := shut_at hs 9 8 (by kernel_rfl) (shut_at hs 10 9 (by kernel_rfl) (up_at hu 10 (by kernel_rfl)))
                      have y9 : L 9 = true := shut_at hs 10 9 (by kernel_rfl) (up_at hu 10 (by kernel_rfl))
                      have y10 : L 10 = true := up_at hu 10 (by kernel_rfl)
                      have y11 : L 11 = true := shut_at hs 12 11 (by kernel_rfl) (shut_at hs 13 12 (by kernel_rfl) (up_at hu 13 (by kernel_rfl)))
                      have y12 : L 12 = true := shut_at hs 13 12 (by kernel_rfl) (up_at hu 13 (by kernel_rfl))
                      have y13 : L 13 = true := up_at hu 13 (by kernel_rfl)
                      refine opIn_run_g (v := .bool true) (w' := w') (j := 7) (b := true) rfl rfl (by simp [yielded, y0, y1, y2, y3, y4, y5, y6, y7, y8, y9, y10, y11, y12, y13, hL]) (fun c h => by cases h) (fun _ => trivial) ?_ ⟨V1, V2, V3, V4, by simp [Act.put, upd, y0, y1, y2, y3, y4, y5, y6, y7, y8, y9, y10, y11, y12, y13, hL], by simpa [upd] using hph⟩
                      simp only [y0, y1, y2, y3, y4, y5, y6, y7, y8, y9, y10, y11, y12, y13, hL, cond_true, cond_false]
                      go_simp
                    · skip
                      have y0 : L 0 = true := shut_at hs 1 0 (by kernel_rfl) (shut_at hs 4 1 (by kernel_rfl) (shut_at hs 7 4 (by kernel_rfl) (up_at hu 7 (by kernel_rfl))))
                      have y1 : L 1 = true := shut_at hs 4 1 (by kernel_rfl) (shut_at hs 7 4 (by kernel_rfl) (up_at hu 7 (by kernel_rfl)))
                      have y2 : L 2 = true := shut_at hs 6 2 (by kernel_rfl) (shut_at hs 7 6 (by kernel_rfl) (up_at hu 7 (by kernel_rfl)))
                      have y3 : L 3 = true := shut_at hs 4 3 (by kernel_rfl) (shut_at hs 7 4 (by kernel_rfl) (up_at hu 7 (by kernel_rfl)))
                      have y4 : L 4 = true := shut_at hs 7 4 (by kernel_rfl) (up_at hu 7 (by kernel_rfl))
                      have y5 : L 5 = true := shut_at hs 6 5 (by kernel_rfl) (shut_at hs 7 6 (by kernel_rfl) (up_at hu 7 (by kernel_rfl)))
                      have y6 : L 6 = true := shut_at hs 7 6 (by kernel_rfl) (up_at hu 7 (by kernel_rfl))
                      have y7 : L 7 = true := up_at hu 7 (by kernel_rfl)
                      have y8 : L 8 = true := shut_at hs 9 8 (by kernel_rfl) (shut_at hs 10 9 (by kernel_rfl) (shut_at hs 14 10 (by kernel_rfl) (up_at hu 14 (by kernel_rfl))))
                      have y9 : L 9 = true := shut_at hs 10 9 (by kernel_rfl) (shut_at hs 14 10 (by kernel_rfl) (up_at hu 14 (by kernel_rfl)))
                      have y10 : L 10 = true := shut_at hs 14 10 (by kernel_rfl) (up_at hu 14 (by kernel_rfl))
                      have y11 : L 11 = true := shut_at hs 12 11 (by kernel_rfl) (shut_at hs 13 12 (by kernel_rfl) (shut_at hs 14 13 (by kernel_rfl) (up_at hu 14 (by kernel_rfl))))
                      have y12 : L 12 = true := shut_at hs 13 12 (by kernel_rfl) (shut_at hs 14 13 (by kernel_rfl) (up_at hu 14 (by kernel_rfl)))
                      have y13 : L 13 = true := shut_at hs 14 13 (by kernel_rfl) (up_at hu 14 (by kernel_rfl))
                      have y14 : L 14 = true := up_at hu 14 (by kernel_rfl)
                      refine opIn_run (v := .bool true) (w' := w') rfl rfl (fun c h => by cases h) (fun _ => trivial) ?_ ⟨V1, V2, V3, V4, by simp [Act.put, upd, y0, y1, y2, y3, y4, y5, y6, y7, y8, y9, y10, y11, y12, y13, y14, hL], by simpa [upd] using hph⟩
                      simp only [y0, y1, y2, y3, y4, y5, y6, y7, y8, y9, y10, y11, y12, y13, y14, hL, cond_true, cond_false]
                      go_simp
                    · skip
                      have y0 : L 0 = true := up_at hu 0 (by kernel_rfl)
                      have y1 : L 1 = true := up_at hu 1 (by kernel_rfl)
                      have y2 : L 2 = true := up_at hu 2 (by kernel_rfl)
                      have y3 : L 3 = true := up_at hu 3 (by kernel_rfl)
                      have y4 : L 4 = true := up_at hu 4 (by kernel_rfl)
                      have y5 : L 5 = true := up_at hu 5 (by kernel_rfl)
                      have y6 : L 6 = true := up_at hu 6 (by kernel_rfl)
                      have y7 : L 7 = true := up_at hu 7 (by kernel_rfl)
                      have y8 : L 8 = true := up_at hu 8 (by kernel_rfl)
                      have y9 : L 9 = true := up_at hu 9 (by kernel_rfl)
                      have y10 : L 10 = true := up_at hu 10 (by kernel_rfl)
                      have y11 : L 11 = true := up_at hu 11 (by kernel_rfl)
                      have y12 : L 12 = true := up_at hu 12 (by kernel_rfl)
                      have y13 : L 13 = true := up_at hu 13 (by kernel_rfl)
                      have y14 : L 14 = true := up_at hu 14 (by kernel_rfl)
                      have y15 : L 15 = true := up_at hu 15 (by kernel_rfl)
                      refine opIn_run (v := .bool true) (w' := w') rfl rfl (fun c h => by cases h) (fun _ => trivial) ?_ ⟨V1, V2, V3, V4, by simp [Act.put, upd, y0, y1, y2, y3, y4, y5, y6, y7, y8, y9, y10, y11, y12, y13, y14, y15, hL], by simpa [upd] using hph⟩
                      simp only [y0, y1, y2, y3, y4, y5, y6, y7, y8, y9, y10, y11, y12, y13, y14, y15, hL, cond_true, cond_false]
                      go_simp
                  case finq =>
                    intro L a' w' hall hI
                    obtain ⟨V1, V2, V3, V4, rfl, hph⟩ := hI
                    have l0 := hall 0 (by decide)
                    have l1 := hall 1 (by decide)
                    have l2 := hall 2 (by decide)
                    have l3 := hall 3 (by decide)
                    have l4 := hall 4 (by decide)
                    have l5 := hall 5 (by decide)
                    have l6 := hall 6 (by decide)
                    have l7 := hall 7 (by decide)
                    have l8 := hall 8 (by decide)
                    have l9 := hall 9 (by decide)
                    have l10 := hall 10 (by decide)
                    have l11 := hall 11 (by decide)
                    have l12 := hall 12 (by decide)
                    have l13 := hall 13 (by decide)
                    have l14 := hall 14 (by decide)
                    have l15 := hall 15 (by decide)
                    have l16 := hall 16 (by decide)
                    simp only [l0, l1, l2, l3, l4, l5, l6, l7, l8, l9, l10, l11, l12, l13, l14, l15, l16, cond_true] at hph ⊢
                    clear l0 l1 l2 l3 l4 l5 l6 l7 l8 l9 l10 l11 l12 l13 l14 l15 l16 hall
                    have HBF := Lib.hid hph.1.bel
                    clear hph
                    obtain ⟨wf, hwf⟩ : ∃ wf : World, wf = w' := ⟨_, rfl⟩
                    rw [← hwf] at HBF ⊢
                    clear hwf
                    go_wp2
                    go_ret
                    exact ⟨rfl, HBF.out⟩
end Go.Proofs.Ythgbnkcbcepjdaa
