/- marks: Parse, by a run over segments. -/
import Derived.Test.YtlbfjaifemnkpaaMkQ5
import Derived.Test.YtlbfjaifemnkpaaReg3
import Derived.Laws.Rows
import Derived.Deep.QuietTactic
import Derived.Test.YtlbfjaifemnkpaaMkKn
import Derived.Deep.LoopGhost
set_option linter.unusedVariables false
set_option linter.unusedSimpArgs false
namespace Go.Proofs.Ytlbfjaifemnkpaa
section
section
section
open Go.RowKit
set_option maxRecDepth 100000
/-- A parser in memory: its Reader, its map, itself. -/
structure PS (w : World) (P p m lo : Nat) (l : List Int) (cells : Array Value) (es : Array MapEntry) (clock : Nat) : Prop where
  pb : w.heap[P]? = some (.cells cells 69 (0, 0))
  rd : Rd w lo p l 0
  mp : w.heap[m]? = some (.map es clock)
  sep : p < m ∧ m < P
section
variable {w w' : World} {P p m lo clock : Nat} {l l' : List Int} {cells : Array Value} {es : Array MapEntry}
theorem PS.get (h : PS w P p m lo l cells es clock) (hR : Rd w' lo p l' 0) (hg : w.grownBy w' (some p)) : PS w' P p m lo l' cells es clock := by
  have hs := h.sep
  exact ⟨(hg.block P (blk_lt h.pb) (fun e => by injection e with e; omega)).trans h.pb, hR, (hg.block m (blk_lt h.mp) (fun e => by injection e with e; omega)).trans h.mp, hs⟩
theorem PS.more (h : PS w P p m lo l cells es clock) (hb : Below w.heap.size w w') : PS w' P p m lo l cells es clock :=
  ⟨(hb.block P (blk_lt h.pb)).trans h.pb, h.rd.below hb h.rd.lt, (hb.block m (blk_lt h.mp)).trans h.mp, h.sep⟩
theorem PS.drew (h : PS w P p m lo l cells es clock) : PS w.drew P p m lo l cells es clock := h.more (below_drewN (Below.refl _ _) 1)
theorem take_own {ct tl : List Int} (h : PS w P p m lo (ct ++ tl) cells es clock) (hl : (ct ++ tl).length ≤ 1000000) :
    Calls Try.prog 63 #[.pointer (some ⟨p, 0, none⟩), .int .i64 (ct.length : Int)] w fun e w' => ∃ (A : Option Addr) (c : Nat), e = .returned (.slice A ct.length c) ∧ PS w' P p m lo tl cells es clock ∧ Eff [p] w w' ∧ w'.ownsRow (P + 1) 5 1 (.slice A ct.length c) ct.length (ct.map (Value.int .u8)) := by
  refine (take_yes ct.length h.rd (by simp) (by omega)).mono ?_
  rintro e w' ⟨v, rfl, hown, hR, hg⟩
  rw [List.take_left] at hown
  rw [List.drop_left] at hR
  obtain ⟨A, c, rfl, _⟩ := own_any hown
  exact ⟨A, c, rfl, h.get hR hg, Eff.of_grown hg, own_lowq hown (blk_lt h.pb)⟩
end
set_option maxHeartbeats 8000000 in
/-- A whole segment, of a marker that may stand there. -/
theorem seg_flow (P p m lo clock : Nat) (mk a b : Int) (ct tl : List Int) (es : Array MapEntry) (v1 v2 v3 v4 v5 v6 v7 v8 v9 v10 v11 v12 v13 v14 v15 v16 v17 v18 : Value) (w : World) (ow : Bool) (K : Option Addr → Nat → World → Bool → World → Prop)
    (H : PS w P p m lo (a :: b :: (ct ++ tl)) #[.pointer (some ⟨p, 0, none⟩), v1, v2, v3, v4, v5, v6, v7, v8, v9, v10, v11, v12, v13, v14, v15, v16, v17, v18, .map (some m)] es clock) (hO : Oct (a :: b :: (ct ++ tl))) (hL : a * 256 + b = (ct.length : Int) + 2) (hlen : (ct ++ tl).length ≤ 1000000)
    (hmk : 65280 ≤ mk ∧ mk ≤ 65535) (hna : ¬ (65328 ≤ mk ∧ mk ≤ 65343)) (hA : Calls Try.prog 62 #[.pointer (some ⟨P, 0, none⟩), .int .i64 mk] w fun e w' => e = .returned (.bool true) ∧ w = w')
    (hW : ∀ (A : Option Addr) (c : Nat) (w2 : World), w2.ownsRow (P + 1) 5 1 (.slice A ct.length c) ct.length (ct.map (Value.int .u8)) → Calls Try.prog 65 #[.int .i64 mk, .slice A ct.length c] w2 fun e w' => e = .returned (.bool ow) ∧ w2 = w')
    (hK : ow = false → ∀ (A : Option Addr) (c : Nat) (w2 : World), PS w2 P p m lo tl #[.pointer (some ⟨p, 0, none⟩), v1, v2, v3, v4, v5, v6, v7, v8, v9, v10, v11, v12, v13, v14, v15, v16, v17, v18, .map (some m)] es clock → w2.ownsRow (P + 1) 5 1 (.slice A ct.length c) ct.length (ct.map (Value.int .u8)) → Calls Try.prog 66 #[.pointer (some ⟨P, 0, none⟩), .int .i64 mk, .slice A ct.length c] w2 fun e w' => ∃ ok, e = .returned (.bool ok) ∧ K A c w2 ok w') :
    Calls Try.prog 34 #[.pointer (some ⟨P, 0, none⟩), .int .i64 mk] w fun e w' => ∃ (A : Option Addr) (c : Nat) (w2 : World), PS w2 P p m lo tl #[.pointer (some ⟨p, 0, none⟩), v1, v2, v3, v4, v5, v6, v7, v8, v9, v10, v11, v12, v13, v14, v15, v16, v17, v18, .map (some m)] es clock ∧ w2.ownsRow (P + 1) 5 1 (.slice A ct.length c) ct.length (ct.map (Value.int .u8)) ∧ Eff [p] w w2 ∧
      ((ow = true ∧ e = .returned (.int .i64 13) ∧ w' = w2) ∨ (ow = false ∧ ∃ ok : Bool, e = .returned (.int .i64 (if ok then 0 else 10)) ∧ K A c w2 ok w')) := by
  have HPS := Lib.hid H
  have HO := Lib.hid hO
  have HL := Lib.hid hL
  have HA := Lib.hid hA
  have HW := Lib.hid hW
  have HK := Lib.hid hK
  have hln : (ct ++ tl).length ≤ 1000000 := hlen
  have hlc : (ct ++ tl).length ≤ 1000000 := hlen
  have hln2 : tl.length ≤ 1000000 ∧ ct.length ≤ 1000000 := by rw [List.length_append] at hlen; omega
  have hsh : mk / 256 = 255 := by omega
  have hna2 : mk < 65328 ∨ 65343 < mk := by omega
  have hec : (tl = [] ∧ endE tl.length 0 = 0) ∨ (tl ≠ [] ∧ endE tl.length 0 = 9) := by
    cases tl with
    | nil => exact .inl ⟨rfl, rfl⟩
    | cons x t => exact .inr ⟨by simp, by simp [endE]⟩
  obtain ⟨ee, hee⟩ : ∃ n, endE tl.length 0 = n := ⟨_, rfl⟩
  rw [hee] at hec
  have hec2 : ee = 0 ∨ ee = 9 := by rcases hec with h | h; exact .inl h.2; exact .inr h.2
  have HEE := Lib.hid hee
  clear H hO hL hA hW hK hna hlen hec hee
  rcases hna2 with hlo | hhi
  · rcases hec2 with rfl | rfl
    · go_enter Try.func34, Try.ntmps34
      go_wp2_with fail
      refine HA.out.mono ?_
      rintro e_ w1 ⟨rfl, rfl⟩
      go_upto_region 5 with fail
      obtain ⟨VL, hVL⟩ : ∃ VL : Option Addr × Nat → List (Nat × Nat × Value), VL = fun z => [(0, 22, .pointer (some ⟨P, 0, none⟩)), (1, 23, .pointer (some ⟨P, 0, none⟩)), (2, 24, .pointer (some ⟨P, 0, none⟩)), (3, 25, .pointer (some ⟨p, 0, none⟩)), (4, 26, .pointer (some ⟨P, 0, none⟩)), (5, 27, .pointer (some ⟨P, 0, none⟩)), (6, 28, .pointer (some ⟨P, 0, none⟩)), (7, 29, .pointer (some ⟨p, 0, none⟩)), (8, 30, .int .i64 (a * 256 + b)), (9, 31, .int .i64 (ct.length : Int)), (10, 32, .slice z.1 ct.length z.2), (11, 5, .slice z.1 ct.length z.2)] := ⟨_, rfl⟩
      have hok : ∀ z, manyOk 52 (VL z) := fun z => by rw [hVL]; exact okB_ok rfl
      have HVL := Lib.hid hVL
      have hvi : ∀ z, ∀ x ∈ VL z, x.1 < 12 := fun z => by rw [hVL]; exact ltB_ok rfl
      have HOK := Lib.hid hok
      have HVI := Lib.hid hvi
      clear hVL hok hvi
      refine (wpIn_wide (n := 9)).1 (regionIn_many (N := 52) (w := _) VL (fun L z w' => (bif L 10 then (PS w' P p m lo tl #[.pointer (some ⟨p, 0, none⟩), v1, v2, v3, v4, v5, v6, v7, v8, v9, v10, v11, v12, v13, v14, v15, v16, v17, v18, .map (some m)] es clock ∧ Eff [p] w w' ∧ w'.ownsRow (P + 1) 5 1 (.slice z.1 ct.length z.2) ct.length (ct.map (Value.int .u8))) else (bif L 8 then (PS w' P p m lo (ct ++ tl) #[.pointer (some ⟨p, 0, none⟩), v1, v2, v3, v4, v5, v6, v7, v8, v9, v10, v11, v12, v13, v14, v15, v16, v17, v18, .map (some m)] es clock ∧ Eff [p] w w') else PS w' P p m lo (a :: b :: (ct ++ tl)) #[.pointer (some ⟨p, 0, none⟩), v1, v2, v3, v4, v5, v6, v7, v8, v9, v10, v11, v12, v13, v14, v15, v16, v17, v18, .map (some m)] es clock ∧ Eff [p] w w'))) [(0, .pointer (some ⟨P, 0, none⟩))] (by kernel_rfl) (by kernel_rfl) rfl (by simp only [List.forall_mem_cons, List.not_mem_nil, false_imp_iff, implies_true, and_true]; exact rfl) HVI.out (none, 0) ?start ?step ?fin)
      case start => exact ⟨HPS.out.drew, Eff.of_below (below_drewN (Below.refl _ _) 1)⟩
      case step =>
        intro gg_ hgN hgF ii_ hii_ L z w' hph hs hu
        have hF0 := hgF (0, .pointer (some ⟨P, 0, none⟩)) (by simp)
        have hL := hu.1
        have hii_ : ii_ < 12 := hii_
        clear hgF
        obtain rfl | rfl | rfl | rfl | rfl | rfl | rfl | rfl | rfl | rfl | rfl | rfl := (by omega : ii_ = 0 ∨ ii_ = 1 ∨ ii_ = 2 ∨ ii_ = 3 ∨ ii_ = 4 ∨ ii_ = 5 ∨ ii_ = 6 ∨ ii_ = 7 ∨ ii_ = 8 ∨ ii_ = 9 ∨ ii_ = 10 ∨ ii_ = 11)
        · skip
          have n10 : L 10 = false := not_yet hL fun h => shut_at hs 1 0 (by kernel_rfl) (shut_at hs 2 1 (by kernel_rfl) (shut_at hs 3 2 (by kernel_rfl) (shut_at hs 10 3 (by kernel_rfl) (h))))
          have n11 : L 11 = false := not_yet hL fun h => shut_at hs 11 0 (by kernel_rfl) (h)
          try simp only [n10, n11, hL, cond_true, cond_false] at hph
          have e0 : (many gg_ L (VL z))[0]?.getD undef = .pointer (some ⟨P, 0, none⟩) := many_out3 hgN (HOK.out z) (by rw [HVL.out]; rfl) hF0
          refine opIn_run (v := .pointer (some ⟨P, 0, none⟩)) (w' := w') rfl rfl (fun c h => by cases h) (fun _ => trivial) ?_ ⟨z, by exact many_put3 (HOK.out _) (by rw [HVL.out]; rfl) hL, by simp only [upd, n10, n11, hL, Nat.reduceBEq, cond_true, cond_false]; exact hph⟩
          go_simp
        · skip
          have y0 : L 0 = true := up_at hu 0 (by kernel_rfl)
          have n10 : L 10 = false := not_yet hL fun h => shut_at hs 2 1 (by kernel_rfl) (shut_at hs 3 2 (by kernel_rfl) (shut_at hs 10 3 (by kernel_rfl) (h)))
          have n11 : L 11 = false := not_yet hL fun h => shut_at hs 11 1 (by kernel_rfl) (h)
          try simp only [y0, n10, n11, hL, cond_true, cond_false] at hph
          have e22 : (many gg_ L (VL z))[22]?.getD undef = .pointer (some ⟨P, 0, none⟩) := many_eval3 hgN (HOK.out z) (by rw [HVL.out]; rfl) y0
          refine opIn_run (v := .pointer (some ⟨P, 0, none⟩)) (w' := w') rfl rfl (fun c h => by cases h) (fun _ => trivial) ?_ ⟨z, by exact many_put3 (HOK.out _) (by rw [HVL.out]; rfl) hL, by simp only [upd, y0, n10, n11, hL, Nat.reduceBEq, cond_true, cond_false]; exact hph⟩
          go_simp
        · skip
          have y1 : L 1 = true := up_at hu 1 (by kernel_rfl)
          have n10 : L 10 = false := not_yet hL fun h => shut_at hs 3 2 (by kernel_rfl) (shut_at hs 10 3 (by kernel_rfl) (h))
          have n11 : L 11 = false := not_yet hL fun h => shut_at hs 11 2 (by kernel_rfl) (h)
          try simp only [y1, n10, n11, hL, cond_true, cond_false] at hph
          have e23 : (many gg_ L (VL z))[23]?.getD undef = .pointer (some ⟨P, 0, none⟩) := many_eval3 hgN (HOK.out z) (by rw [HVL.out]; rfl) y1
          refine opIn_run (v := .pointer (some ⟨P, 0, none⟩)) (w' := w') rfl rfl (fun c h => by cases h) (fun _ => trivial) ?_ ⟨z, by exact many_put3 (HOK.out _) (by rw [HVL.out]; rfl) hL, by simp only [upd, y1, n10, n11, hL, Nat.reduceBEq, cond_true, cond_false]; exact hph⟩
          go_simp
        · skip
          have y2 : L 2 = true := up_at hu 2 (by kernel_rfl)
          have n10 : L 10 = false := not_yet hL fun h => shut_at hs 10 3 (by kernel_rfl) (h)
          have n11 : L 11 = false := not_yet hL fun h => shut_at hs 11 3 (by kernel_rfl) (h)
          try simp only [y2, n10, n11, hL, cond_true, cond_false] at hph
          have hcell : w'.cell? ⟨P, 0, none⟩ = some (.pointer (some ⟨p, 0, none⟩)) := by revert hph; cases L 8 <;> cases L 10 <;> (intro hph; exact rb_cell hph.1.pb 0)
          have e24 : (many gg_ L (VL z))[24]?.getD undef = .pointer (some ⟨P, 0, none⟩) := many_eval3 hgN (HOK.out z) (by rw [HVL.out]; rfl) y2
          refine opIn_run (v := .pointer (some ⟨p, 0, none⟩)) (w' := w') rfl rfl (fun c h => by cases h) (fun _ => trivial) ?_ ⟨z, by exact many_put3 (HOK.out _) (by rw [HVL.out]; rfl) hL, by simp only [upd, y2, n10, n11, hL, Nat.reduceBEq, cond_true, cond_false]; exact hph⟩
          go_simp
        · skip
          have n8 : L 8 = false := not_yet hL fun h => shut_at hs 5 4 (by kernel_rfl) (shut_at hs 6 5 (by kernel_rfl) (shut_at hs 7 6 (by kernel_rfl) (shut_at hs 8 7 (by kernel_rfl) (h))))
          have n10 : L 10 = false := not_yet hL fun h => shut_at hs 5 4 (by kernel_rfl) (shut_at hs 6 5 (by kernel_rfl) (shut_at hs 7 6 (by kernel_rfl) (shut_at hs 8 7 (by kernel_rfl) (shut_at hs 10 8 (by kernel_rfl) (h)))))
          have n11 : L 11 = false := not_yet hL fun h => shut_at hs 11 4 (by kernel_rfl) (h)
          try simp only [n8, n10, n11, hL, cond_true, cond_false] at hph
          have e0 : (many gg_ L (VL z))[0]?.getD undef = .pointer (some ⟨P, 0, none⟩) := many_out3 hgN (HOK.out z) (by rw [HVL.out]; rfl) hF0
          refine opIn_run (v := .pointer (some ⟨P, 0, none⟩)) (w' := w') rfl rfl (fun c h => by cases h) (fun _ => trivial) ?_ ⟨z, by exact many_put3 (HOK.out _) (by rw [HVL.out]; rfl) hL, by simp only [upd, n8, n10, n11, hL, Nat.reduceBEq, cond_true, cond_false]; exact hph⟩
          go_simp
        · skip
          have y4 : L 4 = true := up_at hu 4 (by kernel_rfl)
          have n8 : L 8 = false := not_yet hL fun h => shut_at hs 6 5 (by kernel_rfl) (shut_at hs 7 6 (by kernel_rfl) (shut_at hs 8 7 (by kernel_rfl) (h)))
          have n10 : L 10 = false := not_yet hL fun h => shut_at hs 6 5 (by kernel_rfl) (shut_at hs 7 6 (by kernel_rfl) (shut_at hs 8 7 (by kernel_rfl) (shut_at hs 10 8 (by kernel_rfl) (h))))
          have n11 : L 11 = false := not_yet hL fun h => shut_at hs 11 5 (by kernel_rfl) (h)
          try simp only [y4, n8, n10, n11, hL, cond_true, cond_false] at hph
          have e26 : (many gg_ L (VL z))[26]?.getD undef = .pointer (some ⟨P, 0, none⟩) := many_eval3 hgN (HOK.out z) (by rw [HVL.out]; rfl) y4
          refine opIn_run (v := .pointer (some ⟨P, 0, none⟩)) (w' := w') rfl rfl (fun c h => by cases h) (fun _ => trivial) ?_ ⟨z, by exact many_put3 (HOK.out _) (by rw [HVL.out]; rfl) hL, by simp only [upd, y4, n8, n10, n11, hL, Nat.reduceBEq, cond_true, cond_false]; exact hph⟩
          go_simp
        · skip
          have y5 : L 5 = true := up_at hu 5 (by kernel_rfl)
          have n8 : L 8 = false := not_yet hL fun h => shut_at hs 7 6 (by kernel_rfl) (shut_at hs 8 7 (by kernel_rfl) (h))
          have n10 : L 10 = false := not_yet hL fun h => shut_at hs 7 6 (by kernel_rfl) (shut_at hs 8 7 (by kernel_rfl) (shut_at hs 10 8 (by kernel_rfl) (h)))
          have n11 : L 11 = false := not_yet hL fun h => shut_at hs 11 6 (by kernel_rfl) (h)
          try simp only [y5, n8, n10, n11, hL, cond_true, cond_false] at hph
          have e27 : (many gg_ L (VL z))[27]?.getD undef = .pointer (some ⟨P, 0, none⟩) := many_eval3 hgN (HOK.out z) (by rw [HVL.out]; rfl) y5
          refine opIn_run (v := .pointer (some ⟨P, 0, none⟩)) (w' := w') rfl rfl (fun c h => by cases h) (fun _ => trivial) ?_ ⟨z, by exact many_put3 (HOK.out _) (by rw [HVL.out]; rfl) hL, by simp only [upd, y5, n8, n10, n11, hL, Nat.reduceBEq, cond_true, cond_false]; exact hph⟩
          go_simp
        · skip
          have y6 : L 6 = true := up_at hu 6 (by kernel_rfl)
          have n8 : L 8 = false := not_yet hL fun h => shut_at hs 8 7 (by kernel_rfl) (h)
          have n10 : L 10 = false := not_yet hL fun h => shut_at hs 8 7 (by kernel_rfl) (shut_at hs 10 8 (by kernel_rfl) (h))
          have n11 : L 11 = false := not_yet hL fun h => shut_at hs 11 7 (by kernel_rfl) (h)
          try simp only [y6, n8, n10, n11, hL, cond_true, cond_false] at hph
          have hcell : w'.cell? ⟨P, 0, none⟩ = some (.pointer (some ⟨p, 0, none⟩)) := by revert hph; cases L 8 <;> cases L 10 <;> (intro hph; exact rb_cell hph.1.pb 0)
          have e28 : (many gg_ L (VL z))[28]?.getD undef = .pointer (some ⟨P, 0, none⟩) := many_eval3 hgN (HOK.out z) (by rw [HVL.out]; rfl) y6
          refine opIn_run (v := .pointer (some ⟨p, 0, none⟩)) (w' := w') rfl rfl (fun c h => by cases h) (fun _ => trivial) ?_ ⟨z, by exact many_put3 (HOK.out _) (by rw [HVL.out]; rfl) hL, by simp only [upd, y6, n8, n10, n11, hL, Nat.reduceBEq, cond_true, cond_false]; exact hph⟩
          go_simp
        · skip
          have y7 : L 7 = true := up_at hu 7 (by kernel_rfl)
          have n10 : L 10 = false := not_yet hL fun h => shut_at hs 10 8 (by kernel_rfl) (h)
          have n11 : L 11 = false := not_yet hL fun h => shut_at hs 11 8 (by kernel_rfl) (h)
          try simp only [y7, n10, n11, hL, cond_true, cond_false] at hph
          have e29 : (many gg_ L (VL z))[29]?.getD undef = .pointer (some ⟨p, 0, none⟩) := many_eval3 hgN (HOK.out z) (by rw [HVL.out]; rfl) y7
          refine opIn_call (f := 33) (args := #[.pointer (some ⟨p, 0, none⟩), .int .i64 2]) (w' := w') rfl rfl (fun c h => by cases h) (fun _ => trivial) rfl (by go_simp) ((callsIn_wide.2 (get2 hph.1.rd HO.out hln)).mono ?_)
          rintro e w2 ⟨rfl, hR_, hg_⟩
          exact ⟨_, rfl, z, by exact many_put3 (HOK.out _) (by rw [HVL.out]; rfl) hL, by simp only [upd, y7, n10, n11, hL, Nat.reduceBEq, cond_true, cond_false]; exact ⟨hph.1.get hR_ hg_, hph.2.trans (Eff.of_grown hg_)⟩⟩
        · skip
          have y8 : L 8 = true := up_at hu 8 (by kernel_rfl)
          have n10 : L 10 = false := not_yet hL fun h => shut_at hs 10 9 (by kernel_rfl) (h)
          have n11 : L 11 = false := not_yet hL fun h => shut_at hs 11 9 (by kernel_rfl) (h)
          try simp only [y8, n10, n11, hL, cond_true, cond_false] at hph
          have e30 : (many gg_ L (VL z))[30]?.getD undef = .int .i64 (a * 256 + b) := many_eval3 hgN (HOK.out z) (by rw [HVL.out]; rfl) y8
          refine opIn_run (v := .int .i64 (ct.length : Int)) (w' := w') rfl rfl (fun c h => by cases h) (fun _ => trivial) ?_ ⟨z, by exact many_put3 (HOK.out _) (by rw [HVL.out]; rfl) hL, by simp only [upd, y8, n10, n11, hL, Nat.reduceBEq, cond_true, cond_false]; exact hph⟩
          have hL_ := HL.out
          have hb9 : -9223372036854775808 ≤ (ct.length : Int) ∧ (ct.length : Int) ≤ 9223372036854775807 := by omega
          go_simp
          first | done | exact IntWalk.i64_in _ hb9 | (rw [hL_]; exact IntWalk.i64_in _ hb9)
        · skip
          have y3 : L 3 = true := up_at hu 3 (by kernel_rfl)
          have y8 : L 8 = true := up_at hu 8 (by kernel_rfl)
          have y9 : L 9 = true := up_at hu 9 (by kernel_rfl)
          have n11 : L 11 = false := not_yet hL fun h => shut_at hs 11 10 (by kernel_rfl) (h)
          try simp only [y3, y8, y9, n11, hL, cond_true, cond_false] at hph
          have e25 : (many gg_ L (VL z))[25]?.getD undef = .pointer (some ⟨p, 0, none⟩) := many_eval3 hgN (HOK.out z) (by rw [HVL.out]; rfl) y3
          have e31 : (many gg_ L (VL z))[31]?.getD undef = .int .i64 (ct.length : Int) := many_eval3 hgN (HOK.out z) (by rw [HVL.out]; rfl) y9
          refine opIn_call (f := 63) (args := #[.pointer (some ⟨p, 0, none⟩), .int .i64 (ct.length : Int)]) (w' := w') rfl rfl (fun c h => by cases h) (fun _ => trivial) rfl (by go_simp) ((callsIn_wide.2 (take_own hph.1 hlc)).mono ?_)
          rintro e w2 ⟨A_, c_, rfl, h1_, h2_, h3_⟩
          exact ⟨_, rfl, (A_, c_), by rw [show many gg_ L (VL z) = many gg_ L (VL (A_, c_)) from by rw [HVL.out]; simp only [many, y3, y8, y9, n11, hL, cond_false, cond_true]]; exact many_put3 (HOK.out _) (by rw [HVL.out]; rfl) hL, by simp only [upd, y3, y8, y9, n11, hL, Nat.reduceBEq, cond_true, cond_false]; exact ⟨h1_, hph.2.trans h2_, h3_⟩⟩
        · skip
          have y0 : L 0 = true := up_at hu 0 (by kernel_rfl)
          have y1 : L 1 = true := up_at hu 1 (by kernel_rfl)
          have y2 : L 2 = true := up_at hu 2 (by kernel_rfl)
          have y3 : L 3 = true := up_at hu 3 (by kernel_rfl)
          have y4 : L 4 = true := up_at hu 4 (by kernel_rfl)
          have y5 : L 5 = true := up_at hu 5 (by kernel_rfl)
          have y6 : L 6 = true := up_at hu 6 (by kernel_rfl)
          have y7 : L 7 = true := up_at hu 7 (by kernel_rfl)
          have y8 : L 8 = true := up_at hu 8 (by kernel_rfl)
          have y9 : L 9 = true := up_at hu 9 (by kernel_rfl)
          have y10 : L 10 = true := up_at hu 10 (by kernel_rfl)
          try simp only [y0, y1, y2, y3, y4, y5, y6, y7, y8, y9, y10, hL, cond_true, cond_false] at hph
          have e32 : (many gg_ L (VL z))[32]?.getD undef = .slice z.1 ct.length z.2 := many_eval3 hgN (HOK.out z) (by rw [HVL.out]; rfl) y10
          refine opIn_run (v := .slice z.1 ct.length z.2) (w' := w') rfl rfl (fun c h => by cases h) (fun _ => trivial) ?_ ⟨z, by exact many_put3 (HOK.out _) (by rw [HVL.out]; rfl) hL, by simp only [upd, y0, y1, y2, y3, y4, y5, y6, y7, y8, y9, y10, hL, Nat.reduceBEq, cond_true, cond_false]; exact hph⟩
          go_simp
      case fin =>
        intro L z w' hall hph
        have l8 := hall 8 (by decide)
        have l10 := hall 10 (by decide)
        simp only [l8, l10, cond_true] at hph
        clear l8 l10
        rw [HVL.out]
        dsimp only [manyL, List.set_cons_zero, List.set_cons_succ]
        clear hall HVL HOK HVI
        obtain ⟨A9, c9⟩ := z
        simp only at hph
        obtain ⟨hps, hef, hown⟩ := hph
        obtain ⟨w2, hw2⟩ : ∃ W_, W_ = w' := ⟨_, rfl⟩
        subst hw2
        have HP2 := Lib.hid hps
        have HE2 := Lib.hid hef
        have HOW := Lib.hid hown
        have ED := Lib.hid (end_any hps.rd (by omega))
        have c0 := rb_cell hps.pb 0
        simp only [List.getElem?_toArray, List.getElem?_cons_succ, List.getElem?_cons_zero] at c0
        clear hps hef hown
        go_wp2_with fail
        refine ED.out.mono ?_
        rintro e_ wx ⟨rfl, nd, rfl⟩
        rw [HEE.out]
        have HP3 : Hid (PS (w2.drewN nd) P p m lo tl #[.pointer (some ⟨p, 0, none⟩), v1, v2, v3, v4, v5, v6, v7, v8, v9, v10, v11, v12, v13, v14, v15, v16, v17, v18, .map (some m)] es clock) := Lib.hid (HP2.out.more (below_drewN (Below.refl _ _) nd))
        have HE3 : Hid (Eff [p] w (w2.drewN nd)) := Lib.hid (HE2.out.trans (Eff.of_below (below_drewN (Below.refl _ _) nd)))
        have HO3 : Hid ((w2.drewN nd).ownsRow (P + 1) 5 1 (.slice A9 ct.length c9) ct.length (ct.map (Value.int .u8))) := Lib.hid (ownsRow_keep HOW.out (Nat.le_refl _) (fun _ _ => rfl))
        obtain ⟨w3, hw3⟩ : ∃ X_, w2.drewN nd = X_ := ⟨_, rfl⟩
        rw [hw3] at HP3 HE3 HO3 ⊢
        clear hw3 HP2 HE2 HOW ED c0
        go_wp2_with fail
        refine (HW.out A9 c9 w3 HO3.out).mono ?_
        rintro e_ w4 ⟨rfl, rfl⟩
        cases ow with
        | true =>
          go_wp2
          refine bodyPost_ret (v := .int .i64 13) (by simp [results, Try.results34, go_sem]) rfl ?_
          refine ⟨A9, c9, w3, HP3.out, HO3.out, HE3.out, ?_⟩
          first | exact ⟨rfl, rfl⟩ | exact .inl ⟨rfl, rfl, rfl⟩
        | false =>
          go_wp2_with fail
          refine (HK.out (by first | rfl | trivial) A9 c9 w3 HP3.out HO3.out).mono ?_
          rintro e_ w5 ⟨ok, rfl, hk⟩
          have HKK := Lib.hid hk
          clear hk
          cases ok with
          | true =>
            go_wp2
            refine bodyPost_ret (v := .int .i64 0) (by simp [results, Try.results34, go_sem]) rfl ?_
            refine ⟨A9, c9, w3, HP3.out, HO3.out, HE3.out, ?_⟩
            first | exact .inr HKK.out | exact .inr ⟨rfl, HKK.out⟩ | exact ⟨true, rfl, HKK.out⟩ | exact .inr ⟨rfl, true, rfl, HKK.out⟩ | exact ⟨rfl, true, rfl, HKK.out⟩
          | false =>
            go_wp2
            refine bodyPost_ret (v := .int .i64 10) (by simp [results, Try.results34, go_sem]) rfl ?_
            refine ⟨A9, c9, w3, HP3.out, HO3.out, HE3.out, ?_⟩
            first | exact .inl HKK.out | exact .inl ⟨rfl, HKK.out⟩ | exact ⟨false, rfl, HKK.out⟩ | exact .inr ⟨rfl, false, rfl, HKK.out⟩ | exact ⟨rfl, false, rfl, HKK.out⟩
    · go_enter Try.func34, Try.ntmps34
      go_wp2_with fail
      refine HA.out.mono ?_
      rintro e_ w1 ⟨rfl, rfl⟩
      go_upto_region 5 with fail
      obtain ⟨VL, hVL⟩ : ∃ VL : Option Addr × Nat → List (Nat × Nat × Value), VL = fun z => [(0, 22, .pointer (some ⟨P, 0, none⟩)), (1, 23, .pointer (some ⟨P, 0, none⟩)), (2, 24, .pointer (some ⟨P, 0, none⟩)), (3, 25, .pointer (some ⟨p, 0, none⟩)), (4, 26, .pointer (some ⟨P, 0, none⟩)), (5, 27, .pointer (some ⟨P, 0, none⟩)), (6, 28, .pointer (some ⟨P, 0, none⟩)), (7, 29, .pointer (some ⟨p, 0, none⟩)), (8, 30, .int .i64 (a * 256 + b)), (9, 31, .int .i64 (ct.length : Int)), (10, 32, .slice z.1 ct.length z.2), (11, 5, .slice z.1 ct.length z.2)] := ⟨_, rfl⟩
      have hok : ∀ z, manyOk 52 (VL z) := fun z => by rw [hVL]; exact okB_ok rfl
      have HVL := Lib.hid hVL
      have hvi : ∀ z, ∀ x ∈ VL z, x.1 < 12 := fun z => by rw [hVL]; exact ltB_ok rfl
      have HOK := Lib.hid hok
      have HVI := Lib.hid hvi
      clear hVL hok hvi
      refine (wpIn_wide (n := 9)).1 (regionIn_many (N := 52) (w := _) VL (fun L z w' => (bif L 10 then (PS w' P p m lo tl #[.pointer (some ⟨p, 0, none⟩), v1, v2, v3, v4, v5, v6, v7, v8, v9, v10, v11, v12, v13, v14, v15, v16, v17, v18, .map (some m)] es clock ∧ Eff [p] w w' ∧ w'.ownsRow (P + 1) 5 1 (.slice z.1 ct.length z.2) ct.length (ct.map (Value.int .u8))) else (bif L 8 then (PS w' P p m lo (ct ++ tl) #[.pointer (some ⟨p, 0, none⟩), v1, v2, v3, v4, v5, v6, v7, v8, v9, v10, v11, v12, v13, v14, v15, v16, v17, v18, .map (some m)] es clock ∧ Eff [p] w w') else PS w' P p m lo (a :: b :: (ct ++ tl)) #[.pointer (some ⟨p, 0, none⟩), v1, v2, v3, v4, v5, v6, v7, v8, v9, v10, v11, v12, v13, v14, v15, v16, v17, v18, .map (some m)] es clock ∧ Eff [p] w w'))) [(0, .pointer (some ⟨P, 0, none⟩))] (by kernel_rfl) (by kernel_rfl) rfl (by simp only [List.forall_mem_cons, List.not_mem_nil, false_imp_iff, implies_true, and_true]; exact rfl) HVI.out (none, 0) ?start ?step ?fin)
      case start => exact ⟨HPS.out.drew, Eff.of_below (below_drewN (Below.refl _ _) 1)⟩
      case step =>
        intro gg_ hgN hgF ii_ hii_ L z w' hph hs hu
        have hF0 := hgF (0, .pointer (some ⟨P, 0, none⟩)) (by simp)
        have hL := hu.1
        have hii_ : ii_ < 12 := hii_
        clear hgF
        obtain rfl | rfl | rfl | rfl | rfl | rfl | rfl | rfl | rfl | rfl | rfl | rfl := (by omega : ii_ = 0 ∨ ii_ = 1 ∨ ii_ = 2 ∨ ii_ = 3 ∨ ii_ = 4 ∨ ii_ = 5 ∨ ii_ = 6 ∨ ii_ = 7 ∨ ii_ = 8 ∨ ii_ = 9 ∨ ii_ = 10 ∨ ii_ = 11)
        · skip
          have n10 : L 10 = false := not_yet hL fun h => shut_at hs 1 0 (by kernel_rfl) (shut_at hs 2 1 (by kernel_rfl) (shut_at hs 3 2 (by kernel_rfl) (shut_at hs 10 3 (by kernel_rfl) (h))))
          have n11 : L 11 = false := not_yet hL fun h => shut_at hs 11 0 (by kernel_rfl) (h)
          try simp only [n10, n11, hL, cond_true, cond_false] at hph
          have e0 : (many gg_ L (VL z))[0]?.getD undef = .pointer (some ⟨P, 0, none⟩) := many_out3 hgN (HOK.out z) (by rw [HVL.out]; rfl) hF0
          refine opIn_run (v := .pointer (some ⟨P, 0, none⟩)) (w' := w') rfl rfl (fun c h => by cases h) (fun _ => trivial) ?_ ⟨z, by exact many_put3 (HOK.out _) (by rw [HVL.out]; rfl) hL, by simp only [upd, n10, n11, hL, Nat.reduceBEq, cond_true, cond_false]; exact hph⟩
          go_simp
        · skip
          have y0 : L 0 = true := up_at hu 0 (by kernel_rfl)
          have n10 : L 10 = false := not_yet hL fun h => shut_at hs 2 1 (by kernel_rfl) (shut_at hs 3 2 (by kernel_rfl) (shut_at hs 10 3 (by kernel_rfl) (h)))
          have n11 : L 11 = false := not_yet hL fun h => shut_at hs 11 1 (by kernel_rfl) (h)
          try simp only [y0, n10, n11, hL, cond_true, cond_false] at hph
          have e22 : (many gg_ L (VL z))[22]?.getD undef = .pointer (some ⟨P, 0, none⟩) := many_eval3 hgN (HOK.out z) (by rw [HVL.out]; rfl) y0
          refine opIn_run (v := .pointer (some ⟨P, 0, none⟩)) (w' := w') rfl rfl (fun c h => by cases h) (fun _ => trivial) ?_ ⟨z, by exact many_put3 (HOK.out _) (by rw [HVL.out]; rfl) hL, by simp only [upd, y0, n10, n11, hL, Nat.reduceBEq, cond_true, cond_false]; exact hph⟩
          go_simp
        · skip
          have y1 : L 1 = true := up_at hu 1 (by kernel_rfl)
          have n10 : L 10 = false := not_yet hL fun h => shut_at hs 3 2 (by kernel_rfl) (shut_at hs 10 3 (by kernel_rfl) (h))
          have n11 : L 11 = false := not_yet hL fun h => shut_at hs 11 2 (by kernel_rfl) (h)
          try simp only [y1, n10, n11, hL, cond_true, cond_false] at hph
          have e23 : (many gg_ L (VL z))[23]?.getD undef = .pointer (some ⟨P, 0, none⟩) := many_eval3 hgN (HOK.out z) (by rw [HVL.out]; rfl) y1
          refine opIn_run (v := .pointer (some ⟨P, 0, none⟩)) (w' := w') rfl rfl (fun c h => by cases h) (fun _ => trivial) ?_ ⟨z, by exact many_put3 (HOK.out _) (by rw [HVL.out]; rfl) hL, by simp only [upd, y1, n10, n11, hL, Nat.reduceBEq, cond_true, cond_false]; exact hph⟩
          go_simp
        · skip
          have y2 : L 2 = true := up_at hu 2 (by kernel_rfl)
          have n10 : L 10 = false := not_yet hL fun h => shut_at hs 10 3 (by kernel_rfl) (h)
          have n11 : L 11 = false := not_yet hL fun h => shut_at hs 11 3 (by kernel_rfl) (h)
          try simp only [y2, n10, n11, hL, cond_true, cond_false] at hph
          have hcell : w'.cell? ⟨P, 0, none⟩ = some (.pointer (some ⟨p, 0, none⟩)) := by revert hph; cases L 8 <;> cases L 10 <;> (intro hph; exact rb_cell hph.1.pb 0)
          have e24 : (many gg_ L (VL z))[24]?.getD undef = .pointer (some ⟨P, 0, none⟩) := many_eval3 hgN (HOK.out z) (by rw [HVL.out]; rfl) y2
          refine opIn_run (v := .pointer (some ⟨p, 0, none⟩)) (w' := w') rfl rfl (fun c h => by cases h) (fun _ => trivial) ?_ ⟨z, by exact many_put3 (HOK.out _) (by rw [HVL.out]; rfl) hL, by simp only [upd, y2, n10, n11, hL, Nat.reduceBEq, cond_true, cond_false]; exact hph⟩
          go_simp
        · skip
          have n8 : L 8 = false := not_yet hL fun h => shut_at hs 5 4 (by kernel_rfl) (shut_at hs 6 5 (by kernel_rfl) (shut_at hs 7 6 (by kernel_rfl) (shut_at hs 8 7 (by kernel_rfl) (h))))
          have n10 : L 10 = false := not_yet hL fun h => shut_at hs 5 4 (by kernel_rfl) (shut_at hs 6 5 (by kernel_rfl) (shut_at hs 7 6 (by kernel_rfl) (shut_at hs 8 7 (by kernel_rfl) (shut_at hs 10 8 (by kernel_rfl) (h)))))
          have n11 : L 11 = false := not_yet hL fun h => shut_at hs 11 4 (by kernel_rfl) (h)
          try simp only [n8, n10, n11, hL, cond_true, cond_false] at hph
          have e0 : (many gg_ L (VL z))[0]?.getD undef = .pointer (some ⟨P, 0, none⟩) := many_out3 hgN (HOK.out z) (by rw [HVL.out]; rfl) hF0
          refine opIn_run (v := .pointer (some ⟨P, 0, none⟩)) (w' := w') rfl rfl (fun c h => by cases h) (fun _ => trivial) ?_ ⟨z, by exact many_put3 (HOK.out _) (by rw [HVL.out]; rfl) hL, by simp only [upd, n8, n10, n11, hL, Nat.reduceBEq, cond_true, cond_false]; exact hph⟩
          go_simp
        · skip
          have y4 : L 4 = true := up_at hu 4 (by kernel_rfl)
          have n8 : L 8 = false := not_yet hL fun h => shut_at hs 6 5 (by kernel_rfl) (shut_at hs 7 6 (by kernel_rfl) (shut_at hs 8 7 (by kernel_rfl) (h)))
          have n10 : L 10 = false := not_yet hL fun h => shut_at hs 6 5 (by kernel_rfl) (shut_at hs 7 6 (by kernel_rfl) (shut_at hs 8 7 (by kernel_rfl) (shut_at hs 10 8 (by kernel_rfl) (h))))
          have n11 : L 11 = false := not_yet hL fun h => shut_at hs 11 5 (by kernel_rfl) (h)
          try simp only [y4, n8, n10, n11, hL, cond_true, cond_false] at hph
          have e26 : (many gg_ L (VL z))[26]?.getD undef = .pointer (some ⟨P, 0, none⟩) := many_eval3 hgN (HOK.out z) (by rw [HVL.out]; rfl) y4
          refine opIn_run (v := .pointer (some ⟨P, 0, none⟩)) (w' := w') rfl rfl (fun c h => by cases h) (fun _ => trivial) ?_ ⟨z, by exact many_put3 (HOK.out _) (by rw [HVL.out]; rfl) hL, by simp only [upd, y4, n8, n10, n11, hL, Nat.reduceBEq, cond_true, cond_false]; exact hph⟩
          go_simp
        · skip
          have y5 : L 5 = true := up_at hu 5 (by kernel_rfl)
          have n8 : L 8 = false := not_yet hL fun h => shut_at hs 7 6 (by kernel_rfl) (shut_at hs 8 7 (by kernel_rfl) (h))
          have n10 : L 10 = false := not_yet hL fun h => shut_at hs 7 6 (by kernel_rfl) (shut_at hs 8 7 (by kernel_rfl) (shut_at hs 10 8 (by kernel_rfl) (h)))
          have n11 : L 11 = false := not_yet hL fun h => shut_at hs 11 6 (by kernel_rfl) (h)
          try simp only [y5, n8, n10, n11, hL, cond_true, cond_false] at hph
          have e27 : (many gg_ L (VL z))[27]?.getD undef = .pointer (some ⟨P, 0, none⟩) := many_eval3 hgN (HOK.out z) (by rw [HVL.out]; rfl) y5
          refine opIn_run (v := .pointer (some ⟨P, 0, none⟩)) (w' := w') rfl rfl (fun c h => by cases h) (fun _ => trivial) ?_ ⟨z, by exact many_put3 (HOK.out _) (by rw [HVL.out]; rfl) hL, by simp only [upd, y5, n8, n10, n11, hL, Nat.reduceBEq, cond_true, cond_false]; exact hph⟩
          go_simp
        · skip
          have y6 : L 6 = true := up_at hu 6 (by kernel_rfl)
          have n8 : L 8 = false := not_yet hL fun h => shut_at hs 8 7 (by kernel_rfl) (h)
          have n10 : L 10 = false := not_yet hL fun h => shut_at hs 8 7 (by kernel_rfl) (shut_at hs 10 8 (by kernel_rfl) (h))
          have n11 : L 11 = false := not_yet hL fun h => shut_at hs 11 7 (by kernel_rfl) (h)
          try simp only [y6, n8, n10, n11, hL, cond_true, cond_false] at hph
          have hcell : w'.cell? ⟨P, 0, none⟩ = some (.pointer (some ⟨p, 0, none⟩)) := by revert hph; cases L 8 <;> cases L 10 <;> (intro hph; exact rb_cell hph.1.pb 0)
          have e28 : (many gg_ L (VL z))[28]?.getD undef = .pointer (some ⟨P, 0, none⟩) := many_eval3 hgN (HOK.out z) (by rw [HVL.out]; rfl) y6
          refine opIn_run (v := .pointer (some ⟨p, 0, none⟩)) (w' := w') rfl rfl (fun c h => by cases h) (fun _ => trivial) ?_ ⟨z, by exact many_put3 (HOK.out _) (by rw [HVL.out]; rfl) hL, by simp only [upd, y6, n8, n10, n11, hL, Nat.reduceBEq, cond_true, cond_false]; exact hph⟩
          go_simp
        · skip
          have y7 : L 7 = true := up_at hu 7 (by kernel_rfl)
          have n10 : L 10 = false := not_yet hL fun h => shut_at hs 10 8 (by kernel_rfl) (h)
          have n11 : L 11 = false := not_yet hL fun h => shut_at hs 11 8 (by kernel_rfl) (h)
          try simp only [y7, n10, n11, hL, cond_true, cond_false] at hph
          have e29 : (many gg_ L (VL z))[29]?.getD undef = .pointer (some ⟨p, 0, none⟩) := many_eval3 hgN (HOK.out z) (by rw [HVL.out]; rfl) y7
          refine opIn_call (f := 33) (args := #[.pointer (some ⟨p, 0, none⟩), .int .i64 2]) (w' := w') rfl rfl (fun c h => by cases h) (fun _ => trivial) rfl (by go_simp) ((callsIn_wide.2 (get2 hph.1.rd HO.out hln)).mono ?_)
          rintro e w2 ⟨rfl, hR_, hg_⟩
          exact ⟨_, rfl, z, by exact many_put3 (HOK.out _) (by rw [HVL.out]; rfl) hL, by simp only [upd, y7, n10, n11, hL, Nat.reduceBEq, cond_true, cond_false]; exact ⟨hph.1.get hR_ hg_, hph.2.trans (Eff.of_grown hg_)⟩⟩
        · skip
          have y8 : L 8 = true := up_at hu 8 (by kernel_rfl)
          have n10 : L 10 = false := not_yet hL fun h => shut_at hs 10 9 (by kernel_rfl) (h)
          have n11 : L 11 = false := not_yet hL fun h => shut_at hs 11 9 (by kernel_rfl) (h)
          try simp only [y8, n10, n11, hL, cond_true, cond_false] at hph
          have e30 : (many gg_ L (VL z))[30]?.getD undef = .int .i64 (a * 256 + b) := many_eval3 hgN (HOK.out z) (by rw [HVL.out]; rfl) y8
          refine opIn_run (v := .int .i64 (ct.length : Int)) (w' := w') rfl rfl (fun c h => by cases h) (fun _ => trivial) ?_ ⟨z, by exact many_put3 (HOK.out _) (by rw [HVL.out]; rfl) hL, by simp only [upd, y8, n10, n11, hL, Nat.reduceBEq, cond_true, cond_false]; exact hph⟩
          have hL_ := HL.out
          have hb9 : -9223372036854775808 ≤ (ct.length : Int) ∧ (ct.length : Int) ≤ 9223372036854775807 := by omega
          go_simp
          first | done | exact IntWalk.i64_in _ hb9 | (rw [hL_]; exact IntWalk.i64_in _ hb9)
        · skip
          have y3 : L 3 = true := up_at hu 3 (by kernel_rfl)
          have y8 : L 8 = true := up_at hu 8 (by kernel_rfl)
          have y9 : L 9 = true := up_at hu 9 (by kernel_rfl)
          have n11 : L 11 = false := not_yet hL fun h => shut_at hs 11 10 (by kernel_rfl) (h)
          try simp only [y3, y8, y9, n11, hL, cond_true, cond_false] at hph
          have e25 : (many gg_ L (VL z))[25]?.getD undef = .pointer (some ⟨p, 0, none⟩) := many_eval3 hgN (HOK.out z) (by rw [HVL.out]; rfl) y3
          have e31 : (many gg_ L (VL z))[31]?.getD undef = .int .i64 (ct.length : Int) := many_eval3 hgN (HOK.out z) (by rw [HVL.out]; rfl) y9
          refine opIn_call (f := 63) (args := #[.pointer (some ⟨p, 0, none⟩), .int .i64 (ct.length : Int)]) (w' := w') rfl rfl (fun c h => by cases h) (fun _ => trivial) rfl (by go_simp) ((callsIn_wide.2 (take_own hph.1 hlc)).mono ?_)
          rintro e w2 ⟨A_, c_, rfl, h1_, h2_, h3_⟩
          exact ⟨_, rfl, (A_, c_), by rw [show many gg_ L (VL z) = many gg_ L (VL (A_, c_)) from by rw [HVL.out]; simp only [many, y3, y8, y9, n11, hL, cond_false, cond_true]]; exact many_put3 (HOK.out _) (by rw [HVL.out]; rfl) hL, by simp only [upd, y3, y8, y9, n11, hL, Nat.reduceBEq, cond_true, cond_false]; exact ⟨h1_, hph.2.trans h2_, h3_⟩⟩
        · skip
          have y0 : L 0 = true := up_at hu 0 (by kernel_rfl)
          have y1 : L 1 = true := up_at hu 1 (by kernel_rfl)
          have y2 : L 2 = true := up_at hu 2 (by kernel_rfl)
          have y3 : L 3 = true := up_at hu 3 (by kernel_rfl)
          have y4 : L 4 = true := up_at hu 4 (by kernel_rfl)
          have y5 : L 5 = true := up_at hu 5 (by kernel_rfl)
          have y6 : L 6 = true := up_at hu 6 (by kernel_rfl)
          have y7 : L 7 = true := up_at hu 7 (by kernel_rfl)
          have y8 : L 8 = true := up_at hu 8 (by kernel_rfl)
          have y9 : L 9 = true := up_at hu 9 (by kernel_rfl)
          have y10 : L 10 = true := up_at hu 10 (by kernel_rfl)
          try simp only [y0, y1, y2, y3, y4, y5, y6, y7, y8, y9, y10, hL, cond_true, cond_false] at hph
          have e32 : (many gg_ L (VL z))[32]?.getD undef = .slice z.1 ct.length z.2 := many_eval3 hgN (HOK.out z) (by rw [HVL.out]; rfl) y10
          refine opIn_run (v := .slice z.1 ct.length z.2) (w' := w') rfl rfl (fun c h => by cases h) (fun _ => trivial) ?_ ⟨z, by exact many_put3 (HOK.out _) (by rw [HVL.out]; rfl) hL, by simp only [upd, y0, y1, y2, y3, y4, y5, y6, y7, y8, y9, y10, hL, Nat.reduceBEq, cond_true, cond_false]; exact hph⟩
          go_simp
      case fin =>
        intro L z w' hall hph
        have l8 := hall 8 (by decide)
        have l10 := hall 10 (by decide)
        simp only [l8, l10, cond_true] at hph
        clear l8 l10
        rw [HVL.out]
        dsimp only [manyL, List.set_cons_zero, List.set_cons_succ]
        clear hall HVL HOK HVI
        obtain ⟨A9, c9⟩ := z
        simp only at hph
        obtain ⟨hps, hef, hown⟩ := hph
        obtain ⟨w2, hw2⟩ : ∃ W_, W_ = w' := ⟨_, rfl⟩
        subst hw2
        have HP2 := Lib.hid hps
        have HE2 := Lib.hid hef
        have HOW := Lib.hid hown
        have ED := Lib.hid (end_any hps.rd (by omega))
        have c0 := rb_cell hps.pb 0
        simp only [List.getElem?_toArray, List.getElem?_cons_succ, List.getElem?_cons_zero] at c0
        clear hps hef hown
        go_wp2_with fail
        refine ED.out.mono ?_
        rintro e_ wx ⟨rfl, nd, rfl⟩
        rw [HEE.out]
        have HP3 : Hid (PS (w2.drewN nd) P p m lo tl #[.pointer (some ⟨p, 0, none⟩), v1, v2, v3, v4, v5, v6, v7, v8, v9, v10, v11, v12, v13, v14, v15, v16, v17, v18, .map (some m)] es clock) := Lib.hid (HP2.out.more (below_drewN (Below.refl _ _) nd))
        have HE3 : Hid (Eff [p] w (w2.drewN nd)) := Lib.hid (HE2.out.trans (Eff.of_below (below_drewN (Below.refl _ _) nd)))
        have HO3 : Hid ((w2.drewN nd).ownsRow (P + 1) 5 1 (.slice A9 ct.length c9) ct.length (ct.map (Value.int .u8))) := Lib.hid (ownsRow_keep HOW.out (Nat.le_refl _) (fun _ _ => rfl))
        obtain ⟨w3, hw3⟩ : ∃ X_, w2.drewN nd = X_ := ⟨_, rfl⟩
        rw [hw3] at HP3 HE3 HO3 ⊢
        clear hw3 HP2 HE2 HOW ED c0
        go_wp2_with fail
        refine (HW.out A9 c9 w3 HO3.out).mono ?_
        rintro e_ w4 ⟨rfl, rfl⟩
        cases ow with
        | true =>
          go_wp2
          refine bodyPost_ret (v := .int .i64 13) (by simp [results, Try.results34, go_sem]) rfl ?_
          refine ⟨A9, c9, w3, HP3.out, HO3.out, HE3.out, ?_⟩
          first | exact ⟨rfl, rfl⟩ | exact .inl ⟨rfl, rfl, rfl⟩
        | false =>
          go_wp2_with fail
          refine (HK.out (by first | rfl | trivial) A9 c9 w3 HP3.out HO3.out).mono ?_
          rintro e_ w5 ⟨ok, rfl, hk⟩
          have HKK := Lib.hid hk
          clear hk
          cases ok with
          | true =>
            go_wp2
            refine bodyPost_ret (v := .int .i64 0) (by simp [results, Try.results34, go_sem]) rfl ?_
            refine ⟨A9, c9, w3, HP3.out, HO3.out, HE3.out, ?_⟩
            first | exact .inr HKK.out | exact .inr ⟨rfl, HKK.out⟩ | exact ⟨true, rfl, HKK.out⟩ | exact .inr ⟨rfl, true, rfl, HKK.out⟩ | exact ⟨rfl, true, rfl, HKK.out⟩
          | false =>
            go_wp2
            refine bodyPost_ret (v := .int .i64 10) (by simp [results, Try.results34, go_sem]) rfl ?_
            refine ⟨A9, c9, w3, HP3.out, HO3.out, HE3.out, ?_⟩
            first | exact .inl HKK.out | exact .inl ⟨rfl, HKK.out⟩ | exact ⟨false, rfl, HKK.out⟩ | exact .inr ⟨rfl, false, rfl, HKK.out⟩ | exact ⟨rfl, false, rfl, HKK.out⟩
  · rcases hec2 with rfl | rfl
    · go_enter Try.func34, Try.ntmps34
      go_wp2_with fail
      refine HA.out.mono ?_
      rintro e_ w1 ⟨rfl, rfl⟩
      go_upto_region 5 with fail
      obtain ⟨VL, hVL⟩ : ∃ VL : Option Addr × Nat → List (Nat × Nat × Value), VL = fun z => [(0, 22, .pointer (some ⟨P, 0, none⟩)), (1, 23, .pointer (some ⟨P, 0, none⟩)), (2, 24, .pointer (some ⟨P, 0, none⟩)), (3, 25, .pointer (some ⟨p, 0, none⟩)), (4, 26, .pointer (some ⟨P, 0, none⟩)), (5, 27, .pointer (some ⟨P, 0, none⟩)), (6, 28, .pointer (some ⟨P, 0, none⟩)), (7, 29, .pointer (some ⟨p, 0, none⟩)), (8, 30, .int .i64 (a * 256 + b)), (9, 31, .int .i64 (ct.length : Int)), (10, 32, .slice z.1 ct.length z.2), (11, 5, .slice z.1 ct.length z.2)] := ⟨_, rfl⟩
      have hok : ∀ z, manyOk 52 (VL z) := fun z => by rw [hVL]; exact okB_ok rfl
      have HVL := Lib.hid hVL
      have hvi : ∀ z, ∀ x ∈ VL z, x.1 < 12 := fun z => by rw [hVL]; exact ltB_ok rfl
      have HOK := Lib.hid hok
      have HVI := Lib.hid hvi
      clear hVL hok hvi
      refine (wpIn_wide (n := 9)).1 (regionIn_many (N := 52) (w := _) VL (fun L z w' => (bif L 10 then (PS w' P p m lo tl #[.pointer (some ⟨p, 0, none⟩), v1, v2, v3, v4, v5, v6, v7, v8, v9, v10, v11, v12, v13, v14, v15, v16, v17, v18, .map (some m)] es clock ∧ Eff [p] w w' ∧ w'.ownsRow (P + 1) 5 1 (.slice z.1 ct.length z.2) ct.length (ct.map (Value.int .u8))) else (bif L 8 then (PS w' P p m lo (ct ++ tl) #[.pointer (some ⟨p, 0, none⟩), v1, v2, v3, v4, v5, v6, v7, v8, v9, v10, v11, v12, v13, v14, v15, v16, v17, v18, .map (some m)] es clock ∧ Eff [p] w w') else PS w' P p m lo (a :: b :: (ct ++ tl)) #[.pointer (some ⟨p, 0, none⟩), v1, v2, v3, v4, v5, v6, v7, v8, v9, v10, v11, v12, v13, v14, v15, v16, v17, v18, .map (some m)] es clock ∧ Eff [p] w w'))) [(0, .pointer (some ⟨P, 0, none⟩))] (by kernel_rfl) (by kernel_rfl) rfl (by simp only [List.forall_mem_cons, List.not_mem_nil, false_imp_iff, implies_true, and_true]; exact rfl) HVI.out (none, 0) ?start ?step ?fin)
      case start => exact ⟨HPS.out.drew, Eff.of_below (below_drewN (Below.refl _ _) 1)⟩
      case step =>
        intro gg_ hgN hgF ii_ hii_ L z w' hph hs hu
        have hF0 := hgF (0, .pointer (some ⟨P, 0, none⟩)) (by simp)
        have hL := hu.1
        have hii_ : ii_ < 12 := hii_
        clear hgF
        obtain rfl | rfl | rfl | rfl | rfl | rfl | rfl | rfl | rfl | rfl | rfl | rfl := (by omega : ii_ = 0 ∨ ii_ = 1 ∨ ii_ = 2 ∨ ii_ = 3 ∨ ii_ = 4 ∨ ii_ = 5 ∨ ii_ = 6 ∨ ii_ = 7 ∨ ii_ = 8 ∨ ii_ = 9 ∨ ii_ = 10 ∨ ii_ = 11)
        · skip
          have n10 : L 10 = false := not_yet hL fun h => shut_at hs 1 0 (by kernel_rfl) (shut_at hs 2 1 (by kernel_rfl) (shut_at hs 3 2 (by kernel_rfl) (shut_at hs 10 3 (by kernel_rfl) (h))))
          have n11 : L 11 = false := not_yet hL fun h => shut_at hs 11 0 (by kernel_rfl) (h)
          try simp only [n10, n11, hL, cond_true, cond_false] at hph
          have e0 : (many gg_ L (VL z))[0]?.getD undef = .pointer (some ⟨P, 0, none⟩) := many_out3 hgN (HOK.out z) (by rw [HVL.out]; rfl) hF0
          refine opIn_run (v := .pointer (some ⟨P, 0, none⟩)) (w' := w') rfl rfl (fun c h => by cases h) (fun _ => trivial) ?_ ⟨z, by exact many_put3 (HOK.out _) (by rw [HVL.out]; rfl) hL, by simp only [upd, n10, n11, hL, Nat.reduceBEq, cond_true, cond_false]; exact hph⟩
          go_simp
        · skip
          have y0 : L 0 = true := up_at hu 0 (by kernel_rfl)
          have n10 : L 10 = false := not_yet hL fun h => shut_at hs 2 1 (by kernel_rfl) (shut_at hs 3 2 (by kernel_rfl) (shut_at hs 10 3 (by kernel_rfl) (h)))
          have n11 : L 11 = false := not_yet hL fun h => shut_at hs 11 1 (by kernel_rfl) (h)
          try simp only [y0, n10, n11, hL, cond_true, cond_false] at hph
          have e22 : (many gg_ L (VL z))[22]?.getD undef = .pointer (some ⟨P, 0, none⟩) := many_eval3 hgN (HOK.out z) (by rw [HVL.out]; rfl) y0
          refine opIn_run (v := .pointer (some ⟨P, 0, none⟩)) (w' := w') rfl rfl (fun c h => by cases h) (fun _ => trivial) ?_ ⟨z, by exact many_put3 (HOK.out _) (by rw [HVL.out]; rfl) hL, by simp only [upd, y0, n10, n11, hL, Nat.reduceBEq, cond_true, cond_false]; exact hph⟩
          go_simp
        · skip
          have y1 : L 1 = true := up_at hu 1 (by kernel_rfl)
          have n10 : L 10 = false := not_yet hL fun h => shut_at hs 3 2 (by kernel_rfl) (shut_at hs 10 3 (by kernel_rfl) (h))
          have n11 : L 11 = false := not_yet hL fun h => shut_at hs 11 2 (by kernel_rfl) (h)
          try simp only [y1, n10, n11, hL, cond_true, cond_false] at hph
          have e23 : (many gg_ L (VL z))[23]?.getD undef = .pointer (some ⟨P, 0, none⟩) := many_eval3 hgN (HOK.out z) (by rw [HVL.out]; rfl) y1
          refine opIn_run (v := .pointer (some ⟨P, 0, none⟩)) (w' := w') rfl rfl (fun c h => by cases h) (fun _ => trivial) ?_ ⟨z, by exact many_put3 (HOK.out _) (by rw [HVL.out]; rfl) hL, by simp only [upd, y1, n10, n11, hL, Nat.reduceBEq, cond_true, cond_false]; exact hph⟩
          go_simp
        · skip
          have y2 : L 2 = true := up_at hu 2 (by kernel_rfl)
          have n10 : L 10 = false := not_yet hL fun h => shut_at hs 10 3 (by kernel_rfl) (h)
          have n11 : L 11 = false := not_yet hL fun h => shut_at hs 11 3 (by kernel_rfl) (h)
          try simp only [y2, n10, n11, hL, cond_true, cond_false] at hph
          have hcell : w'.cell? ⟨P, 0, none⟩ = some (.pointer (some ⟨p, 0, none⟩)) := by revert hph; cases L 8 <;> cases L 10 <;> (intro hph; exact rb_cell hph.1.pb 0)
          have e24 : (many gg_ L (VL z))[24]?.getD undef = .pointer (some ⟨P, 0, none⟩) := many_eval3 hgN (HOK.out z) (by rw [HVL.out]; rfl) y2
          refine opIn_run (v := .pointer (some ⟨p, 0, none⟩)) (w' := w') rfl rfl (fun c h => by cases h) (fun _ => trivial) ?_ ⟨z, by exact many_put3 (HOK.out _) (by rw [HVL.out]; rfl) hL, by simp only [upd, y2, n10, n11, hL, Nat.reduceBEq, cond_true, cond_false]; exact hph⟩
          go_simp
        · skip
          have n8 : L 8 = false := not_yet hL fun h => shut_at hs 5 4 (by kernel_rfl) (shut_at hs 6 5 (by kernel_rfl) (shut_at hs 7 6 (by kernel_rfl) (shut_at hs 8 7 (by kernel_rfl) (h))))
          have n10 : L 10 = false := not_yet hL fun h => shut_at hs 5 4 (by kernel_rfl) (shut_at hs 6 5 (by kernel_rfl) (shut_at hs 7 6 (by kernel_rfl) (shut_at hs 8 7 (by kernel_rfl) (shut_at hs 10 8 (by kernel_rfl) (h)))))
          have n11 : L 11 = false := not_yet hL fun h => shut_at hs 11 4 (by kernel_rfl) (h)
          try simp only [n8, n10, n11, hL, cond_true, cond_false] at hph
          have e0 : (many gg_ L (VL z))[0]?.getD undef = .pointer (some ⟨P, 0, none⟩) := many_out3 hgN (HOK.out z) (by rw [HVL.out]; rfl) hF0
          refine opIn_run (v := .pointer (some ⟨P, 0, none⟩)) (w' := w') rfl rfl (fun c h => by cases h) (fun _ => trivial) ?_ ⟨z, by exact many_put3 (HOK.out _) (by rw [HVL.out]; rfl) hL, by simp only [upd, n8, n10, n11, hL, Nat.reduceBEq, cond_true, cond_false]; exact hph⟩
          go_simp
        · skip
          have y4 : L 4 = true := up_at hu 4 (by kernel_rfl)
          have n8 : L 8 = false := not_yet hL fun h => shut_at hs 6 5 (by kernel_rfl) (shut_at hs 7 6 (by kernel_rfl) (shut_at hs 8 7 (by kernel_rfl) (h)))
          have n10 : L 10 = false := not_yet hL fun h => shut_at hs 6 5 (by kernel_rfl) (shut_at hs 7 6 (by kernel_rfl) (shut_at hs 8 7 (by kernel_rfl) (shut_at hs 10 8 (by kernel_rfl) (h))))
          have n11 : L 11 = false := not_yet hL fun h => shut_at hs 11 5 (by kernel_rfl) (h)
          try simp only [y4, n8, n10, n11, hL, cond_true, cond_false] at hph
          have e26 : (many gg_ L (VL z))[26]?.getD undef = .pointer (some ⟨P, 0, none⟩) := many_eval3 hgN (HOK.out z) (by rw [HVL.out]; rfl) y4
          refine opIn_run (v := .pointer (some ⟨P, 0, none⟩)) (w' := w') rfl rfl (fun c h => by cases h) (fun _ => trivial) ?_ ⟨z, by exact many_put3 (HOK.out _) (by rw [HVL.out]; rfl) hL, by simp only [upd, y4, n8, n10, n11, hL, Nat.reduceBEq, cond_true, cond_false]; exact hph⟩
          go_simp
        · skip
          have y5 : L 5 = true := up_at hu 5 (by kernel_rfl)
          have n8 : L 8 = false := not_yet hL fun h => shut_at hs 7 6 (by kernel_rfl) (shut_at hs 8 7 (by kernel_rfl) (h))
          have n10 : L 10 = false := not_yet hL fun h => shut_at hs 7 6 (by kernel_rfl) (shut_at hs 8 7 (by kernel_rfl) (shut_at hs 10 8 (by kernel_rfl) (h)))
          have n11 : L 11 = false := not_yet hL fun h => shut_at hs 11 6 (by kernel_rfl) (h)
          try simp only [y5, n8, n10, n11, hL, cond_true, cond_false] at hph
          have e27 : (many gg_ L (VL z))[27]?.getD undef = .pointer (some ⟨P, 0, none⟩) := many_eval3 hgN (HOK.out z) (by rw [HVL.out]; rfl) y5
          refine opIn_run (v := .pointer (some ⟨P, 0, none⟩)) (w' := w') rfl rfl (fun c h => by cases h) (fun _ => trivial) ?_ ⟨z, by exact many_put3 (HOK.out _) (by rw [HVL.out]; rfl) hL, by simp only [upd, y5, n8, n10, n11, hL, Nat.reduceBEq, cond_true, cond_false]; exact hph⟩
          go_simp
        · skip
          have y6 : L 6 = true := up_at hu 6 (by kernel_rfl)
          have n8 : L 8 = false := not_yet hL fun h => shut_at hs 8 7 (by kernel_rfl) (h)
          have n10 : L 10 = false := not_yet hL fun h => shut_at hs 8 7 (by kernel_rfl) (shut_at hs 10 8 (by kernel_rfl) (h))
          have n11 : L 11 = false := not_yet hL fun h => shut_at hs 11 7 (by kernel_rfl) (h)
          try simp only [y6, n8, n10, n11, hL, cond_true, cond_false] at hph
          have hcell : w'.cell? ⟨P, 0, none⟩ = some (.pointer (some ⟨p, 0, none⟩)) := by revert hph; cases L 8 <;> cases L 10 <;> (intro hph; exact rb_cell hph.1.pb 0)
          have e28 : (many gg_ L (VL z))[28]?.getD undef = .pointer (some ⟨P, 0, none⟩) := many_eval3 hgN (HOK.out z) (by rw [HVL.out]; rfl) y6
          refine opIn_run (v := .pointer (some ⟨p, 0, none⟩)) (w' := w') rfl rfl (fun c h => by cases h) (fun _ => trivial) ?_ ⟨z, by exact many_put3 (HOK.out _) (by rw [HVL.out]; rfl) hL, by simp only [upd, y6, n8, n10, n11, hL, Nat.reduceBEq, cond_true, cond_false]; exact hph⟩
          go_simp
        · skip
          have y7 : L 7 = true := up_at hu 7 (by kernel_rfl)
          have n10 : L 10 = false := not_yet hL fun h => shut_at hs 10 8 (by kernel_rfl) (h)
          have n11 : L 11 = false := not_yet hL fun h => shut_at hs 11 8 (by kernel_rfl) (h)
          try simp only [y7, n10, n11, hL, cond_true, cond_false] at hph
          have e29 : (many gg_ L (VL z))[29]?.getD undef = .pointer (some ⟨p, 0, none⟩) := many_eval3 hgN (HOK.out z) (by rw [HVL.out]; rfl) y7
          refine opIn_call (f := 33) (args := #[.pointer (some ⟨p, 0, none⟩), .int .i64 2]) (w' := w') rfl rfl (fun c h => by cases h) (fun _ => trivial) rfl (by go_simp) ((callsIn_wide.2 (get2 hph.1.rd HO.out hln)).mono ?_)
          rintro e w2 ⟨rfl, hR_, hg_⟩
          exact ⟨_, rfl, z, by exact many_put3 (HOK.out _) (by rw [HVL.out]; rfl) hL, by simp only [upd, y7, n10, n11, hL, Nat.reduceBEq, cond_true, cond_false]; exact ⟨hph.1.get hR_ hg_, hph.2.trans (Eff.of_grown hg_)⟩⟩
        · skip
          have y8 : L 8 = true := up_at hu 8 (by kernel_rfl)
          have n10 : L 10 = false := not_yet hL fun h => shut_at hs 10 9 (by kernel_rfl) (h)
          have n11 : L 11 = false := not_yet hL fun h => shut_at hs 11 9 (by kernel_rfl) (h)
          try simp only [y8, n10, n11, hL, cond_true, cond_false] at hph
          have e30 : (many gg_ L (VL z))[30]?.getD undef = .int .i64 (a * 256 + b) := many_eval3 hgN (HOK.out z) (by rw [HVL.out]; rfl) y8
          refine opIn_run (v := .int .i64 (ct.length : Int)) (w' := w') rfl rfl (fun c h => by cases h) (fun _ => trivial) ?_ ⟨z, by exact many_put3 (HOK.out _) (by rw [HVL.out]; rfl) hL, by simp only [upd, y8, n10, n11, hL, Nat.reduceBEq, cond_true, cond_false]; exact hph⟩
          have hL_ := HL.out
          have hb9 : -9223372036854775808 ≤ (ct.length : Int) ∧ (ct.length : Int) ≤ 9223372036854775807 := by omega
          go_simp
          first | done | exact IntWalk.i64_in _ hb9 | (rw [hL_]; exact IntWalk.i64_in _ hb9)
        · skip
          have y3 : L 3 = true := up_at hu 3 (by kernel_rfl)
          have y8 : L 8 = true := up_at hu 8 (by kernel_rfl)
          have y9 : L 9 = true := up_at hu 9 (by kernel_rfl)
          have n11 : L 11 = false := not_yet hL fun h => shut_at hs 11 10 (by kernel_rfl) (h)
          try simp only [y3, y8, y9, n11, hL, cond_true, cond_false] at hph
          have e25 : (many gg_ L (VL z))[25]?.getD undef = .pointer (some ⟨p, 0, none⟩) := many_eval3 hgN (HOK.out z) (by rw [HVL.out]; rfl) y3
          have e31 : (many gg_ L (VL z))[31]?.getD undef = .int .i64 (ct.length : Int) := many_eval3 hgN (HOK.out z) (by rw [HVL.out]; rfl) y9
          refine opIn_call (f := 63) (args := #[.pointer (some ⟨p, 0, none⟩), .int .i64 (ct.length : Int)]) (w' := w') rfl rfl (fun c h => by cases h) (fun _ => trivial) rfl (by go_simp) ((callsIn_wide.2 (take_own hph.1 hlc)).mono ?_)
          rintro e w2 ⟨A_, c_, rfl, h1_, h2_, h3_⟩
          exact ⟨_, rfl, (A_, c_), by rw [show many gg_ L (VL z) = many gg_ L (VL (A_, c_)) from by rw [HVL.out]; simp only [many, y3, y8, y9, n11, hL, cond_false, cond_true]]; exact many_put3 (HOK.out _) (by rw [HVL.out]; rfl) hL, by simp only [upd, y3, y8, y9, n11, hL, Nat.reduceBEq, cond_true, cond_false]; exact ⟨h1_, hph.2.trans h2_, h3_⟩⟩
        · skip
          have y0 : L 0 = true := up_at hu 0 (by kernel_rfl)
          have y1 : L 1 = true := up_at hu 1 (by kernel_rfl)
          have y2 : L 2 = true := up_at hu 2 (by kernel_rfl)
          have y3 : L 3 = true := up_at hu 3 (by kernel_rfl)
          have y4 : L 4 = true := up_at hu 4 (by kernel_rfl)
          have y5 : L 5 = true := up_at hu 5 (by kernel_rfl)
          have y6 : L 6 = true := up_at hu 6 (by kernel_rfl)
          have y7 : L 7 = true := up_at hu 7 (by kernel_rfl)
          have y8 : L 8 = true := up_at hu 8 (by kernel_rfl)
          have y9 : L 9 = true := up_at hu 9 (by kernel_rfl)
          have y10 : L 10 = true := up_at hu 10 (by kernel_rfl)
          try simp only [y0, y1, y2, y3, y4, y5, y6, y7, y8, y9, y10, hL, cond_true, cond_false] at hph
          have e32 : (many gg_ L (VL z))[32]?.getD undef = .slice z.1 ct.length z.2 := many_eval3 hgN (HOK.out z) (by rw [HVL.out]; rfl) y10
          refine opIn_run (v := .slice z.1 ct.length z.2) (w' := w') rfl rfl (fun c h => by cases h) (fun _ => trivial) ?_ ⟨z, by exact many_put3 (HOK.out _) (by rw [HVL.out]; rfl) hL, by simp only [upd, y0, y1, y2, y3, y4, y5, y6, y7, y8, y9, y10, hL, Nat.reduceBEq, cond_true, cond_false]; exact hph⟩
          go_simp
      case fin =>
        intro L z w' hall hph
        have l8 := hall 8 (by decide)
        have l10 := hall 10 (by decide)
        simp only [l8, l10, cond_true] at hph
        clear l8 l10
        rw [HVL.out]
        dsimp only [manyL, List.set_cons_zero, List.set_cons_succ]
        clear hall HVL HOK HVI
        obtain ⟨A9, c9⟩ := z
        simp only at hph
        obtain ⟨hps, hef, hown⟩ := hph
        obtain ⟨w2, hw2⟩ : ∃ W_, W_ = w' := ⟨_, rfl⟩
        subst hw2
        have HP2 := Lib.hid hps
        have HE2 := Lib.hid hef
        have HOW := Lib.hid hown
        have ED := Lib.hid (end_any hps.rd (by omega))
        have c0 := rb_cell hps.pb 0
        simp only [List.getElem?_toArray, List.getElem?_cons_succ, List.getElem?_cons_zero] at c0
        clear hps hef hown
        go_wp2_with fail
        refine ED.out.mono ?_
        rintro e_ wx ⟨rfl, nd, rfl⟩
        rw [HEE.out]
        have HP3 : Hid (PS (w2.drewN nd) P p m lo tl #[.pointer (some ⟨p, 0, none⟩), v1, v2, v3, v4, v5, v6, v7, v8, v9, v10, v11, v12, v13, v14, v15, v16, v17, v18, .map (some m)] es clock) := Lib.hid (HP2.out.more (below_drewN (Below.refl _ _) nd))
        have HE3 : Hid (Eff [p] w (w2.drewN nd)) := Lib.hid (HE2.out.trans (Eff.of_below (below_drewN (Below.refl _ _) nd)))
        have HO3 : Hid ((w2.drewN nd).ownsRow (P + 1) 5 1 (.slice A9 ct.length c9) ct.length (ct.map (Value.int .u8))) := Lib.hid (ownsRow_keep HOW.out (Nat.le_refl _) (fun _ _ => rfl))
        obtain ⟨w3, hw3⟩ : ∃ X_, w2.drewN nd = X_ := ⟨_, rfl⟩
        rw [hw3] at HP3 HE3 HO3 ⊢
        clear hw3 HP2 HE2 HOW ED c0
        go_wp2_with fail
        refine (HW.out A9 c9 w3 HO3.out).mono ?_
        rintro e_ w4 ⟨rfl, rfl⟩
        cases ow with
        | true =>
          go_wp2
          refine bodyPost_ret (v := .int .i64 13) (by simp [results, Try.results34, go_sem]) rfl ?_
          refine ⟨A9, c9, w3, HP3.out, HO3.out, HE3.out, ?_⟩
          first | exact ⟨rfl, rfl⟩ | exact .inl ⟨rfl, rfl, rfl⟩
        | false =>
          go_wp2_with fail
          refine (HK.out (by first | rfl | trivial) A9 c9 w3 HP3.out HO3.out).mono ?_
          rintro e_ w5 ⟨ok, rfl, hk⟩
          have HKK := Lib.hid hk
          clear hk
          cases ok with
          | true =>
            go_wp2
            refine bodyPost_ret (v := .int .i64 0) (by simp [results, Try.results34, go_sem]) rfl ?_
            refine ⟨A9, c9, w3, HP3.out, HO3.out, HE3.out, ?_⟩
            first | exact .inr HKK.out | exact .inr ⟨rfl, HKK.out⟩ | exact ⟨true, rfl, HKK.out⟩ | exact .inr ⟨rfl, true, rfl, HKK.out⟩ | exact ⟨rfl, true, rfl, HKK.out⟩
          | false =>
            go_wp2
            refine bodyPost_ret (v := .int .i64 10) (by simp [results, Try.results34, go_sem]) rfl ?_
            refine ⟨A9, c9, w3, HP3.out, HO3.out, HE3.out, ?_⟩
            first | exact .inl HKK.out | exact .inl ⟨rfl, HKK.out⟩ | exact ⟨false, rfl, HKK.out⟩ | exact .inr ⟨rfl, false, rfl, HKK.out⟩ | exact ⟨rfl, false, rfl, HKK.out⟩
    · go_enter Try.func34, Try.ntmps34
      go_wp2_with fail
      refine HA.out.mono ?_
      rintro e_ w1 ⟨rfl, rfl⟩
      go_upto_region 5 with fail
      obtain ⟨VL, hVL⟩ : ∃ VL : Option Addr × Nat → List (Nat × Nat × Value), VL = fun z => [(0, 22, .pointer (some ⟨P, 0, none⟩)), (1, 23, .pointer (some ⟨P, 0, none⟩)), (2, 24, .pointer (some ⟨P, 0, none⟩)), (3, 25, .pointer (some ⟨p, 0, none⟩)), (4, 26, .pointer (some ⟨P, 0, none⟩)), (5, 27, .pointer (some ⟨P, 0, none⟩)), (6, 28, .pointer (some ⟨P, 0, none⟩)), (7, 29, .pointer (some ⟨p, 0, none⟩)), (8, 30, .int .i64 (a * 256 + b)), (9, 31, .int .i64 (ct.length : Int)), (10, 32, .slice z.1 ct.length z.2), (11, 5, .slice z.1 ct.length z.2)] := ⟨_, rfl⟩
      have hok : ∀ z, manyOk 52 (VL z) := fun z => by rw [hVL]; exact okB_ok rfl
      have HVL := Lib.hid hVL
      have hvi : ∀ z, ∀ x ∈ VL z, x.1 < 12 := fun z => by rw [hVL]; exact ltB_ok rfl
      have HOK := Lib.hid hok
      have HVI := Lib.hid hvi
      clear hVL hok hvi
      refine (wpIn_wide (n := 9)).1 (regionIn_many (N := 52) (w := _) VL (fun L z w' => (bif L 10 then (PS w' P p m lo tl #[.pointer (some ⟨p, 0, none⟩), v1, v2, v3, v4, v5, v6, v7, v8, v9, v10, v11, v12, v13, v14, v15, v16, v17, v18, .map (some m)] es clock ∧ Eff [p] w w' ∧ w'.ownsRow (P + 1) 5 1 (.slice z.1 ct.length z.2) ct.length (ct.map (Value.int .u8))) else (bif L 8 then (PS w' P p m lo (ct ++ tl) #[.pointer (some ⟨p, 0, none⟩), v1, v2, v3, v4, v5, v6, v7, v8, v9, v10, v11, v12, v13, v14, v15, v16, v17, v18, .map (some m)] es clock ∧ Eff [p] w w') else PS w' P p m lo (a :: b :: (ct ++ tl)) #[.pointer (some ⟨p, 0, none⟩), v1, v2, v3, v4, v5, v6, v7, v8, v9, v10, v11, v12, v13, v14, v15, v16, v17, v18, .map (some m)] es clock ∧ Eff [p] w w'))) [(0, .pointer (some ⟨P, 0, none⟩))] (by kernel_rfl) (by kernel_rfl) rfl (by simp only [List.forall_mem_cons, List.not_mem_nil, false_imp_iff, implies_true, and_true]; exact rfl) HVI.out (none, 0) ?start ?step ?fin)
      case start => exact ⟨HPS.out.drew, Eff.of_below (below_drewN (Below.refl _ _) 1)⟩
      case step =>
        intro gg_ hgN hgF ii_ hii_ L z w' hph hs hu
        have hF0 := hgF (0, .pointer (some ⟨P, 0, none⟩)) (by simp)
        have hL := hu.1
        have hii_ : ii_ < 12 := hii_
        clear hgF
        obtain rfl | rfl | rfl | rfl | rfl | rfl | rfl | rfl | rfl | rfl | rfl | rfl := (by omega : ii_ = 0 ∨ ii_ = 1 ∨ ii_ = 2 ∨ ii_ = 3 ∨ ii_ = 4 ∨ ii_ = 5 ∨ ii_ = 6 ∨ ii_ = 7 ∨ ii_ = 8 ∨ ii_ = 9 ∨ ii_ = 10 ∨ ii_ = 11)
        · skip
          have n10 : L 10 = false := not_yet hL fun h => shut_at hs 1 0 (by kernel_rfl) (shut_at hs 2 1 (by kernel_rfl) (shut_at hs 3 2 (by kernel_rfl) (shut_at hs 10 3 (by kernel_rfl) (h))))
          have n11 : L 11 = false := not_yet hL fun h => shut_at hs 11 0 (by kernel_rfl) (h)
          try simp only [n10, n11, hL, cond_true, cond_false] at hph
          have e0 : (many gg_ L (VL z))[0]?.getD undef = .pointer (some ⟨P, 0, none⟩) := many_out3 hgN (HOK.out z) (by rw [HVL.out]; rfl) hF0
          refine opIn_run (v := .pointer (some ⟨P, 0, none⟩)) (w' := w') rfl rfl (fun c h => by cases h) (fun _ => trivial) ?_ ⟨z, by exact many_put3 (HOK.out _) (by rw [HVL.out]; rfl) hL, by simp only [upd, n10, n11, hL, Nat.reduceBEq, cond_true, cond_false]; exact hph⟩
          go_simp
        · skip
          have y0 : L 0 = true := up_at hu 0 (by kernel_rfl)
          have n10 : L 10 = false := not_yet hL fun h => shut_at hs 2 1 (by kernel_rfl) (shut_at hs 3 2 (by kernel_rfl) (shut_at hs 10 3 (by kernel_rfl) (h)))
          have n11 : L 11 = false := not_yet hL fun h => shut_at hs 11 1 (by kernel_rfl) (h)
          try simp only [y0, n10, n11, hL, cond_true, cond_false] at hph
          have e22 : (many gg_ L (VL z))[22]?.getD undef = .pointer (some ⟨P, 0, none⟩) := many_eval3 hgN (HOK.out z) (by rw [HVL.out]; rfl) y0
          refine opIn_run (v := .pointer (some ⟨P, 0, none⟩)) (w' := w') rfl rfl (fun c h => by cases h) (fun _ => trivial) ?_ ⟨z, by exact many_put3 (HOK.out _) (by rw [HVL.out]; rfl) hL, by simp only [upd, y0, n10, n11, hL, Nat.reduceBEq, cond_true, cond_false]; exact hph⟩
          go_simp
        · skip
          have y1 : L 1 = true := up_at hu 1 (by kernel_rfl)
          have n10 : L 10 = false := not_yet hL fun h => shut_at hs 3 2 (by kernel_rfl) (shut_at hs 10 3 (by kernel_rfl) (h))
          have n11 : L 11 = false := not_yet hL fun h => shut_at hs 11 2 (by kernel_rfl) (h)
          try simp only [y1, n10, n11, hL, cond_true, cond_false] at hph
          have e23 : (many gg_ L (VL z))[23]?.getD undef = .pointer (some ⟨P, 0, none⟩) := many_eval3 hgN (HOK.out z) (by rw [HVL.out]; rfl) y1
          refine opIn_run (v := .pointer (some ⟨P, 0, none⟩)) (w' := w') rfl rfl (fun c h => by cases h) (fun _ => trivial) ?_ ⟨z, by exact many_put3 (HOK.out _) (by rw [HVL.out]; rfl) hL, by simp only [upd, y1, n10, n11, hL, Nat.reduceBEq, cond_true, cond_false]; exact hph⟩
          go_simp
        · skip
          have y2 : L 2 = true := up_at hu 2 (by kernel_rfl)
          have n10 : L 10 = false := not_yet hL fun h => shut_at hs 10 3 (by kernel_rfl) (h)
          have n11 : L 11 = false := not_yet hL fun h => shut_at hs 11 3 (by kernel_rfl) (h)
          try simp only [y2, n10, n11, hL, cond_true, cond_false] at hph
          have hcell : w'.cell? ⟨P, 0, none⟩ = some (.pointer (some ⟨p, 0, none⟩)) := by revert hph; cases L 8 <;> cases L 10 <;> (intro hph; exact rb_cell hph.1.pb 0)
          have e24 : (many gg_ L (VL z))[24]?.getD undef = .pointer (some ⟨P, 0, none⟩) := many_eval3 hgN (HOK.out z) (by rw [HVL.out]; rfl) y2
          refine opIn_run (v := .pointer (some ⟨p, 0, none⟩)) (w' := w') rfl rfl (fun c h => by cases h) (fun _ => trivial) ?_ ⟨z, by exact many_put3 (HOK.out _) (by rw [HVL.out]; rfl) hL, by simp only [upd, y2, n10, n11, hL, Nat.reduceBEq, cond_true, cond_false]; exact hph⟩
          go_simp
        · skip
          have n8 : L 8 = false := not_yet hL fun h => shut_at hs 5 4 (by kernel_rfl) (shut_at hs 6 5 (by kernel_rfl) (shut_at hs 7 6 (by kernel_rfl) (shut_at hs 8 7 (by kernel_rfl) (h))))
          have n10 : L 10 = false := not_yet hL fun h => shut_at hs 5 4 (by kernel_rfl) (shut_at hs 6 5 (by kernel_rfl) (shut_at hs 7 6 (by kernel_rfl) (shut_at hs 8 7 (by kernel_rfl) (shut_at hs 10 8 (by kernel_rfl) (h)))))
          have n11 : L 11 = false := not_yet hL fun h => shut_at hs 11 4 (by kernel_rfl) (h)
          try simp only [n8, n10, n11, hL, cond_true, cond_false] at hph
          have e0 : (many gg_ L (VL z))[0]?.getD undef = .pointer (some ⟨P, 0, none⟩) := many_out3 hgN (HOK.out z) (by rw [HVL.out]; rfl) hF0
          refine opIn_run (v := .pointer (some ⟨P, 0, none⟩)) (w' := w') rfl rfl (fun c h => by cases h) (fun _ => trivial) ?_ ⟨z, by exact many_put3 (HOK.out _) (by rw [HVL.out]; rfl) hL, by simp only [upd, n8, n10, n11, hL, Nat.reduceBEq, cond_true, cond_false]; exact hph⟩
          go_simp
        · skip
          have y4 : L 4 = true := up_at hu 4 (by kernel_rfl)
          have n8 : L 8 = false := not_yet hL fun h => shut_at hs 6 5 (by kernel_rfl) (shut_at hs 7 6 (by kernel_rfl) (shut_at hs 8 7 (by kernel_rfl) (h)))
          have n10 : L 10 = false := not_yet hL fun h => shut_at hs 6 5 (by kernel_rfl) (shut_at hs 7 6 (by kernel_rfl) (shut_at hs 8 7 (by kernel_rfl) (shut_at hs 10 8 (by kernel_rfl) (h))))
          have n11 : L 11 = false := not_yet hL fun h => shut_at hs 11 5 (by kernel_rfl) (h)
          try simp only [y4, n8, n10, n11, hL, cond_true, cond_false] at hph
          have e26 : (many gg_ L (VL z))[26]?.getD undef = .pointer (some ⟨P, 0, none⟩) := many_eval3 hgN (HOK.out z) (by rw [HVL.out]; rfl) y4
          refine opIn_run (v := .pointer (some ⟨P, 0, none⟩)) (w' := w') rfl rfl (fun c h => by cases h) (fun _ => trivial) ?_ ⟨z, by exact many_put3 (HOK.out _) (by rw [HVL.out]; rfl) hL, by simp only [upd, y4, n8, n10, n11, hL, Nat.reduceBEq, cond_true, cond_false]; exact hph⟩
          go_simp
        · skip
          have y5 : L 5 = true := up_at hu 5 (by kernel_rfl)
          have n8 : L 8 = false := not_yet hL fun h => shut_at hs 7 6 (by kernel_rfl) (shut_at hs 8 7 (by kernel_rfl) (h))
          have n10 : L 10 = false := not_yet hL fun h => shut_at hs 7 6 (by kernel_rfl) (shut_at hs 8 7 (by kernel_rfl) (shut_at hs 10 8 (by kernel_rfl) (h)))
          have n11 : L 11 = false := not_yet hL fun h => shut_at hs 11 6 (by kernel_rfl) (h)
          try simp only [y5, n8, n10, n11, hL, cond_true, cond_false] at hph
          have e27 : (many gg_ L (VL z))[27]?.getD undef = .pointer (some ⟨P, 0, none⟩) := many_eval3 hgN (HOK.out z) (by rw [HVL.out]; rfl) y5
          refine opIn_run (v := .pointer (some ⟨P, 0, none⟩)) (w' := w') rfl rfl (fun c h => by cases h) (fun _ => trivial) ?_ ⟨z, by exact many_put3 (HOK.out _) (by rw [HVL.out]; rfl) hL, by simp only [upd, y5, n8, n10, n11, hL, Nat.reduceBEq, cond_true, cond_false]; exact hph⟩
          go_simp
        · skip
          have y6 : L 6 = true := up_at hu 6 (by kernel_rfl)
          have n8 : L 8 = false := not_yet hL fun h => shut_at hs 8 7 (by kernel_rfl) (h)
          have n10 : L 10 = false := not_yet hL fun h => shut_at hs 8 7 (by kernel_rfl) (shut_at hs 10 8 (by kernel_rfl) (h))
          have n11 : L 11 = false := not_yet hL fun h => shut_at hs 11 7 (by kernel_rfl) (h)
          try simp only [y6, n8, n10, n11, hL, cond_true, cond_false] at hph
          have hcell : w'.cell? ⟨P, 0, none⟩ = some (.pointer (some ⟨p, 0, none⟩)) := by revert hph; cases L 8 <;> cases L 10 <;> (intro hph; exact rb_cell hph.1.pb 0)
          have e28 : (many gg_ L (VL z))[28]?.getD undef = .pointer (some ⟨P, 0, none⟩) := many_eval3 hgN (HOK.out z) (by rw [HVL.out]; rfl) y6
          refine opIn_run (v := .pointer (some ⟨p, 0, none⟩)) (w' := w') rfl rfl (fun c h => by cases h) (fun _ => trivial) ?_ ⟨z, by exact many_put3 (HOK.out _) (by rw [HVL.out]; rfl) hL, by simp only [upd, y6, n8, n10, n11, hL, Nat.reduceBEq, cond_true, cond_false]; exact hph⟩
          go_simp
        · skip
          have y7 : L 7 = true := up_at hu 7 (by kernel_rfl)
          have n10 : L 10 = false := not_yet hL fun h => shut_at hs 10 8 (by kernel_rfl) (h)
          have n11 : L 11 = false := not_yet hL fun h => shut_at hs 11 8 (by kernel_rfl) (h)
          try simp only [y7, n10, n11, hL, cond_true, cond_false] at hph
          have e29 : (many gg_ L (VL z))[29]?.getD undef = .pointer (some ⟨p, 0, none⟩) := many_eval3 hgN (HOK.out z) (by rw [HVL.out]; rfl) y7
          refine opIn_call (f := 33) (args := #[.pointer (some ⟨p, 0, none⟩), .int .i64 2]) (w' := w') rfl rfl (fun c h => by cases h) (fun _ => trivial) rfl (by go_simp) ((callsIn_wide.2 (get2 hph.1.rd HO.out hln)).mono ?_)
          rintro e w2 ⟨rfl, hR_, hg_⟩
          exact ⟨_, rfl, z, by exact many_put3 (HOK.out _) (by rw [HVL.out]; rfl) hL, by simp only [upd, y7, n10, n11, hL, Nat.reduceBEq, cond_true, cond_false]; exact ⟨hph.1.get hR_ hg_, hph.2.trans (Eff.of_grown hg_)⟩⟩
        · skip
          have y8 : L 8 = true := up_at hu 8 (by kernel_rfl)
          have n10 : L 10 = false := not_yet hL fun h => shut_at hs 10 9 (by kernel_rfl) (h)
          have n11 : L 11 = false := not_yet hL fun h => shut_at hs 11 9 (by kernel_rfl) (h)
          try simp only [y8, n10, n11, hL, cond_true, cond_false] at hph
          have e30 : (many gg_ L (VL z))[30]?.getD undef = .int .i64 (a * 256 + b) := many_eval3 hgN (HOK.out z) (by rw [HVL.out]; rfl) y8
          refine opIn_run (v := .int .i64 (ct.length : Int)) (w' := w') rfl rfl (fun c h => by cases h) (fun _ => trivial) ?_ ⟨z, by exact many_put3 (HOK.out _) (by rw [HVL.out]; rfl) hL, by simp only [upd, y8, n10, n11, hL, Nat.reduceBEq, cond_true, cond_false]; exact hph⟩
          have hL_ := HL.out
          have hb9 : -9223372036854775808 ≤ (ct.length : Int) ∧ (ct.length : Int) ≤ 9223372036854775807 := by omega
          go_simp
          first | done | exact IntWalk.i64_in _ hb9 | (rw [hL_]; exact IntWalk.i64_in _ hb9)
        · skip
          have y3 : L 3 = true := up_at hu 3 (by kernel_rfl)
          have y8 : L 8 = true := up_at hu 8 (by kernel_rfl)
          have y9 : L 9 = true := up_at hu 9 (by kernel_rfl)
          have n11 : L 11 = false := not_yet hL fun h => shut_at hs 11 10 (by kernel_rfl) (h)
          try simp only [y3, y8, y9, n11, hL, cond_true, cond_false] at hph
          have e25 : (many gg_ L (VL z))[25]?.getD undef = .pointer (some ⟨p, 0, none⟩) := many_eval3 hgN (HOK.out z) (by rw [HVL.out]; rfl) y3
          have e31 : (many gg_ L (VL z))[31]?.getD undef = .int .i64 (ct.length : Int) := many_eval3 hgN (HOK.out z) (by rw [HVL.out]; rfl) y9
          refine opIn_call (f := 63) (args := #[.pointer (some ⟨p, 0, none⟩), .int .i64 (ct.length : Int)]) (w' := w') rfl rfl (fun c h => by cases h) (fun _ => trivial) rfl (by go_simp) ((callsIn_wide.2 (take_own hph.1 hlc)).mono ?_)
          rintro e w2 ⟨A_, c_, rfl, h1_, h2_, h3_⟩
          exact ⟨_, rfl, (A_, c_), by rw [show many gg_ L (VL z) = many gg_ L (VL (A_, c_)) from by rw [HVL.out]; simp only [many, y3, y8, y9, n11, hL, cond_false, cond_true]]; exact many_put3 (HOK.out _) (by rw [HVL.out]; rfl) hL, by simp only [upd, y3, y8, y9, n11, hL, Nat.reduceBEq, cond_true, cond_false]; exact ⟨h1_, hph.2.trans h2_, h3_⟩⟩
        · skip
          have y0 : L 0 = true := up_at hu 0 (by kernel_rfl)
          have y1 : L 1 = true := up_at hu 1 (by kernel_rfl)
          have y2 : L 2 = true := up_at hu 2 (by kernel_rfl)
          have y3 : L 3 = true := up_at hu 3 (by kernel_rfl)
          have y4 : L 4 = true := up_at hu 4 (by kernel_rfl)
          have y5 : L 5 = true := up_at hu 5 (by kernel_rfl)
          have y6 : L 6 = true := up_at hu 6 (by kernel_rfl)
          have y7 : L 7 = true := up_at hu 7 (by kernel_rfl)
          have y8 : L 8 = true := up_at hu 8 (by kernel_rfl)
          have y9 : L 9 = true := up_at hu 9 (by kernel_rfl)
          have y10 : L 10 = true := up_at hu 10 (by kernel_rfl)
          try simp only [y0, y1, y2, y3, y4, y5, y6, y7, y8, y9, y10, hL, cond_true, cond_false] at hph
          have e32 : (many gg_ L (VL z))[32]?.getD undef = .slice z.1 ct.length z.2 := many_eval3 hgN (HOK.out z) (by rw [HVL.out]; rfl) y10
          refine opIn_run (v := .slice z.1 ct.length z.2) (w' := w') rfl rfl (fun c h => by cases h) (fun _ => trivial) ?_ ⟨z, by exact many_put3 (HOK.out _) (by rw [HVL.out]; rfl) hL, by simp only [upd, y0, y1, y2, y3, y4, y5, y6, y7, y8, y9, y10, hL, Nat.reduceBEq, cond_true, cond_false]; exact hph⟩
          go_simp
      case fin =>
        intro L z w' hall hph
        have l8 := hall 8 (by decide)
        have l10 := hall 10 (by decide)
        simp only [l8, l10, cond_true] at hph
        clear l8 l10
        rw [HVL.out]
        dsimp only [manyL, List.set_cons_zero, List.set_cons_succ]
        clear hall HVL HOK HVI
        obtain ⟨A9, c9⟩ := z
        simp only at hph
        obtain ⟨hps, hef, hown⟩ := hph
        obtain ⟨w2, hw2⟩ : ∃ W_, W_ = w' := ⟨_, rfl⟩
        subst hw2
        have HP2 := Lib.hid hps
        have HE2 := Lib.hid hef
        have HOW := Lib.hid hown
        have ED := Lib.hid (end_any hps.rd (by omega))
        have c0 := rb_cell hps.pb 0
        simp only [List.getElem?_toArray, List.getElem?_cons_succ, List.getElem?_cons_zero] at c0
        clear hps hef hown
        go_wp2_with fail
        refine ED.out.mono ?_
        rintro e_ wx ⟨rfl, nd, rfl⟩
        rw [HEE.out]
        have HP3 : Hid (PS (w2.drewN nd) P p m lo tl #[.pointer (some ⟨p, 0, none⟩), v1, v2, v3, v4, v5, v6, v7, v8, v9, v10, v11, v12, v13, v14, v15, v16, v17, v18, .map (some m)] es clock) := Lib.hid (HP2.out.more (below_drewN (Below.refl _ _) nd))
        have HE3 : Hid (Eff [p] w (w2.drewN nd)) := Lib.hid (HE2.out.trans (Eff.of_below (below_drewN (Below.refl _ _) nd)))
        have HO3 : Hid ((w2.drewN nd).ownsRow (P + 1) 5 1 (.slice A9 ct.length c9) ct.length (ct.map (Value.int .u8))) := Lib.hid (ownsRow_keep HOW.out (Nat.le_refl _) (fun _ _ => rfl))
        obtain ⟨w3, hw3⟩ : ∃ X_, w2.drewN nd = X_ := ⟨_, rfl⟩
        rw [hw3] at HP3 HE3 HO3 ⊢
        clear hw3 HP2 HE2 HOW ED c0
        go_wp2_with fail
        refine (HW.out A9 c9 w3 HO3.out).mono ?_
        rintro e_ w4 ⟨rfl, rfl⟩
        cases ow with
        | true =>
          go_wp2
          refine bodyPost_ret (v := .int .i64 13) (by simp [results, Try.results34, go_sem]) rfl ?_
          refine ⟨A9, c9, w3, HP3.out, HO3.out, HE3.out, ?_⟩
          first | exact ⟨rfl, rfl⟩ | exact .inl ⟨rfl, rfl, rfl⟩
        | false =>
          go_wp2_with fail
          refine (HK.out (by first | rfl | trivial) A9 c9 w3 HP3.out HO3.out).mono ?_
          rintro e_ w5 ⟨ok, rfl, hk⟩
          have HKK := Lib.hid hk
          clear hk
          cases ok with
          | true =>
            go_wp2
            refine bodyPost_ret (v := .int .i64 0) (by simp [results, Try.results34, go_sem]) rfl ?_
            refine ⟨A9, c9, w3, HP3.out, HO3.out, HE3.out, ?_⟩
            first | exact .inr HKK.out | exact .inr ⟨rfl, HKK.out⟩ | exact ⟨true, rfl, HKK.out⟩ | exact .inr ⟨rfl, true, rfl, HKK.out⟩ | exact ⟨rfl, true, rfl, HKK.out⟩
          | false =>
            go_wp2
            refine bodyPost_ret (v := .int .i64 10) (by simp [results, Try.results34, go_sem]) rfl ?_
            refine ⟨A9, c9, w3, HP3.out, HO3.out, HE3.out, ?_⟩
            first | exact .inl HKK.out | exact .inl ⟨rfl, HKK.out⟩ | exact ⟨false, rfl, HKK.out⟩ | exact .inr ⟨rfl, false, rfl, HKK.out⟩ | exact ⟨rfl, false, rfl, HKK.out⟩
end
section
open Go.RowKit
set_option maxRecDepth 100000
/-- A parser whose Reader has failed. -/
structure PSe (w : World) (P p m lo : Nat) (cells : Array Value) (es : Array MapEntry) (clock : Nat) (err : Int) : Prop where
  pb : w.heap[P]? = some (.cells cells 69 (0, 0))
  rd : ∃ l, Rd w lo p l err ∧ l.length ≤ 1000000
  sep : p < m ∧ m < P
section
variable {w w' : World} {P p m lo clock : Nat} {l l' : List Int} {cells : Array Value} {es : Array MapEntry} {err e' : Int}
theorem PS.gete (h : PS w P p m lo l cells es clock) (hR : Rd w' lo p l' e') (hg : w.grownBy w' (some p)) (he : e' = err ∧ l'.length ≤ 1000000) : PSe w' P p m lo cells es clock err := by
  have hs := h.sep
  exact ⟨(hg.block P (blk_lt h.pb) (fun e => by injection e with e; omega)).trans h.pb, ⟨_, he.1 ▸ hR, he.2⟩, hs⟩
theorem mayE_8 {n : Nat} (h : n < 2 ∧ n ≤ 1000000) : mayE (decide (1 ≤ (2 : Int) ∧ (2 : Int) ≤ 8)) 2 n 0 = 8 ∧ n ≤ 1000000 := by
  refine ⟨?_, h.2⟩
  have : (n : Int) < 2 := by omega
  simp [mayE, failE, this]
theorem take_e (n : Int) (h : PSe w P p m lo cells es clock err) (hn : n < 0 ∨ True) (he : err ≠ 0) :
    Calls Try.prog 63 #[.pointer (some ⟨p, 0, none⟩), .int .i64 n] w fun e w' => e = .returned (.slice none 0 0) ∧ PSe w' P p m lo cells es clock err ∧ Eff [p] w w' := by
  obtain ⟨l, hr, hl⟩ := h.rd
  have hs := h.sep
  refine (take_no n hr (.inr (.inr he)) (by omega)).mono ?_
  rintro e w' ⟨rfl, h1, h2, h3⟩
  have hm : mayE (decide (0 ≤ n)) n l.length err = err := by unfold mayE failE; simp [he]
  rw [hm] at h1
  exact ⟨rfl, ⟨(h3.block P (blk_lt h.pb) (fun e => by injection e with e; omega)).trans h.pb, ⟨l, h1, hl⟩, hs⟩, Eff.of_grown h3⟩
theorem take_neg (n : Int) (h : PS w P p m lo l cells es clock) (hn : n < 0) (hl : l.length ≤ 1000000) :
    Calls Try.prog 63 #[.pointer (some ⟨p, 0, none⟩), .int .i64 n] w fun e w' => e = .returned (.slice none 0 0) ∧ PSe w' P p m lo cells es clock 1 ∧ Eff [p] w w' := by
  refine (take_no n h.rd (.inl hn) (by omega)).mono ?_
  rintro e w' ⟨rfl, h1, h2, h3⟩
  have hm : mayE (decide (0 ≤ n)) n l.length 0 = 1 := by unfold mayE failE; simp [show ¬ 0 ≤ n by omega]
  exact ⟨rfl, h.gete h1 h3 ⟨hm, hl⟩, Eff.of_grown h3⟩
theorem take_long (n : Int) (h : PS w P p m lo l cells es clock) (hn : 0 ≤ n ∧ (l.length : Int) < n) (hl : l.length ≤ 1000000) :
    Calls Try.prog 63 #[.pointer (some ⟨p, 0, none⟩), .int .i64 n] w fun e w' => e = .returned (.slice none 0 0) ∧ PSe w' P p m lo cells es clock 8 ∧ Eff [p] w w' := by
  refine (take_no n h.rd (.inr (.inl hn.2)) (by omega)).mono ?_
  rintro e w' ⟨rfl, h1, h2, h3⟩
  have hm : mayE (decide (0 ≤ n)) n l.length 0 = 8 := by unfold mayE failE; simp [hn.1, hn.2]
  exact ⟨rfl, h.gete h1 h3 ⟨hm, hl⟩, Eff.of_grown h3⟩
end
set_option maxHeartbeats 8000000 in
theorem seg_short (P p m lo clock : Nat) (mk : Int) (l : List Int) (es : Array MapEntry) (v1 v2 v3 v4 v5 v6 v7 v8 v9 v10 v11 v12 v13 v14 v15 v16 v17 v18 : Value) (w : World) (H : PS w P p m lo l #[.pointer (some ⟨p, 0, none⟩), v1, v2, v3, v4, v5, v6, v7, v8, v9, v10, v11, v12, v13, v14, v15, v16, v17, v18, .map (some m)] es clock) (hl : l.length < 2 ∧ l.length ≤ 1000000)
    (hmk : 65280 ≤ mk ∧ mk ≤ 65535) (hna : ¬ (65328 ≤ mk ∧ mk ≤ 65343)) (hA : Calls Try.prog 62 #[.pointer (some ⟨P, 0, none⟩), .int .i64 mk] w fun e w' => e = .returned (.bool true) ∧ w = w') :
    Calls Try.prog 34 #[.pointer (some ⟨P, 0, none⟩), .int .i64 mk] w fun e w' => e = .returned (.int .i64 10) ∧ Eff [p] w w' := by
  have HPS := Lib.hid H
  have HA := Lib.hid hA
  have hsh : mk / 256 = 255 := by omega
  have hna2 : mk < 65328 ∨ 65343 < mk := by omega
  clear H hA hna
  rcases hna2 with hlo | hhi
  · go_enter Try.func34, Try.ntmps34
    go_wp2_with fail
    refine HA.out.mono ?_
    rintro e_ w1 ⟨rfl, rfl⟩
    go_upto_region 5 with fail
    obtain ⟨VL, hVL⟩ : ∃ VL : Unit → List (Nat × Nat × Value), VL = fun z => [(0, 22, .pointer (some ⟨P, 0, none⟩)), (1, 23, .pointer (some ⟨P, 0, none⟩)), (2, 24, .pointer (some ⟨P, 0, none⟩)), (3, 25, .pointer (some ⟨p, 0, none⟩)), (4, 26, .pointer (some ⟨P, 0, none⟩)), (5, 27, .pointer (some ⟨P, 0, none⟩)), (6, 28, .pointer (some ⟨P, 0, none⟩)), (7, 29, .pointer (some ⟨p, 0, none⟩)), (8, 30, .int .i64 0), (9, 31, .int .i64 (-2)), (10, 32, .slice none 0 0), (11, 5, .slice none 0 0)] := ⟨_, rfl⟩
    have hok : ∀ z, manyOk 52 (VL z) := fun z => by rw [hVL]; exact okB_ok rfl
    have HVL := Lib.hid hVL
    have hvi : ∀ z, ∀ x ∈ VL z, x.1 < 12 := fun z => by rw [hVL]; exact ltB_ok rfl
    have HOK := Lib.hid hok
    have HVI := Lib.hid hvi
    clear hVL hok hvi
    refine (wpIn_wide (n := 9)).1 (regionIn_many (N := 52) (w := _) VL (fun L z w' => (bif L 10 then (PSe w' P p m lo #[.pointer (some ⟨p, 0, none⟩), v1, v2, v3, v4, v5, v6, v7, v8, v9, v10, v11, v12, v13, v14, v15, v16, v17, v18, .map (some m)] es clock 8 ∧ Eff [p] w w') else (bif L 8 then (PSe w' P p m lo #[.pointer (some ⟨p, 0, none⟩), v1, v2, v3, v4, v5, v6, v7, v8, v9, v10, v11, v12, v13, v14, v15, v16, v17, v18, .map (some m)] es clock 8 ∧ Eff [p] w w') else PS w' P p m lo l #[.pointer (some ⟨p, 0, none⟩), v1, v2, v3, v4, v5, v6, v7, v8, v9, v10, v11, v12, v13, v14, v15, v16, v17, v18, .map (some m)] es clock ∧ Eff [p] w w'))) [(0, .pointer (some ⟨P, 0, none⟩))] (by kernel_rfl) (by kernel_rfl) rfl (by simp only [List.forall_mem_cons, List.not_mem_nil, false_imp_iff, implies_true, and_true]; exact rfl) HVI.out () ?start ?step ?fin)
    case start => exact ⟨HPS.out.drew, Eff.of_below (below_drewN (Below.refl _ _) 1)⟩
    case step =>
      intro gg_ hgN hgF ii_ hii_ L z w' hph hs hu
      have hF0 := hgF (0, .pointer (some ⟨P, 0, none⟩)) (by simp)
      have hL := hu.1
      have hii_ : ii_ < 12 := hii_
      clear hgF
      obtain rfl | rfl | rfl | rfl | rfl | rfl | rfl | rfl | rfl | rfl | rfl | rfl := (by omega : ii_ = 0 ∨ ii_ = 1 ∨ ii_ = 2 ∨ ii_ = 3 ∨ ii_ = 4 ∨ ii_ = 5 ∨ ii_ = 6 ∨ ii_ = 7 ∨ ii_ = 8 ∨ ii_ = 9 ∨ ii_ = 10 ∨ ii_ = 11)
      · skip
        have n10 : L 10 = false := not_yet hL fun h => shut_at hs 1 0 (by kernel_rfl) (shut_at hs 2 1 (by kernel_rfl) (shut_at hs 3 2 (by kernel_rfl) (shut_at hs 10 3 (by kernel_rfl) (h))))
        have n11 : L 11 = false := not_yet hL fun h => shut_at hs 11 0 (by kernel_rfl) (h)
        try simp only [n10, n11, hL, cond_true, cond_false] at hph
        have e0 : (many gg_ L (VL z))[0]?.getD undef = .pointer (some ⟨P, 0, none⟩) := many_out3 hgN (HOK.out z) (by rw [HVL.out]; rfl) hF0
        refine opIn_run (v := .pointer (some ⟨P, 0, none⟩)) (w' := w') rfl rfl (fun c h => by cases h) (fun _ => trivial) ?_ ⟨z, by exact many_put3 (HOK.out _) (by rw [HVL.out]; rfl) hL, by simp only [upd, n10, n11, hL, Nat.reduceBEq, cond_true, cond_false]; exact hph⟩
        go_simp
      · skip
        have y0 : L 0 = true := up_at hu 0 (by kernel_rfl)
        have n10 : L 10 = false := not_yet hL fun h => shut_at hs 2 1 (by kernel_rfl) (shut_at hs 3 2 (by kernel_rfl) (shut_at hs 10 3 (by kernel_rfl) (h)))
        have n11 : L 11 = false := not_yet hL fun h => shut_at hs 11 1 (by kernel_rfl) (h)
        try simp only [y0, n10, n11, hL, cond_true, cond_false] at hph
        have e22 : (many gg_ L (VL z))[22]?.getD undef = .pointer (some ⟨P, 0, none⟩) := many_eval3 hgN (HOK.out z) (by rw [HVL.out]; rfl) y0
        refine opIn_run (v := .pointer (some ⟨P, 0, none⟩)) (w' := w') rfl rfl (fun c h => by cases h) (fun _ => trivial) ?_ ⟨z, by exact many_put3 (HOK.out _) (by rw [HVL.out]; rfl) hL, by simp only [upd, y0, n10, n11, hL, Nat.reduceBEq, cond_true, cond_false]; exact hph⟩
        go_simp
      · skip
        have y1 : L 1 = true := up_at hu 1 (by kernel_rfl)
        have n10 : L 10 = false := not_yet hL fun h => shut_at hs 3 2 (by kernel_rfl) (shut_at hs 10 3 (by kernel_rfl) (h))
        have n11 : L 11 = false := not_yet hL fun h => shut_at hs 11 2 (by kernel_rfl) (h)
        try simp only [y1, n10, n11, hL, cond_true, cond_false] at hph
        have e23 : (many gg_ L (VL z))[23]?.getD undef = .pointer (some ⟨P, 0, none⟩) := many_eval3 hgN (HOK.out z) (by rw [HVL.out]; rfl) y1
        refine opIn_run (v := .pointer (some ⟨P, 0, none⟩)) (w' := w') rfl rfl (fun c h => by cases h) (fun _ => trivial) ?_ ⟨z, by exact many_put3 (HOK.out _) (by rw [HVL.out]; rfl) hL, by simp only [upd, y1, n10, n11, hL, Nat.reduceBEq, cond_true, cond_false]; exact hph⟩
        go_simp
      · skip
        have y2 : L 2 = true := up_at hu 2 (by kernel_rfl)
        have n10 : L 10 = false := not_yet hL fun h => shut_at hs 10 3 (by kernel_rfl) (h)
        have n11 : L 11 = false := not_yet hL fun h => shut_at hs 11 3 (by kernel_rfl) (h)
        try simp only [y2, n10, n11, hL, cond_true, cond_false] at hph
        have hcell : w'.cell? ⟨P, 0, none⟩ = some (.pointer (some ⟨p, 0, none⟩)) := by revert hph; cases L 8 <;> cases L 10 <;> (intro hph; exact rb_cell hph.1.pb 0)
        have e24 : (many gg_ L (VL z))[24]?.getD undef = .pointer (some ⟨P, 0, none⟩) := many_eval3 hgN (HOK.out z) (by rw [HVL.out]; rfl) y2
        refine opIn_run (v := .pointer (some ⟨p, 0, none⟩)) (w' := w') rfl rfl (fun c h => by cases h) (fun _ => trivial) ?_ ⟨z, by exact many_put3 (HOK.out _) (by rw [HVL.out]; rfl) hL, by simp only [upd, y2, n10, n11, hL, Nat.reduceBEq, cond_true, cond_false]; exact hph⟩
        go_simp
      · skip
        have n8 : L 8 = false := not_yet hL fun h => shut_at hs 5 4 (by kernel_rfl) (shut_at hs 6 5 (by kernel_rfl) (shut_at hs 7 6 (by kernel_rfl) (shut_at hs 8 7 (by kernel_rfl) (h))))
        have n10 : L 10 = false := not_yet hL fun h => shut_at hs 5 4 (by kernel_rfl) (shut_at hs 6 5 (by kernel_rfl) (shut_at hs 7 6 (by kernel_rfl) (shut_at hs 8 7 (by kernel_rfl) (shut_at hs 10 8 (by kernel_rfl) (h)))))
        have n11 : L 11 = false := not_yet hL fun h => shut_at hs 11 4 (by kernel_rfl) (h)
        try simp only [n8, n10, n11, hL, cond_true, cond_false] at hph
        have e0 : (many gg_ L (VL z))[0]?.getD undef = .pointer (some ⟨P, 0, none⟩) := many_out3 hgN (HOK.out z) (by rw [HVL.out]; rfl) hF0
        refine opIn_run (v := .pointer (some ⟨P, 0, none⟩)) (w' := w') rfl rfl (fun c h => by cases h) (fun _ => trivial) ?_ ⟨z, by exact many_put3 (HOK.out _) (by rw [HVL.out]; rfl) hL, by simp only [upd, n8, n10, n11, hL, Nat.reduceBEq, cond_true, cond_false]; exact hph⟩
        go_simp
      · skip
        have y4 : L 4 = true := up_at hu 4 (by kernel_rfl)
        have n8 : L 8 = false := not_yet hL fun h => shut_at hs 6 5 (by kernel_rfl) (shut_at hs 7 6 (by kernel_rfl) (shut_at hs 8 7 (by kernel_rfl) (h)))
        have n10 : L 10 = false := not_yet hL fun h => shut_at hs 6 5 (by kernel_rfl) (shut_at hs 7 6 (by kernel_rfl) (shut_at hs 8 7 (by kernel_rfl) (shut_at hs 10 8 (by kernel_rfl) (h))))
        have n11 : L 11 = false := not_yet hL fun h => shut_at hs 11 5 (by kernel_rfl) (h)
        try simp only [y4, n8, n10, n11, hL, cond_true, cond_false] at hph
        have e26 : (many gg_ L (VL z))[26]?.getD undef = .pointer (some ⟨P, 0, none⟩) := many_eval3 hgN (HOK.out z) (by rw [HVL.out]; rfl) y4
        refine opIn_run (v := .pointer (some ⟨P, 0, none⟩)) (w' := w') rfl rfl (fun c h => by cases h) (fun _ => trivial) ?_ ⟨z, by exact many_put3 (HOK.out _) (by rw [HVL.out]; rfl) hL, by simp only [upd, y4, n8, n10, n11, hL, Nat.reduceBEq, cond_true, cond_false]; exact hph⟩
        go_simp
      · skip
        have y5 : L 5 = true := up_at hu 5 (by kernel_rfl)
        have n8 : L 8 = false := not_yet hL fun h => shut_at hs 7 6 (by kernel_rfl) (shut_at hs 8 7 (by kernel_rfl) (h))
        have n10 : L 10 = false := not_yet hL fun h => shut_at hs 7 6 (by kernel_rfl) (shut_at hs 8 7 (by kernel_rfl) (shut_at hs 10 8 (by kernel_rfl) (h)))
        have n11 : L 11 = false := not_yet hL fun h => shut_at hs 11 6 (by kernel_rfl) (h)
        try simp only [y5, n8, n10, n11, hL, cond_true, cond_false] at hph
        have e27 : (many gg_ L (VL z))[27]?.getD undef = .pointer (some ⟨P, 0, none⟩) := many_eval3 hgN (HOK.out z) (by rw [HVL.out]; rfl) y5
        refine opIn_run (v := .pointer (some ⟨P, 0, none⟩)) (w' := w') rfl rfl (fun c h => by cases h) (fun _ => trivial) ?_ ⟨z, by exact many_put3 (HOK.out _) (by rw [HVL.out]; rfl) hL, by simp only [upd, y5, n8, n10, n11, hL, Nat.reduceBEq, cond_true, cond_false]; exact hph⟩
        go_simp
      · skip
        have y6 : L 6 = true := up_at hu 6 (by kernel_rfl)
        have n8 : L 8 = false := not_yet hL fun h => shut_at hs 8 7 (by kernel_rfl) (h)
        have n10 : L 10 = false := not_yet hL fun h => shut_at hs 8 7 (by kernel_rfl) (shut_at hs 10 8 (by kernel_rfl) (h))
        have n11 : L 11 = false := not_yet hL fun h => shut_at hs 11 7 (by kernel_rfl) (h)
        try simp only [y6, n8, n10, n11, hL, cond_true, cond_false] at hph
        have hcell : w'.cell? ⟨P, 0, none⟩ = some (.pointer (some ⟨p, 0, none⟩)) := by revert hph; cases L 8 <;> cases L 10 <;> (intro hph; exact rb_cell hph.1.pb 0)
        have e28 : (many gg_ L (VL z))[28]?.getD undef = .pointer (some ⟨P, 0, none⟩) := many_eval3 hgN (HOK.out z) (by rw [HVL.out]; rfl) y6
        refine opIn_run (v := .pointer (some ⟨p, 0, none⟩)) (w' := w') rfl rfl (fun c h => by cases h) (fun _ => trivial) ?_ ⟨z, by exact many_put3 (HOK.out _) (by rw [HVL.out]; rfl) hL, by simp only [upd, y6, n8, n10, n11, hL, Nat.reduceBEq, cond_true, cond_false]; exact hph⟩
        go_simp
      · skip
        have y7 : L 7 = true := up_at hu 7 (by kernel_rfl)
        have n10 : L 10 = false := not_yet hL fun h => shut_at hs 10 8 (by kernel_rfl) (h)
        have n11 : L 11 = false := not_yet hL fun h => shut_at hs 11 8 (by kernel_rfl) (h)
        try simp only [y7, n10, n11, hL, cond_true, cond_false] at hph
        have e29 : (many gg_ L (VL z))[29]?.getD undef = .pointer (some ⟨p, 0, none⟩) := many_eval3 hgN (HOK.out z) (by rw [HVL.out]; rfl) y7
        refine opIn_call (f := 33) (args := #[.pointer (some ⟨p, 0, none⟩), .int .i64 2]) (w' := w') rfl rfl (fun c h => by cases h) (fun _ => trivial) rfl (by go_simp) ((callsIn_wide.2 (get_no 2 hph.1.rd (.inr (.inl (by omega))) (by omega))).mono ?_)
        rintro e w2 ⟨rfl, hR_, hE_, hg_⟩
        exact ⟨_, rfl, z, by exact many_put3 (HOK.out _) (by rw [HVL.out]; rfl) hL, by simp only [upd, y7, n10, n11, hL, Nat.reduceBEq, cond_true, cond_false]; exact ⟨hph.1.gete hR_ hg_ (mayE_8 (by omega)), hph.2.trans (Eff.of_grown hg_)⟩⟩
      · skip
        have y8 : L 8 = true := up_at hu 8 (by kernel_rfl)
        have n10 : L 10 = false := not_yet hL fun h => shut_at hs 10 9 (by kernel_rfl) (h)
        have n11 : L 11 = false := not_yet hL fun h => shut_at hs 11 9 (by kernel_rfl) (h)
        try simp only [y8, n10, n11, hL, cond_true, cond_false] at hph
        have e30 : (many gg_ L (VL z))[30]?.getD undef = .int .i64 0 := many_eval3 hgN (HOK.out z) (by rw [HVL.out]; rfl) y8
        refine opIn_run (v := .int .i64 (-2)) (w' := w') rfl rfl (fun c h => by cases h) (fun _ => trivial) ?_ ⟨z, by exact many_put3 (HOK.out _) (by rw [HVL.out]; rfl) hL, by simp only [upd, y8, n10, n11, hL, Nat.reduceBEq, cond_true, cond_false]; exact hph⟩
        go_simp
        first | done | rfl | decide
      · skip
        have y3 : L 3 = true := up_at hu 3 (by kernel_rfl)
        have y8 : L 8 = true := up_at hu 8 (by kernel_rfl)
        have y9 : L 9 = true := up_at hu 9 (by kernel_rfl)
        have n11 : L 11 = false := not_yet hL fun h => shut_at hs 11 10 (by kernel_rfl) (h)
        try simp only [y3, y8, y9, n11, hL, cond_true, cond_false] at hph
        have e25 : (many gg_ L (VL z))[25]?.getD undef = .pointer (some ⟨p, 0, none⟩) := many_eval3 hgN (HOK.out z) (by rw [HVL.out]; rfl) y3
        have e31 : (many gg_ L (VL z))[31]?.getD undef = .int .i64 (-2) := many_eval3 hgN (HOK.out z) (by rw [HVL.out]; rfl) y9
        refine opIn_call (f := 63) (args := #[.pointer (some ⟨p, 0, none⟩), .int .i64 (-2)]) (w' := w') rfl rfl (fun c h => by cases h) (fun _ => trivial) rfl (by go_simp) ((callsIn_wide.2 (take_e (-2) hph.1 (.inl (by decide)) (by decide))).mono ?_)
        rintro e w2 ⟨rfl, h1_, h2_⟩
        exact ⟨_, rfl, z, by exact many_put3 (HOK.out _) (by rw [HVL.out]; rfl) hL, by simp only [upd, y3, y8, y9, n11, hL, Nat.reduceBEq, cond_true, cond_false]; exact ⟨h1_, hph.2.trans h2_⟩⟩
      · skip
        have y0 : L 0 = true := up_at hu 0 (by kernel_rfl)
        have y1 : L 1 = true := up_at hu 1 (by kernel_rfl)
        have y2 : L 2 = true := up_at hu 2 (by kernel_rfl)
        have y3 : L 3 = true := up_at hu 3 (by kernel_rfl)
        have y4 : L 4 = true := up_at hu 4 (by kernel_rfl)
        have y5 : L 5 = true := up_at hu 5 (by kernel_rfl)
        have y6 : L 6 = true := up_at hu 6 (by kernel_rfl)
        have y7 : L 7 = true := up_at hu 7 (by kernel_rfl)
        have y8 : L 8 = true := up_at hu 8 (by kernel_rfl)
        have y9 : L 9 = true := up_at hu 9 (by kernel_rfl)
        have y10 : L 10 = true := up_at hu 10 (by kernel_rfl)
        try simp only [y0, y1, y2, y3, y4, y5, y6, y7, y8, y9, y10, hL, cond_true, cond_false] at hph
        have e32 : (many gg_ L (VL z))[32]?.getD undef = .slice none 0 0 := many_eval3 hgN (HOK.out z) (by rw [HVL.out]; rfl) y10
        refine opIn_run (v := .slice none 0 0) (w' := w') rfl rfl (fun c h => by cases h) (fun _ => trivial) ?_ ⟨z, by exact many_put3 (HOK.out _) (by rw [HVL.out]; rfl) hL, by simp only [upd, y0, y1, y2, y3, y4, y5, y6, y7, y8, y9, y10, hL, Nat.reduceBEq, cond_true, cond_false]; exact hph⟩
        go_simp
    case fin =>
      intro L z w' hall hph
      have l8 := hall 8 (by decide)
      have l10 := hall 10 (by decide)
      simp only [l8, l10, cond_true] at hph
      clear l8 l10
      rw [HVL.out]
      dsimp only [manyL, List.set_cons_zero, List.set_cons_succ]
      clear hall HVL HOK HVI
      obtain ⟨hps, hef⟩ := hph
      obtain ⟨w2, hw2⟩ : ∃ W_, W_ = w' := ⟨_, rfl⟩
      subst hw2
      obtain ⟨l9, hr9, hl9⟩ := hps.rd
      have ED := Lib.hid (end_any hr9 (by omega))
      have hee : endE l9.length 8 = 8 := by simp [endE]
      rw [hee] at ED
      have HE2 := Lib.hid hef
      have c0 := rb_cell hps.pb 0
      simp only [List.getElem?_toArray, List.getElem?_cons_succ, List.getElem?_cons_zero] at c0
      clear hps hef hr9 hee
      go_wp2_with fail
      refine ED.out.mono ?_
      rintro e_ wx ⟨rfl, nd, rfl⟩
      have HE3 : Hid (Eff [p] w (w2.drewN nd)) := Lib.hid (HE2.out.trans (Eff.of_below (below_drewN (Below.refl _ _) nd)))
      clear ED c0
      go_wp2
      go_ret
      first | exact ⟨rfl, HE3.out⟩ | exact HE3.out
  · go_enter Try.func34, Try.ntmps34
    go_wp2_with fail
    refine HA.out.mono ?_
    rintro e_ w1 ⟨rfl, rfl⟩
    go_upto_region 5 with fail
    obtain ⟨VL, hVL⟩ : ∃ VL : Unit → List (Nat × Nat × Value), VL = fun z => [(0, 22, .pointer (some ⟨P, 0, none⟩)), (1, 23, .pointer (some ⟨P, 0, none⟩)), (2, 24, .pointer (some ⟨P, 0, none⟩)), (3, 25, .pointer (some ⟨p, 0, none⟩)), (4, 26, .pointer (some ⟨P, 0, none⟩)), (5, 27, .pointer (some ⟨P, 0, none⟩)), (6, 28, .pointer (some ⟨P, 0, none⟩)), (7, 29, .pointer (some ⟨p, 0, none⟩)), (8, 30, .int .i64 0), (9, 31, .int .i64 (-2)), (10, 32, .slice none 0 0), (11, 5, .slice none 0 0)] := ⟨_, rfl⟩
    have hok : ∀ z, manyOk 52 (VL z) := fun z => by rw [hVL]; exact okB_ok rfl
    have HVL := Lib.hid hVL
    have hvi : ∀ z, ∀ x ∈ VL z, x.1 < 12 := fun z => by rw [hVL]; exact ltB_ok rfl
    have HOK := Lib.hid hok
    have HVI := Lib.hid hvi
    clear hVL hok hvi
    refine (wpIn_wide (n := 9)).1 (regionIn_many (N := 52) (w := _) VL (fun L z w' => (bif L 10 then (PSe w' P p m lo #[.pointer (some ⟨p, 0, none⟩), v1, v2, v3, v4, v5, v6, v7, v8, v9, v10, v11, v12, v13, v14, v15, v16, v17, v18, .map (some m)] es clock 8 ∧ Eff [p] w w') else (bif L 8 then (PSe w' P p m lo #[.pointer (some ⟨p, 0, none⟩), v1, v2, v3, v4, v5, v6, v7, v8, v9, v10, v11, v12, v13, v14, v15, v16, v17, v18, .map (some m)] es clock 8 ∧ Eff [p] w w') else PS w' P p m lo l #[.pointer (some ⟨p, 0, none⟩), v1, v2, v3, v4, v5, v6, v7, v8, v9, v10, v11, v12, v13, v14, v15, v16, v17, v18, .map (some m)] es clock ∧ Eff [p] w w'))) [(0, .pointer (some ⟨P, 0, none⟩))] (by kernel_rfl) (by kernel_rfl) rfl (by simp only [List.forall_mem_cons, List.not_mem_nil, false_imp_iff, implies_true, and_true]; exact rfl) HVI.out () ?start ?step ?fin)
    case start => exact ⟨HPS.out.drew, Eff.of_below (below_drewN (Below.refl _ _) 1)⟩
    case step =>
      intro gg_ hgN hgF ii_ hii_ L z w' hph hs hu
      have hF0 := hgF (0, .pointer (some ⟨P, 0, none⟩)) (by simp)
      have hL := hu.1
      have hii_ : ii_ < 12 := hii_
      clear hgF
      obtain rfl | rfl | rfl | rfl | rfl | rfl | rfl | rfl | rfl | rfl | rfl | rfl := (by omega : ii_ = 0 ∨ ii_ = 1 ∨ ii_ = 2 ∨ ii_ = 3 ∨ ii_ = 4 ∨ ii_ = 5 ∨ ii_ = 6 ∨ ii_ = 7 ∨ ii_ = 8 ∨ ii_ = 9 ∨ ii_ = 10 ∨ ii_ = 11)
      · skip
        have n10 : L 10 = false := not_yet hL fun h => shut_at hs 1 0 (by kernel_rfl) (shut_at hs 2 1 (by kernel_rfl) (shut_at hs 3 2 (by kernel_rfl) (shut_at hs 10 3 (by kernel_rfl) (h))))
        have n11 : L 11 = false := not_yet hL fun h => shut_at hs 11 0 (by kernel_rfl) (h)
        try simp only [n10, n11, hL, cond_true, cond_false] at hph
        have e0 : (many gg_ L (VL z))[0]?.getD undef = .pointer (some ⟨P, 0, none⟩) := many_out3 hgN (HOK.out z) (by rw [HVL.out]; rfl) hF0
        refine opIn_run (v := .pointer (some ⟨P, 0, none⟩)) (w' := w') rfl rfl (fun c h => by cases h) (fun _ => trivial) ?_ ⟨z, by exact many_put3 (HOK.out _) (by rw [HVL.out]; rfl) hL, by simp only [upd, n10, n11, hL, Nat.reduceBEq, cond_true, cond_false]; exact hph⟩
        go_simp
      · skip
        have y0 : L 0 = true := up_at hu 0 (by kernel_rfl)
        have n10 : L 10 = false := not_yet hL fun h => shut_at hs 2 1 (by kernel_rfl) (shut_at hs 3 2 (by kernel_rfl) (shut_at hs 10 3 (by kernel_rfl) (h)))
        have n11 : L 11 = false := not_yet hL fun h => shut_at hs 11 1 (by kernel_rfl) (h)
        try simp only [y0, n10, n11, hL, cond_true, cond_false] at hph
        have e22 : (many gg_ L (VL z))[22]?.getD undef = .pointer (some ⟨P, 0, none⟩) := many_eval3 hgN (HOK.out z) (by rw [HVL.out]; rfl) y0
        refine opIn_run (v := .pointer (some ⟨P, 0, none⟩)) (w' := w') rfl rfl (fun c h => by cases h) (fun _ => trivial) ?_ ⟨z, by exact many_put3 (HOK.out _) (by rw [HVL.out]; rfl) hL, by simp only [upd, y0, n10, n11, hL, Nat.reduceBEq, cond_true, cond_false]; exact hph⟩
        go_simp
      · skip
        have y1 : L 1 = true := up_at hu 1 (by kernel_rfl)
        have n10 : L 10 = false := not_yet hL fun h => shut_at hs 3 2 (by kernel_rfl) (shut_at hs 10 3 (by kernel_rfl) (h))
        have n11 : L 11 = false := not_yet hL fun h => shut_at hs 11 2 (by kernel_rfl) (h)
        try simp only [y1, n10, n11, hL, cond_true, cond_false] at hph
        have e23 : (many gg_ L (VL z))[23]?.getD undef = .pointer (some ⟨P, 0, none⟩) := many_eval3 hgN (HOK.out z) (by rw [HVL.out]; rfl) y1
        refine opIn_run (v := .pointer (some ⟨P, 0, none⟩)) (w' := w') rfl rfl (fun c h => by cases h) (fun _ => trivial) ?_ ⟨z, by exact many_put3 (HOK.out _) (by rw [HVL.out]; rfl) hL, by simp only [upd, y1, n10, n11, hL, Nat.reduceBEq, cond_true, cond_false]; exact hph⟩
        go_simp
      · skip
        have y2 : L 2 = true := up_at hu 2 (by kernel_rfl)
        have n10 : L 10 = false := not_yet hL fun h => shut_at hs 10 3 (by kernel_rfl) (h)
        have n11 : L 11 = false := not_yet hL fun h => shut_at hs 11 3 (by kernel_rfl) (h)
        try simp only [y2, n10, n11, hL, cond_true, cond_false] at hph
        have hcell : w'.cell? ⟨P, 0, none⟩ = some (.pointer (some ⟨p, 0, none⟩)) := by revert hph; cases L 8 <;> cases L 10 <;> (intro hph; exact rb_cell hph.1.pb 0)
        have e24 : (many gg_ L (VL z))[24]?.getD undef = .pointer (some ⟨P, 0, none⟩) := many_eval3 hgN (HOK.out z) (by rw [HVL.out]; rfl) y2
        refine opIn_run (v := .pointer (some ⟨p, 0, none⟩)) (w' := w') rfl rfl (fun c h => by cases h) (fun _ => trivial) ?_ ⟨z, by exact many_put3 (HOK.out _) (by rw [HVL.out]; rfl) hL, by simp only [upd, y2, n10, n11, hL, Nat.reduceBEq, cond_true, cond_false]; exact hph⟩
        go_simp
      · skip
        have n8 : L 8 = false := not_yet hL fun h => shut_at hs 5 4 (by kernel_rfl) (shut_at hs 6 5 (by kernel_rfl) (shut_at hs 7 6 (by kernel_rfl) (shut_at hs 8 7 (by kernel_rfl) (h))))
        have n10 : L 10 = false := not_yet hL fun h => shut_at hs 5 4 (by kernel_rfl) (shut_at hs 6 5 (by kernel_rfl) (shut_at hs 7 6 (by kernel_rfl) (shut_at hs 8 7 (by kernel_rfl) (shut_at hs 10 8 (by kernel_rfl) (h)))))
        have n11 : L 11 = false := not_yet hL fun h => shut_at hs 11 4 (by kernel_rfl) (h)
        try simp only [n8, n10, n11, hL, cond_true, cond_false] at hph
        have e0 : (many gg_ L (VL z))[0]?.getD undef = .pointer (some ⟨P, 0, none⟩) := many_out3 hgN (HOK.out z) (by rw [HVL.out]; rfl) hF0
        refine opIn_run (v := .pointer (some ⟨P, 0, none⟩)) (w' := w') rfl rfl (fun c h => by cases h) (fun _ => trivial) ?_ ⟨z, by exact many_put3 (HOK.out _) (by rw [HVL.out]; rfl) hL, by simp only [upd, n8, n10, n11, hL, Nat.reduceBEq, cond_true, cond_false]; exact hph⟩
        go_simp
      · skip
        have y4 : L 4 = true := up_at hu 4 (by kernel_rfl)
        have n8 : L 8 = false := not_yet hL fun h => shut_at hs 6 5 (by kernel_rfl) (shut_at hs 7 6 (by kernel_rfl) (shut_at hs 8 7 (by kernel_rfl) (h)))
        have n10 : L 10 = false := not_yet hL fun h => shut_at hs 6 5 (by kernel_rfl) (shut_at hs 7 6 (by kernel_rfl) (shut_at hs 8 7 (by kernel_rfl) (shut_at hs 10 8 (by kernel_rfl) (h))))
        have n11 : L 11 = false := not_yet hL fun h => shut_at hs 11 5 (by kernel_rfl) (h)
        try simp only [y4, n8, n10, n11, hL, cond_true, cond_false] at hph
        have e26 : (many gg_ L (VL z))[26]?.getD undef = .pointer (some ⟨P, 0, none⟩) := many_eval3 hgN (HOK.out z) (by rw [HVL.out]; rfl) y4
        refine opIn_run (v := .pointer (some ⟨P, 0, none⟩)) (w' := w') rfl rfl (fun c h => by cases h) (fun _ => trivial) ?_ ⟨z, by exact many_put3 (HOK.out _) (by rw [HVL.out]; rfl) hL, by simp only [upd, y4, n8, n10, n11, hL, Nat.reduceBEq, cond_true, cond_false]; exact hph⟩
        go_simp
      · skip
        have y5 : L 5 = true := up_at hu 5 (by kernel_rfl)
        have n8 : L 8 = false := not_yet hL fun h => shut_at hs 7 6 (by kernel_rfl) (shut_at hs 8 7 (by kernel_rfl) (h))
        have n10 : L 10 = false := not_yet hL fun h => shut_at hs 7 6 (by kernel_rfl) (shut_at hs 8 7 (by kernel_rfl) (shut_at hs 10 8 (by kernel_rfl) (h)))
        have n11 : L 11 = false := not_yet hL fun h => shut_at hs 11 6 (by kernel_rfl) (h)
        try simp only [y5, n8, n10, n11, hL, cond_true, cond_false] at hph
        have e27 : (many gg_ L (VL z))[27]?.getD undef = .pointer (some ⟨P, 0, none⟩) := many_eval3 hgN (HOK.out z) (by rw [HVL.out]; rfl) y5
        refine opIn_run (v := .pointer (some ⟨P, 0, none⟩)) (w' := w') rfl rfl (fun c h => by cases h) (fun _ => trivial) ?_ ⟨z, by exact many_put3 (HOK.out _) (by rw [HVL.out]; rfl) hL, by simp only [upd, y5, n8, n10, n11, hL, Nat.reduceBEq, cond_true, cond_false]; exact hph⟩
        go_simp
      · skip
        have y6 : L 6 = true := up_at hu 6 (by kernel_rfl)
        have n8 : L 8 = false := not_yet hL fun h => shut_at hs 8 7 (by kernel_rfl) (h)
        have n10 : L 10 = false := not_yet hL fun h => shut_at hs 8 7 (by kernel_rfl) (shut_at hs 10 8 (by kernel_rfl) (h))
        have n11 : L 11 = false := not_yet hL fun h => shut_at hs 11 7 (by kernel_rfl) (h)
        try simp only [y6, n8, n10, n11, hL, cond_true, cond_false] at hph
        have hcell : w'.cell? ⟨P, 0, none⟩ = some (.pointer (some ⟨p, 0, none⟩)) := by revert hph; cases L 8 <;> cases L 10 <;> (intro hph; exact rb_cell hph.1.pb 0)
        have e28 : (many gg_ L (VL z))[28]?.getD undef = .pointer (some ⟨P, 0, none⟩) := many_eval3 hgN (HOK.out z) (by rw [HVL.out]; rfl) y6
        refine opIn_run (v := .pointer (some ⟨p, 0, none⟩)) (w' := w') rfl rfl (fun c h => by cases h) (fun _ => trivial) ?_ ⟨z, by exact many_put3 (HOK.out _) (by rw [HVL.out]; rfl) hL, by simp only [upd, y6, n8, n10, n11, hL, Nat.reduceBEq, cond_true, cond_false]; exact hph⟩
        go_simp
      · skip
        have y7 : L 7 = true := up_at hu 7 (by kernel_rfl)
        have n10 : L 10 = false := not_yet hL fun h => shut_at hs 10 8 (by kernel_rfl) (h)
        have n11 : L 11 = false := not_yet hL fun h => shut_at hs 11 8 (by kernel_rfl) (h)
        try simp only [y7, n10, n11, hL, cond_true, cond_false] at hph
        have e29 : (many gg_ L (VL z))[29]?.getD undef = .pointer (some ⟨p, 0, none⟩) := many_eval3 hgN (HOK.out z) (by rw [HVL.out]; rfl) y7
        refine opIn_call (f := 33) (args := #[.pointer (some ⟨p, 0, none⟩), .int .i64 2]) (w' := w') rfl rfl (fun c h => by cases h) (fun _ => trivial) rfl (by go_simp) ((callsIn_wide.2 (get_no 2 hph.1.rd (.inr (.inl (by omega))) (by omega))).mono ?_)
        rintro e w2 ⟨rfl, hR_, hE_, hg_⟩
        exact ⟨_, rfl, z, by exact many_put3 (HOK.out _) (by rw [HVL.out]; rfl) hL, by simp only [upd, y7, n10, n11, hL, Nat.reduceBEq, cond_true, cond_false]; exact ⟨hph.1.gete hR_ hg_ (mayE_8 (by omega)), hph.2.trans (Eff.of_grown hg_)⟩⟩
      · skip
        have y8 : L 8 = true := up_at hu 8 (by kernel_rfl)
        have n10 : L 10 = false := not_yet hL fun h => shut_at hs 10 9 (by kernel_rfl) (h)
        have n11 : L 11 = false := not_yet hL fun h => shut_at hs 11 9 (by kernel_rfl) (h)
        try simp only [y8, n10, n11, hL, cond_true, cond_false] at hph
        have e30 : (many gg_ L (VL z))[30]?.getD undef = .int .i64 0 := many_eval3 hgN (HOK.out z) (by rw [HVL.out]; rfl) y8
        refine opIn_run (v := .int .i64 (-2)) (w' := w') rfl rfl (fun c h => by cases h) (fun _ => trivial) ?_ ⟨z, by exact many_put3 (HOK.out _) (by rw [HVL.out]; rfl) hL, by simp only [upd, y8, n10, n11, hL, Nat.reduceBEq, cond_true, cond_false]; exact hph⟩
        go_simp
        first | done | rfl | decide
      · skip
        have y3 : L 3 = true := up_at hu 3 (by kernel_rfl)
        have y8 : L 8 = true := up_at hu 8 (by kernel_rfl)
        have y9 : L 9 = true := up_at hu 9 (by kernel_rfl)
        have n11 : L 11 = false := not_yet hL fun h => shut_at hs 11 10 (by kernel_rfl) (h)
        try simp only [y3, y8, y9, n11, hL, cond_true, cond_false] at hph
        have e25 : (many gg_ L (VL z))[25]?.getD undef = .pointer (some ⟨p, 0, none⟩) := many_eval3 hgN (HOK.out z) (by rw [HVL.out]; rfl) y3
        have e31 : (many gg_ L (VL z))[31]?.getD undef = .int .i64 (-2) := many_eval3 hgN (HOK.out z) (by rw [HVL.out]; rfl) y9
        refine opIn_call (f := 63) (args := #[.pointer (some ⟨p, 0, none⟩), .int .i64 (-2)]) (w' := w') rfl rfl (fun c h => by cases h) (fun _ => trivial) rfl (by go_simp) ((callsIn_wide.2 (take_e (-2) hph.1 (.inl (by decide)) (by decide))).mono ?_)
        rintro e w2 ⟨rfl, h1_, h2_⟩
        exact ⟨_, rfl, z, by exact many_put3 (HOK.out _) (by rw [HVL.out]; rfl) hL, by simp only [upd, y3, y8, y9, n11, hL, Nat.reduceBEq, cond_true, cond_false]; exact ⟨h1_, hph.2.trans h2_⟩⟩
      · skip
        have y0 : L 0 = true := up_at hu 0 (by kernel_rfl)
        have y1 : L 1 = true := up_at hu 1 (by kernel_rfl)
        have y2 : L 2 = true := up_at hu 2 (by kernel_rfl)
        have y3 : L 3 = true := up_at hu 3 (by kernel_rfl)
        have y4 : L 4 = true := up_at hu 4 (by kernel_rfl)
        have y5 : L 5 = true := up_at hu 5 (by kernel_rfl)
        have y6 : L 6 = true := up_at hu 6 (by kernel_rfl)
        have y7 : L 7 = true := up_at hu 7 (by kernel_rfl)
        have y8 : L 8 = true := up_at hu 8 (by kernel_rfl)
        have y9 : L 9 = true := up_at hu 9 (by kernel_rfl)
        have y10 : L 10 = true := up_at hu 10 (by kernel_rfl)
        try simp only [y0, y1, y2, y3, y4, y5, y6, y7, y8, y9, y10, hL, cond_true, cond_false] at hph
        have e32 : (many gg_ L (VL z))[32]?.getD undef = .slice none 0 0 := many_eval3 hgN (HOK.out z) (by rw [HVL.out]; rfl) y10
        refine opIn_run (v := .slice none 0 0) (w' := w') rfl rfl (fun c h => by cases h) (fun _ => trivial) ?_ ⟨z, by exact many_put3 (HOK.out _) (by rw [HVL.out]; rfl) hL, by simp only [upd, y0, y1, y2, y3, y4, y5, y6, y7, y8, y9, y10, hL, Nat.reduceBEq, cond_true, cond_false]; exact hph⟩
        go_simp
    case fin =>
      intro L z w' hall hph
      have l8 := hall 8 (by decide)
      have l10 := hall 10 (by decide)
      simp only [l8, l10, cond_true] at hph
      clear l8 l10
      rw [HVL.out]
      dsimp only [manyL, List.set_cons_zero, List.set_cons_succ]
      clear hall HVL HOK HVI
      obtain ⟨hps, hef⟩ := hph
      obtain ⟨w2, hw2⟩ : ∃ W_, W_ = w' := ⟨_, rfl⟩
      subst hw2
      obtain ⟨l9, hr9, hl9⟩ := hps.rd
      have ED := Lib.hid (end_any hr9 (by omega))
      have hee : endE l9.length 8 = 8 := by simp [endE]
      rw [hee] at ED
      have HE2 := Lib.hid hef
      have c0 := rb_cell hps.pb 0
      simp only [List.getElem?_toArray, List.getElem?_cons_succ, List.getElem?_cons_zero] at c0
      clear hps hef hr9 hee
      go_wp2_with fail
      refine ED.out.mono ?_
      rintro e_ wx ⟨rfl, nd, rfl⟩
      have HE3 : Hid (Eff [p] w (w2.drewN nd)) := Lib.hid (HE2.out.trans (Eff.of_below (below_drewN (Below.refl _ _) nd)))
      clear ED c0
      go_wp2
      go_ret
      first | exact ⟨rfl, HE3.out⟩ | exact HE3.out
set_option maxHeartbeats 8000000 in
theorem seg_neg (P p m lo clock : Nat) (mk : Int) (a b k2 : Int) (l : List Int) (es : Array MapEntry) (v1 v2 v3 v4 v5 v6 v7 v8 v9 v10 v11 v12 v13 v14 v15 v16 v17 v18 : Value) (w : World) (H : PS w P p m lo (a :: b :: l) #[.pointer (some ⟨p, 0, none⟩), v1, v2, v3, v4, v5, v6, v7, v8, v9, v10, v11, v12, v13, v14, v15, v16, v17, v18, .map (some m)] es clock) (hO : Oct (a :: b :: l)) (hL : a * 256 + b - 2 = k2) (hk2 : k2 < 0) (hkb : -2 ≤ k2) (hln : l.length ≤ 1000000)
    (hmk : 65280 ≤ mk ∧ mk ≤ 65535) (hna : ¬ (65328 ≤ mk ∧ mk ≤ 65343)) (hA : Calls Try.prog 62 #[.pointer (some ⟨P, 0, none⟩), .int .i64 mk] w fun e w' => e = .returned (.bool true) ∧ w = w') :
    Calls Try.prog 34 #[.pointer (some ⟨P, 0, none⟩), .int .i64 mk] w fun e w' => e = .returned (.int .i64 10) ∧ Eff [p] w w' := by
  have HPS := Lib.hid H
  have HA := Lib.hid hA
  have HO := Lib.hid hO
  have HL := Lib.hid hL
  clear hO hL
  have hsh : mk / 256 = 255 := by omega
  have hna2 : mk < 65328 ∨ 65343 < mk := by omega
  clear H hA hna
  rcases hna2 with hlo | hhi
  · go_enter Try.func34, Try.ntmps34
    go_wp2_with fail
    refine HA.out.mono ?_
    rintro e_ w1 ⟨rfl, rfl⟩
    go_upto_region 5 with fail
    obtain ⟨VL, hVL⟩ : ∃ VL : Unit → List (Nat × Nat × Value), VL = fun z => [(0, 22, .pointer (some ⟨P, 0, none⟩)), (1, 23, .pointer (some ⟨P, 0, none⟩)), (2, 24, .pointer (some ⟨P, 0, none⟩)), (3, 25, .pointer (some ⟨p, 0, none⟩)), (4, 26, .pointer (some ⟨P, 0, none⟩)), (5, 27, .pointer (some ⟨P, 0, none⟩)), (6, 28, .pointer (some ⟨P, 0, none⟩)), (7, 29, .pointer (some ⟨p, 0, none⟩)), (8, 30, .int .i64 (a * 256 + b)), (9, 31, .int .i64 k2), (10, 32, .slice none 0 0), (11, 5, .slice none 0 0)] := ⟨_, rfl⟩
    have hok : ∀ z, manyOk 52 (VL z) := fun z => by rw [hVL]; exact okB_ok rfl
    have HVL := Lib.hid hVL
    have hvi : ∀ z, ∀ x ∈ VL z, x.1 < 12 := fun z => by rw [hVL]; exact ltB_ok rfl
    have HOK := Lib.hid hok
    have HVI := Lib.hid hvi
    clear hVL hok hvi
    refine (wpIn_wide (n := 9)).1 (regionIn_many (N := 52) (w := _) VL (fun L z w' => (bif L 10 then (PSe w' P p m lo #[.pointer (some ⟨p, 0, none⟩), v1, v2, v3, v4, v5, v6, v7, v8, v9, v10, v11, v12, v13, v14, v15, v16, v17, v18, .map (some m)] es clock 1 ∧ Eff [p] w w') else (bif L 8 then (PS w' P p m lo l #[.pointer (some ⟨p, 0, none⟩), v1, v2, v3, v4, v5, v6, v7, v8, v9, v10, v11, v12, v13, v14, v15, v16, v17, v18, .map (some m)] es clock ∧ Eff [p] w w') else PS w' P p m lo (a :: b :: l) #[.pointer (some ⟨p, 0, none⟩), v1, v2, v3, v4, v5, v6, v7, v8, v9, v10, v11, v12, v13, v14, v15, v16, v17, v18, .map (some m)] es clock ∧ Eff [p] w w'))) [(0, .pointer (some ⟨P, 0, none⟩))] (by kernel_rfl) (by kernel_rfl) rfl (by simp only [List.forall_mem_cons, List.not_mem_nil, false_imp_iff, implies_true, and_true]; exact rfl) HVI.out () ?start ?step ?fin)
    case start => exact ⟨HPS.out.drew, Eff.of_below (below_drewN (Below.refl _ _) 1)⟩
    case step =>
      intro gg_ hgN hgF ii_ hii_ L z w' hph hs hu
      have hF0 := hgF (0, .pointer (some ⟨P, 0, none⟩)) (by simp)
      have hL := hu.1
      have hii_ : ii_ < 12 := hii_
      clear hgF
      obtain rfl | rfl | rfl | rfl | rfl | rfl | rfl | rfl | rfl | rfl | rfl | rfl := (by omega : ii_ = 0 ∨ ii_ = 1 ∨ ii_ = 2 ∨ ii_ = 3 ∨ ii_ = 4 ∨ ii_ = 5 ∨ ii_ = 6 ∨ ii_ = 7 ∨ ii_ = 8 ∨ ii_ = 9 ∨ ii_ = 10 ∨ ii_ = 11)
      · skip
        have n10 : L 10 = false := not_yet hL fun h => shut_at hs 1 0 (by kernel_rfl) (shut_at hs 2 1 (by kernel_rfl) (shut_at hs 3 2 (by kernel_rfl) (shut_at hs 10 3 (by kernel_rfl) (h))))
        have n11 : L 11 = false := not_yet hL fun h => shut_at hs 11 0 (by kernel_rfl) (h)
        try simp only [n10, n11, hL, cond_true, cond_false] at hph
        have e0 : (many gg_ L (VL z))[0]?.getD undef = .pointer (some ⟨P, 0, none⟩) := many_out3 hgN (HOK.out z) (by rw [HVL.out]; rfl) hF0
        refine opIn_run (v := .pointer (some ⟨P, 0, none⟩)) (w' := w') rfl rfl (fun c h => by cases h) (fun _ => trivial) ?_ ⟨z, by exact many_put3 (HOK.out _) (by rw [HVL.out]; rfl) hL, by simp only [upd, n10, n11, hL, Nat.reduceBEq, cond_true, cond_false]; exact hph⟩
        go_simp
      · skip
        have y0 : L 0 = true := up_at hu 0 (by kernel_rfl)
        have n10 : L 10 = false := not_yet hL fun h => shut_at hs 2 1 (by kernel_rfl) (shut_at hs 3 2 (by kernel_rfl) (shut_at hs 10 3 (by kernel_rfl) (h)))
        have n11 : L 11 = false := not_yet hL fun h => shut_at hs 11 1 (by kernel_rfl) (h)
        try simp only [y0, n10, n11, hL, cond_true, cond_false] at hph
        have e22 : (many gg_ L (VL z))[22]?.getD undef = .pointer (some ⟨P, 0, none⟩) := many_eval3 hgN (HOK.out z) (by rw [HVL.out]; rfl) y0
        refine opIn_run (v := .pointer (some ⟨P, 0, none⟩)) (w' := w') rfl rfl (fun c h => by cases h) (fun _ => trivial) ?_ ⟨z, by exact many_put3 (HOK.out _) (by rw [HVL.out]; rfl) hL, by simp only [upd, y0, n10, n11, hL, Nat.reduceBEq, cond_true, cond_false]; exact hph⟩
        go_simp
      · skip
        have y1 : L 1 = true := up_at hu 1 (by kernel_rfl)
        have n10 : L 10 = false := not_yet hL fun h => shut_at hs 3 2 (by kernel_rfl) (shut_at hs 10 3 (by kernel_rfl) (h))
        have n11 : L 11 = false := not_yet hL fun h => shut_at hs 11 2 (by kernel_rfl) (h)
        try simp only [y1, n10, n11, hL, cond_true, cond_false] at hph
        have e23 : (many gg_ L (VL z))[23]?.getD undef = .pointer (some ⟨P, 0, none⟩) := many_eval3 hgN (HOK.out z) (by rw [HVL.out]; rfl) y1
        refine opIn_run (v := .pointer (some ⟨P, 0, none⟩)) (w' := w') rfl rfl (fun c h => by cases h) (fun _ => trivial) ?_ ⟨z, by exact many_put3 (HOK.out _) (by rw [HVL.out]; rfl) hL, by simp only [upd, y1, n10, n11, hL, Nat.reduceBEq, cond_true, cond_false]; exact hph⟩
        go_simp
      · skip
        have y2 : L 2 = true := up_at hu 2 (by kernel_rfl)
        have n10 : L 10 = false := not_yet hL fun h => shut_at hs 10 3 (by kernel_rfl) (h)
        have n11 : L 11 = false := not_yet hL fun h => shut_at hs 11 3 (by kernel_rfl) (h)
        try simp only [y2, n10, n11, hL, cond_true, cond_false] at hph
        have hcell : w'.cell? ⟨P, 0, none⟩ = some (.pointer (some ⟨p, 0, none⟩)) := by revert hph; cases L 8 <;> cases L 10 <;> (intro hph; exact rb_cell hph.1.pb 0)
        have e24 : (many gg_ L (VL z))[24]?.getD undef = .pointer (some ⟨P, 0, none⟩) := many_eval3 hgN (HOK.out z) (by rw [HVL.out]; rfl) y2
        refine opIn_run (v := .pointer (some ⟨p, 0, none⟩)) (w' := w') rfl rfl (fun c h => by cases h) (fun _ => trivial) ?_ ⟨z, by exact many_put3 (HOK.out _) (by rw [HVL.out]; rfl) hL, by simp only [upd, y2, n10, n11, hL, Nat.reduceBEq, cond_true, cond_false]; exact hph⟩
        go_simp
      · skip
        have n8 : L 8 = false := not_yet hL fun h => shut_at hs 5 4 (by kernel_rfl) (shut_at hs 6 5 (by kernel_rfl) (shut_at hs 7 6 (by kernel_rfl) (shut_at hs 8 7 (by kernel_rfl) (h))))
        have n10 : L 10 = false := not_yet hL fun h => shut_at hs 5 4 (by kernel_rfl) (shut_at hs 6 5 (by kernel_rfl) (shut_at hs 7 6 (by kernel_rfl) (shut_at hs 8 7 (by kernel_rfl) (shut_at hs 10 8 (by kernel_rfl) (h)))))
        have n11 : L 11 = false := not_yet hL fun h => shut_at hs 11 4 (by kernel_rfl) (h)
        try simp only [n8, n10, n11, hL, cond_true, cond_false] at hph
        have e0 : (many gg_ L (VL z))[0]?.getD undef = .pointer (some ⟨P, 0, none⟩) := many_out3 hgN (HOK.out z) (by rw [HVL.out]; rfl) hF0
        refine opIn_run (v := .pointer (some ⟨P, 0, none⟩)) (w' := w') rfl rfl (fun c h => by cases h) (fun _ => trivial) ?_ ⟨z, by exact many_put3 (HOK.out _) (by rw [HVL.out]; rfl) hL, by simp only [upd, n8, n10, n11, hL, Nat.reduceBEq, cond_true, cond_false]; exact hph⟩
        go_simp
      · skip
        have y4 : L 4 = true := up_at hu 4 (by kernel_rfl)
        have n8 : L 8 = false := not_yet hL fun h => shut_at hs 6 5 (by kernel_rfl) (shut_at hs 7 6 (by kernel_rfl) (shut_at hs 8 7 (by kernel_rfl) (h)))
        have n10 : L 10 = false := not_yet hL fun h => shut_at hs 6 5 (by kernel_rfl) (shut_at hs 7 6 (by kernel_rfl) (shut_at hs 8 7 (by kernel_rfl) (shut_at hs 10 8 (by kernel_rfl) (h))))
        have n11 : L 11 = false := not_yet hL fun h => shut_at hs 11 5 (by kernel_rfl) (h)
        try simp only [y4, n8, n10, n11, hL, cond_true, cond_false] at hph
        have e26 : (many gg_ L (VL z))[26]?.getD undef = .pointer (some ⟨P, 0, none⟩) := many_eval3 hgN (HOK.out z) (by rw [HVL.out]; rfl) y4
        refine opIn_run (v := .pointer (some ⟨P, 0, none⟩)) (w' := w') rfl rfl (fun c h => by cases h) (fun _ => trivial) ?_ ⟨z, by exact many_put3 (HOK.out _) (by rw [HVL.out]; rfl) hL, by simp only [upd, y4, n8, n10, n11, hL, Nat.reduceBEq, cond_true, cond_false]; exact hph⟩
        go_simp
      · skip
        have y5 : L 5 = true := up_at hu 5 (by kernel_rfl)
        have n8 : L 8 = false := not_yet hL fun h => shut_at hs 7 6 (by kernel_rfl) (shut_at hs 8 7 (by kernel_rfl) (h))
        have n10 : L 10 = false := not_yet hL fun h => shut_at hs 7 6 (by kernel_rfl) (shut_at hs 8 7 (by kernel_rfl) (shut_at hs 10 8 (by kernel_rfl) (h)))
        have n11 : L 11 = false := not_yet hL fun h => shut_at hs 11 6 (by kernel_rfl) (h)
        try simp only [y5, n8, n10, n11, hL, cond_true, cond_false] at hph
        have e27 : (many gg_ L (VL z))[27]?.getD undef = .pointer (some ⟨P, 0, none⟩) := many_eval3 hgN (HOK.out z) (by rw [HVL.out]; rfl) y5
        refine opIn_run (v := .pointer (some ⟨P, 0, none⟩)) (w' := w') rfl rfl (fun c h => by cases h) (fun _ => trivial) ?_ ⟨z, by exact many_put3 (HOK.out _) (by rw [HVL.out]; rfl) hL, by simp only [upd, y5, n8, n10, n11, hL, Nat.reduceBEq, cond_true, cond_false]; exact hph⟩
        go_simp
      · skip
        have y6 : L 6 = true := up_at hu 6 (by kernel_rfl)
        have n8 : L 8 = false := not_yet hL fun h => shut_at hs 8 7 (by kernel_rfl) (h)
        have n10 : L 10 = false := not_yet hL fun h => shut_at hs 8 7 (by kernel_rfl) (shut_at hs 10 8 (by kernel_rfl) (h))
        have n11 : L 11 = false := not_yet hL fun h => shut_at hs 11 7 (by kernel_rfl) (h)
        try simp only [y6, n8, n10, n11, hL, cond_true, cond_false] at hph
        have hcell : w'.cell? ⟨P, 0, none⟩ = some (.pointer (some ⟨p, 0, none⟩)) := by revert hph; cases L 8 <;> cases L 10 <;> (intro hph; exact rb_cell hph.1.pb 0)
        have e28 : (many gg_ L (VL z))[28]?.getD undef = .pointer (some ⟨P, 0, none⟩) := many_eval3 hgN (HOK.out z) (by rw [HVL.out]; rfl) y6
        refine opIn_run (v := .pointer (some ⟨p, 0, none⟩)) (w' := w') rfl rfl (fun c h => by cases h) (fun _ => trivial) ?_ ⟨z, by exact many_put3 (HOK.out _) (by rw [HVL.out]; rfl) hL, by simp only [upd, y6, n8, n10, n11, hL, Nat.reduceBEq, cond_true, cond_false]; exact hph⟩
        go_simp
      · skip
        have y7 : L 7 = true := up_at hu 7 (by kernel_rfl)
        have n10 : L 10 = false := not_yet hL fun h => shut_at hs 10 8 (by kernel_rfl) (h)
        have n11 : L 11 = false := not_yet hL fun h => shut_at hs 11 8 (by kernel_rfl) (h)
        try simp only [y7, n10, n11, hL, cond_true, cond_false] at hph
        have e29 : (many gg_ L (VL z))[29]?.getD undef = .pointer (some ⟨p, 0, none⟩) := many_eval3 hgN (HOK.out z) (by rw [HVL.out]; rfl) y7
        refine opIn_call (f := 33) (args := #[.pointer (some ⟨p, 0, none⟩), .int .i64 2]) (w' := w') rfl rfl (fun c h => by cases h) (fun _ => trivial) rfl (by go_simp) ((callsIn_wide.2 (get2 hph.1.rd HO.out hln)).mono ?_)
        rintro e w2 ⟨rfl, hR_, hg_⟩
        exact ⟨_, rfl, z, by exact many_put3 (HOK.out _) (by rw [HVL.out]; rfl) hL, by simp only [upd, y7, n10, n11, hL, Nat.reduceBEq, cond_true, cond_false]; exact ⟨hph.1.get hR_ hg_, hph.2.trans (Eff.of_grown hg_)⟩⟩
      · skip
        have y8 : L 8 = true := up_at hu 8 (by kernel_rfl)
        have n10 : L 10 = false := not_yet hL fun h => shut_at hs 10 9 (by kernel_rfl) (h)
        have n11 : L 11 = false := not_yet hL fun h => shut_at hs 11 9 (by kernel_rfl) (h)
        try simp only [y8, n10, n11, hL, cond_true, cond_false] at hph
        have e30 : (many gg_ L (VL z))[30]?.getD undef = .int .i64 (a * 256 + b) := many_eval3 hgN (HOK.out z) (by rw [HVL.out]; rfl) y8
        refine opIn_run (v := .int .i64 k2) (w' := w') rfl rfl (fun c h => by cases h) (fun _ => trivial) ?_ ⟨z, by exact many_put3 (HOK.out _) (by rw [HVL.out]; rfl) hL, by simp only [upd, y8, n10, n11, hL, Nat.reduceBEq, cond_true, cond_false]; exact hph⟩
        have hL_ := HL.out
        have hb9 : -9223372036854775808 ≤ k2 ∧ k2 ≤ 9223372036854775807 := by omega
        go_simp
        first | done | exact IntWalk.i64_in _ hb9 | (rw [hL_]; exact IntWalk.i64_in _ hb9)
      · skip
        have y3 : L 3 = true := up_at hu 3 (by kernel_rfl)
        have y8 : L 8 = true := up_at hu 8 (by kernel_rfl)
        have y9 : L 9 = true := up_at hu 9 (by kernel_rfl)
        have n11 : L 11 = false := not_yet hL fun h => shut_at hs 11 10 (by kernel_rfl) (h)
        try simp only [y3, y8, y9, n11, hL, cond_true, cond_false] at hph
        have e25 : (many gg_ L (VL z))[25]?.getD undef = .pointer (some ⟨p, 0, none⟩) := many_eval3 hgN (HOK.out z) (by rw [HVL.out]; rfl) y3
        have e31 : (many gg_ L (VL z))[31]?.getD undef = .int .i64 k2 := many_eval3 hgN (HOK.out z) (by rw [HVL.out]; rfl) y9
        refine opIn_call (f := 63) (args := #[.pointer (some ⟨p, 0, none⟩), .int .i64 k2]) (w' := w') rfl rfl (fun c h => by cases h) (fun _ => trivial) rfl (by go_simp) ((callsIn_wide.2 (take_neg k2 hph.1 hk2 hln)).mono ?_)
        rintro e w2 ⟨rfl, h1_, h2_⟩
        exact ⟨_, rfl, z, by exact many_put3 (HOK.out _) (by rw [HVL.out]; rfl) hL, by simp only [upd, y3, y8, y9, n11, hL, Nat.reduceBEq, cond_true, cond_false]; exact ⟨h1_, hph.2.trans h2_⟩⟩
      · skip
        have y0 : L 0 = true := up_at hu 0 (by kernel_rfl)
        have y1 : L 1 = true := up_at hu 1 (by kernel_rfl)
        have y2 : L 2 = true := up_at hu 2 (by kernel_rfl)
        have y3 : L 3 = true := up_at hu 3 (by kernel_rfl)
        have y4 : L 4 = true := up_at hu 4 (by kernel_rfl)
        have y5 : L 5 = true := up_at hu 5 (by kernel_rfl)
        have y6 : L 6 = true := up_at hu 6 (by kernel_rfl)
        have y7 : L 7 = true := up_at hu 7 (by kernel_rfl)
        have y8 : L 8 = true := up_at hu 8 (by kernel_rfl)
        have y9 : L 9 = true := up_at hu 9 (by kernel_rfl)
        have y10 : L 10 = true := up_at hu 10 (by kernel_rfl)
        try simp only [y0, y1, y2, y3, y4, y5, y6, y7, y8, y9, y10, hL, cond_true, cond_false] at hph
        have e32 : (many gg_ L (VL z))[32]?.getD undef = .slice none 0 0 := many_eval3 hgN (HOK.out z) (by rw [HVL.out]; rfl) y10
        refine opIn_run (v := .slice none 0 0) (w' := w') rfl rfl (fun c h => by cases h) (fun _ => trivial) ?_ ⟨z, by exact many_put3 (HOK.out _) (by rw [HVL.out]; rfl) hL, by simp only [upd, y0, y1, y2, y3, y4, y5, y6, y7, y8, y9, y10, hL, Nat.reduceBEq, cond_true, cond_false]; exact hph⟩
        go_simp
    case fin =>
      intro L z w' hall hph
      have l8 := hall 8 (by decide)
      have l10 := hall 10 (by decide)
      simp only [l8, l10, cond_true] at hph
      clear l8 l10
      rw [HVL.out]
      dsimp only [manyL, List.set_cons_zero, List.set_cons_succ]
      clear hall HVL HOK HVI
      obtain ⟨hps, hef⟩ := hph
      obtain ⟨w2, hw2⟩ : ∃ W_, W_ = w' := ⟨_, rfl⟩
      subst hw2
      obtain ⟨l9, hr9, hl9⟩ := hps.rd
      have ED := Lib.hid (end_any hr9 (by omega))
      have hee : endE l9.length 1 = 1 := by simp [endE]
      rw [hee] at ED
      have HE2 := Lib.hid hef
      have c0 := rb_cell hps.pb 0
      simp only [List.getElem?_toArray, List.getElem?_cons_succ, List.getElem?_cons_zero] at c0
      clear hps hef hr9 hee
      go_wp2_with fail
      refine ED.out.mono ?_
      rintro e_ wx ⟨rfl, nd, rfl⟩
      have HE3 : Hid (Eff [p] w (w2.drewN nd)) := Lib.hid (HE2.out.trans (Eff.of_below (below_drewN (Below.refl _ _) nd)))
      clear ED c0
      go_wp2
      go_ret
      first | exact ⟨rfl, HE3.out⟩ | exact HE3.out
  · go_enter Try.func34, Try.ntmps34
    go_wp2_with fail
    refine HA.out.mono ?_
    rintro e_ w1 ⟨rfl, rfl⟩
    go_upto_region 5 with fail
    obtain ⟨VL, hVL⟩ : ∃ VL : Unit → List (Nat × Nat × Value), VL = fun z => [(0, 22, .pointer (some ⟨P, 0, none⟩)), (1, 23, .pointer (some ⟨P, 0, none⟩)), (2, 24, .pointer (some ⟨P, 0, none⟩)), (3, 25, .pointer (some ⟨p, 0, none⟩)), (4, 26, .pointer (some ⟨P, 0, none⟩)), (5, 27, .pointer (some ⟨P, 0, none⟩)), (6, 28, .pointer (some ⟨P, 0, none⟩)), (7, 29, .pointer (some ⟨p, 0, none⟩)), (8, 30, .int .i64 (a * 256 + b)), (9, 31, .int .i64 k2), (10, 32, .slice none 0 0), (11, 5, .slice none 0 0)] := ⟨_, rfl⟩
    have hok : ∀ z, manyOk 52 (VL z) := fun z => by rw [hVL]; exact okB_ok rfl
    have HVL := Lib.hid hVL
    have hvi : ∀ z, ∀ x ∈ VL z, x.1 < 12 := fun z => by rw [hVL]; exact ltB_ok rfl
    have HOK := Lib.hid hok
    have HVI := Lib.hid hvi
    clear hVL hok hvi
    refine (wpIn_wide (n := 9)).1 (regionIn_many (N := 52) (w := _) VL (fun L z w' => (bif L 10 then (PSe w' P p m lo #[.pointer (some ⟨p, 0, none⟩), v1, v2, v3, v4, v5, v6, v7, v8, v9, v10, v11, v12, v13, v14, v15, v16, v17, v18, .map (some m)] es clock 1 ∧ Eff [p] w w') else (bif L 8 then (PS w' P p m lo l #[.pointer (some ⟨p, 0, none⟩), v1, v2, v3, v4, v5, v6, v7, v8, v9, v10, v11, v12, v13, v14, v15, v16, v17, v18, .map (some m)] es clock ∧ Eff [p] w w') else PS w' P p m lo (a :: b :: l) #[.pointer (some ⟨p, 0, none⟩), v1, v2, v3, v4, v5, v6, v7, v8, v9, v10, v11, v12, v13, v14, v15, v16, v17, v18, .map (some m)] es clock ∧ Eff [p] w w'))) [(0, .pointer (some ⟨P, 0, none⟩))] (by kernel_rfl) (by kernel_rfl) rfl (by simp only [List.forall_mem_cons, List.not_mem_nil, false_imp_iff, implies_true, and_true]; exact rfl) HVI.out () ?start ?step ?fin)
    case start => exact ⟨HPS.out.drew, Eff.of_below (below_drewN (Below.refl _ _) 1)⟩
    case step =>
      intro gg_ hgN hgF ii_ hii_ L z w' hph hs hu
      have hF0 := hgF (0, .pointer (some ⟨P, 0, none⟩)) (by simp)
      have hL := hu.1
      have hii_ : ii_ < 12 := hii_
      clear hgF
      obtain rfl | rfl | rfl | rfl | rfl | rfl | rfl | rfl | rfl | rfl | rfl | rfl := (by omega : ii_ = 0 ∨ ii_ = 1 ∨ ii_ = 2 ∨ ii_ = 3 ∨ ii_ = 4 ∨ ii_ = 5 ∨ ii_ = 6 ∨ ii_ = 7 ∨ ii_ = 8 ∨ ii_ = 9 ∨ ii_ = 10 ∨ ii_ = 11)
      · skip
        have n10 : L 10 = false := not_yet hL fun h => shut_at hs 1 0 (by kernel_rfl) (shut_at hs 2 1 (by kernel_rfl) (shut_at hs 3 2 (by kernel_rfl) (shut_at hs 10 3 (by kernel_rfl) (h))))
        have n11 : L 11 = false := not_yet hL fun h => shut_at hs 11 0 (by kernel_rfl) (h)
        try simp only [n10, n11, hL, cond_true, cond_false] at hph
        have e0 : (many gg_ L (VL z))[0]?.getD undef = .pointer (some ⟨P, 0, none⟩) := many_out3 hgN (HOK.out z) (by rw [HVL.out]; rfl) hF0
        refine opIn_run (v := .pointer (some ⟨P, 0, none⟩)) (w' := w') rfl rfl (fun c h => by cases h) (fun _ => trivial) ?_ ⟨z, by exact many_put3 (HOK.out _) (by rw [HVL.out]; rfl) hL, by simp only [upd, n10, n11, hL, Nat.reduceBEq, cond_true, cond_false]; exact hph⟩
        go_simp
      · skip
        have y0 : L 0 = true := up_at hu 0 (by kernel_rfl)
        have n10 : L 10 = false := not_yet hL fun h => shut_at hs 2 1 (by kernel_rfl) (shut_at hs 3 2 (by kernel_rfl) (shut_at hs 10 3 (by kernel_rfl) (h)))
        have n11 : L 11 = false := not_yet hL fun h => shut_at hs 11 1 (by kernel_rfl) (h)
        try simp only [y0, n10, n11, hL, cond_true, cond_false] at hph
        have e22 : (many gg_ L (VL z))[22]?.getD undef = .pointer (some ⟨P, 0, none⟩) := many_eval3 hgN (HOK.out z) (by rw [HVL.out]; rfl) y0
        refine opIn_run (v := .pointer (some ⟨P, 0, none⟩)) (w' := w') rfl rfl (fun c h => by cases h) (fun _ => trivial) ?_ ⟨z, by exact many_put3 (HOK.out _) (by rw [HVL.out]; rfl) hL, by simp only [upd, y0, n10, n11, hL, Nat.reduceBEq, cond_true, cond_false]; exact hph⟩
        go_simp
      · skip
        have y1 : L 1 = true := up_at hu 1 (by kernel_rfl)
        have n10 : L 10 = false := not_yet hL fun h => shut_at hs 3 2 (by kernel_rfl) (shut_at hs 10 3 (by kernel_rfl) (h))
        have n11 : L 11 = false := not_yet hL fun h => shut_at hs 11 2 (by kernel_rfl) (h)
        try simp only [y1, n10, n11, hL, cond_true, cond_false] at hph
        have e23 : (many gg_ L (VL z))[23]?.getD undef = .pointer (some ⟨P, 0, none⟩) := many_eval3 hgN (HOK.out z) (by rw [HVL.out]; rfl) y1
        refine opIn_run (v := .pointer (some ⟨P, 0, none⟩)) (w' := w') rfl rfl (fun c h => by cases h) (fun _ => trivial) ?_ ⟨z, by exact many_put3 (HOK.out _) (by rw [HVL.out]; rfl) hL, by simp only [upd, y1, n10, n11, hL, Nat.reduceBEq, cond_true, cond_false]; exact hph⟩
        go_simp
      · skip
        have y2 : L 2 = true := up_at hu 2 (by kernel_rfl)
        have n10 : L 10 = false := not_yet hL fun h => shut_at hs 10 3 (by kernel_rfl) (h)
        have n11 : L 11 = false := not_yet hL fun h => shut_at hs 11 3 (by kernel_rfl) (h)
        try simp only [y2, n10, n11, hL, cond_true, cond_false] at hph
        have hcell : w'.cell? ⟨P, 0, none⟩ = some (.pointer (some ⟨p, 0, none⟩)) := by revert hph; cases L 8 <;> cases L 10 <;> (intro hph; exact rb_cell hph.1.pb 0)
        have e24 : (many gg_ L (VL z))[24]?.getD undef = .pointer (some ⟨P, 0, none⟩) := many_eval3 hgN (HOK.out z) (by rw [HVL.out]; rfl) y2
        refine opIn_run (v := .pointer (some ⟨p, 0, none⟩)) (w' := w') rfl rfl (fun c h => by cases h) (fun _ => trivial) ?_ ⟨z, by exact many_put3 (HOK.out _) (by rw [HVL.out]; rfl) hL, by simp only [upd, y2, n10, n11, hL, Nat.reduceBEq, cond_true, cond_false]; exact hph⟩
        go_simp
      · skip
        have n8 : L 8 = false := not_yet hL fun h => shut_at hs 5 4 (by kernel_rfl) (shut_at hs 6 5 (by kernel_rfl) (shut_at hs 7 6 (by kernel_rfl) (shut_at hs 8 7 (by kernel_rfl) (h))))
        have n10 : L 10 = false := not_yet hL fun h => shut_at hs 5 4 (by kernel_rfl) (shut_at hs 6 5 (by kernel_rfl) (shut_at hs 7 6 (by kernel_rfl) (shut_at hs 8 7 (by kernel_rfl) (shut_at hs 10 8 (by kernel_rfl) (h)))))
        have n11 : L 11 = false := not_yet hL fun h => shut_at hs 11 4 (by kernel_rfl) (h)
        try simp only [n8, n10, n11, hL, cond_true, cond_false] at hph
        have e0 : (many gg_ L (VL z))[0]?.getD undef = .pointer (some ⟨P, 0, none⟩) := many_out3 hgN (HOK.out z) (by rw [HVL.out]; rfl) hF0
        refine opIn_run (v := .pointer (some ⟨P, 0, none⟩)) (w' := w') rfl rfl (fun c h => by cases h) (fun _ => trivial) ?_ ⟨z, by exact many_put3 (HOK.out _) (by rw [HVL.out]; rfl) hL, by simp only [upd, n8, n10, n11, hL, Nat.reduceBEq, cond_true, cond_false]; exact hph⟩
        go_simp
      · skip
        have y4 : L 4 = true := up_at hu 4 (by kernel_rfl)
        have n8 : L 8 = false := not_yet hL fun h => shut_at hs 6 5 (by kernel_rfl) (shut_at hs 7 6 (by kernel_rfl) (shut_at hs 8 7 (by kernel_rfl) (h)))
        have n10 : L 10 = false := not_yet hL fun h => shut_at hs 6 5 (by kernel_rfl) (shut_at hs 7 6 (by kernel_rfl) (shut_at hs 8 7 (by kernel_rfl) (shut_at hs 10 8 (by kernel_rfl) (h))))
        have n11 : L 11 = false := not_yet hL fun h => shut_at hs 11 5 (by kernel_rfl) (h)
        try simp only [y4, n8, n10, n11, hL, cond_true, cond_false] at hph
        have e26 : (many gg_ L (VL z))[26]?.getD undef = .pointer (some ⟨P, 0, none⟩) := many_eval3 hgN (HOK.out z) (by rw [HVL.out]; rfl) y4
        refine opIn_run (v := .pointer (some ⟨P, 0, none⟩)) (w' := w') rfl rfl (fun c h => by cases h) (fun _ => trivial) ?_ ⟨z, by exact many_put3 (HOK.out _) (by rw [HVL.out]; rfl) hL, by simp only [upd, y4, n8, n10, n11, hL, Nat.reduceBEq, cond_true, cond_false]; exact hph⟩
        go_simp
      · skip
        have y5 : L 5 = true := up_at hu 5 (by kernel_rfl)
        have n8 : L 8 = false := not_yet hL fun h => shut_at hs 7 6 (by kernel_rfl) (shut_at hs 8 7 (by kernel_rfl) (h))
        have n10 : L 10 = false := not_yet hL fun h => shut_at hs 7 6 (by kernel_rfl) (shut_at hs 8 7 (by kernel_rfl) (shut_at hs 10 8 (by kernel_rfl) (h)))
        have n11 : L 11 = false := not_yet hL fun h => shut_at hs 11 6 (by kernel_rfl) (h)
        try simp only [y5, n8, n10, n11, hL, cond_true, cond_false] at hph
        have e27 : (many gg_ L (VL z))[27]?.getD undef = .pointer (some ⟨P, 0, none⟩) := many_eval3 hgN (HOK.out z) (by rw [HVL.out]; rfl) y5
        refine opIn_run (v := .pointer (some ⟨P, 0, none⟩)) (w' := w') rfl rfl (fun c h => by cases h) (fun _ => trivial) ?_ ⟨z, by exact many_put3 (HOK.out _) (by rw [HVL.out]; rfl) hL, by simp only [upd, y5, n8, n10, n11, hL, Nat.reduceBEq, cond_true, cond_false]; exact hph⟩
        go_simp
      · skip
        have y6 : L 6 = true := up_at hu 6 (by kernel_rfl)
        have n8 : L 8 = false := not_yet hL fun h => shut_at hs 8 7 (by kernel_rfl) (h)
        have n10 : L 10 = false := not_yet hL fun h => shut_at hs 8 7 (by kernel_rfl) (shut_at hs 10 8 (by kernel_rfl) (h))
        have n11 : L 11 = false := not_yet hL fun h => shut_at hs 11 7 (by kernel_rfl) (h)
        try simp only [y6, n8, n10, n11, hL, cond_true, cond_false] at hph
        have hcell : w'.cell? ⟨P, 0, none⟩ = some (.pointer (some ⟨p, 0, none⟩)) := by revert hph; cases L 8 <;> cases L 10 <;> (intro hph; exact rb_cell hph.1.pb 0)
        have e28 : (many gg_ L (VL z))[28]?.getD undef = .pointer (some ⟨P, 0, none⟩) := many_eval3 hgN (HOK.out z) (by rw [HVL.out]; rfl) y6
        refine opIn_run (v := .pointer (some ⟨p, 0, none⟩)) (w' := w') rfl rfl (fun c h => by cases h) (fun _ => trivial) ?_ ⟨z, by exact many_put3 (HOK.out _) (by rw [HVL.out]; rfl) hL, by simp only [upd, y6, n8, n10, n11, hL, Nat.reduceBEq, cond_true, cond_false]; exact hph⟩
        go_simp
      · skip
        have y7 : L 7 = true := up_at hu 7 (by kernel_rfl)
        have n10 : L 10 = false := not_yet hL fun h => shut_at hs 10 8 (by kernel_rfl) (h)
        have n11 : L 11 = false := not_yet hL fun h => shut_at hs 11 8 (by kernel_rfl) (h)
        try simp only [y7, n10, n11, hL, cond_true, cond_false] at hph
        have e29 : (many gg_ L (VL z))[29]?.getD undef = .pointer (some ⟨p, 0, none⟩) := many_eval3 hgN (HOK.out z) (by rw [HVL.out]; rfl) y7
        refine opIn_call (f := 33) (args := #[.pointer (some ⟨p, 0, none⟩), .int .i64 2]) (w' := w') rfl rfl (fun c h => by cases h) (fun _ => trivial) rfl (by go_simp) ((callsIn_wide.2 (get2 hph.1.rd HO.out hln)).mono ?_)
        rintro e w2 ⟨rfl, hR_, hg_⟩
        exact ⟨_, rfl, z, by exact many_put3 (HOK.out _) (by rw [HVL.out]; rfl) hL, by simp only [upd, y7, n10, n11, hL, Nat.reduceBEq, cond_true, cond_false]; exact ⟨hph.1.get hR_ hg_, hph.2.trans (Eff.of_grown hg_)⟩⟩
      · skip
        have y8 : L 8 = true := up_at hu 8 (by kernel_rfl)
        have n10 : L 10 = false := not_yet hL fun h => shut_at hs 10 9 (by kernel_rfl) (h)
        have n11 : L 11 = false := not_yet hL fun h => shut_at hs 11 9 (by kernel_rfl) (h)
        try simp only [y8, n10, n11, hL, cond_true, cond_false] at hph
        have e30 : (many gg_ L (VL z))[30]?.getD undef = .int .i64 (a * 256 + b) := many_eval3 hgN (HOK.out z) (by rw [HVL.out]; rfl) y8
        refine opIn_run (v := .int .i64 k2) (w' := w') rfl rfl (fun c h => by cases h) (fun _ => trivial) ?_ ⟨z, by exact many_put3 (HOK.out _) (by rw [HVL.out]; rfl) hL, by simp only [upd, y8, n10, n11, hL, Nat.reduceBEq, cond_true, cond_false]; exact hph⟩
        have hL_ := HL.out
        have hb9 : -9223372036854775808 ≤ k2 ∧ k2 ≤ 9223372036854775807 := by omega
        go_simp
        first | done | exact IntWalk.i64_in _ hb9 | (rw [hL_]; exact IntWalk.i64_in _ hb9)
      · skip
        have y3 : L 3 = true := up_at hu 3 (by kernel_rfl)
        have y8 : L 8 = true := up_at hu 8 (by kernel_rfl)
        have y9 : L 9 = true := up_at hu 9 (by kernel_rfl)
        have n11 : L 11 = false := not_yet hL fun h => shut_at hs 11 10 (by kernel_rfl) (h)
        try simp only [y3, y8, y9, n11, hL, cond_true, cond_false] at hph
        have e25 : (many gg_ L (VL z))[25]?.getD undef = .pointer (some ⟨p, 0, none⟩) := many_eval3 hgN (HOK.out z) (by rw [HVL.out]; rfl) y3
        have e31 : (many gg_ L (VL z))[31]?.getD undef = .int .i64 k2 := many_eval3 hgN (HOK.out z) (by rw [HVL.out]; rfl) y9
        refine opIn_call (f := 63) (args := #[.pointer (some ⟨p, 0, none⟩), .int .i64 k2]) (w' := w') rfl rfl (fun c h => by cases h) (fun _ => trivial) rfl (by go_simp) ((callsIn_wide.2 (take_neg k2 hph.1 hk2 hln)).mono ?_)
        rintro e w2 ⟨rfl, h1_, h2_⟩
        exact ⟨_, rfl, z, by exact many_put3 (HOK.out _) (by rw [HVL.out]; rfl) hL, by simp only [upd, y3, y8, y9, n11, hL, Nat.reduceBEq, cond_true, cond_false]; exact ⟨h1_, hph.2.trans h2_⟩⟩
      · skip
        have y0 : L 0 = true := up_at hu 0 (by kernel_rfl)
        have y1 : L 1 = true := up_at hu 1 (by kernel_rfl)
        have y2 : L 2 = true := up_at hu 2 (by kernel_rfl)
        have y3 : L 3 = true := up_at hu 3 (by kernel_rfl)
        have y4 : L 4 = true := up_at hu 4 (by kernel_rfl)
        have y5 : L 5 = true := up_at hu 5 (by kernel_rfl)
        have y6 : L 6 = true := up_at hu 6 (by kernel_rfl)
        have y7 : L 7 = true := up_at hu 7 (by kernel_rfl)
        have y8 : L 8 = true := up_at hu 8 (by kernel_rfl)
        have y9 : L 9 = true := up_at hu 9 (by kernel_rfl)
        have y10 : L 10 = true := up_at hu 10 (by kernel_rfl)
        try simp only [y0, y1, y2, y3, y4, y5, y6, y7, y8, y9, y10, hL, cond_true, cond_false] at hph
        have e32 : (many gg_ L (VL z))[32]?.getD undef = .slice none 0 0 := many_eval3 hgN (HOK.out z) (by rw [HVL.out]; rfl) y10
        refine opIn_run (v := .slice none 0 0) (w' := w') rfl rfl (fun c h => by cases h) (fun _ => trivial) ?_ ⟨z, by exact many_put3 (HOK.out _) (by rw [HVL.out]; rfl) hL, by simp only [upd, y0, y1, y2, y3, y4, y5, y6, y7, y8, y9, y10, hL, Nat.reduceBEq, cond_true, cond_false]; exact hph⟩
        go_simp
    case fin =>
      intro L z w' hall hph
      have l8 := hall 8 (by decide)
      have l10 := hall 10 (by decide)
      simp only [l8, l10, cond_true] at hph
      clear l8 l10
      rw [HVL.out]
      dsimp only [manyL, List.set_cons_zero, List.set_cons_succ]
      clear hall HVL HOK HVI
      obtain ⟨hps, hef⟩ := hph
      obtain ⟨w2, hw2⟩ : ∃ W_, W_ = w' := ⟨_, rfl⟩
      subst hw2
      obtain ⟨l9, hr9, hl9⟩ := hps.rd
      have ED := Lib.hid (end_any hr9 (by omega))
      have hee : endE l9.length 1 = 1 := by simp [endE]
      rw [hee] at ED
      have HE2 := Lib.hid hef
      have c0 := rb_cell hps.pb 0
      simp only [List.getElem?_toArray, List.getElem?_cons_succ, List.getElem?_cons_zero] at c0
      clear hps hef hr9 hee
      go_wp2_with fail
      refine ED.out.mono ?_
      rintro e_ wx ⟨rfl, nd, rfl⟩
      have HE3 : Hid (Eff [p] w (w2.drewN nd)) := Lib.hid (HE2.out.trans (Eff.of_below (below_drewN (Below.refl _ _) nd)))
      clear ED c0
      go_wp2
      go_ret
      first | exact ⟨rfl, HE3.out⟩ | exact HE3.out
set_option maxHeartbeats 8000000 in
theorem seg_long (P p m lo clock : Nat) (mk : Int) (a b k2 : Int) (l : List Int) (es : Array MapEntry) (v1 v2 v3 v4 v5 v6 v7 v8 v9 v10 v11 v12 v13 v14 v15 v16 v17 v18 : Value) (w : World) (H : PS w P p m lo (a :: b :: l) #[.pointer (some ⟨p, 0, none⟩), v1, v2, v3, v4, v5, v6, v7, v8, v9, v10, v11, v12, v13, v14, v15, v16, v17, v18, .map (some m)] es clock) (hO : Oct (a :: b :: l)) (hL : a * 256 + b - 2 = k2) (hk2 : 0 ≤ k2 ∧ (l.length : Int) < k2) (hkb : k2 ≤ 70000) (hln : l.length ≤ 1000000)
    (hmk : 65280 ≤ mk ∧ mk ≤ 65535) (hna : ¬ (65328 ≤ mk ∧ mk ≤ 65343)) (hA : Calls Try.prog 62 #[.pointer (some ⟨P, 0, none⟩), .int .i64 mk] w fun e w' => e = .returned (.bool true) ∧ w = w') :
    Calls Try.prog 34 #[.pointer (some ⟨P, 0, none⟩), .int .i64 mk] w fun e w' => e = .returned (.int .i64 10) ∧ Eff [p] w w' := by
  have HPS := Lib.hid H
  have HA := Lib.hid hA
  have HO := Lib.hid hO
  have HL := Lib.hid hL
  clear hO hL
  have hsh : mk / 256 = 255 := by omega
  have hna2 : mk < 65328 ∨ 65343 < mk := by omega
  clear H hA hna
  rcases hna2 with hlo | hhi
  · go_enter Try.func34, Try.ntmps34
    go_wp2_with fail
    refine HA.out.mono ?_
    rintro e_ w1 ⟨rfl, rfl⟩
    go_upto_region 5 with fail
    obtain ⟨VL, hVL⟩ : ∃ VL : Unit → List (Nat × Nat × Value), VL = fun z => [(0, 22, .pointer (some ⟨P, 0, none⟩)), (1, 23, .pointer (some ⟨P, 0, none⟩)), (2, 24, .pointer (some ⟨P, 0, none⟩)), (3, 25, .pointer (some ⟨p, 0, none⟩)), (4, 26, .pointer (some ⟨P, 0, none⟩)), (5, 27, .pointer (some ⟨P, 0, none⟩)), (6, 28, .pointer (some ⟨P, 0, none⟩)), (7, 29, .pointer (some ⟨p, 0, none⟩)), (8, 30, .int .i64 (a * 256 + b)), (9, 31, .int .i64 k2), (10, 32, .slice none 0 0), (11, 5, .slice none 0 0)] := ⟨_, rfl⟩
    have hok : ∀ z, manyOk 52 (VL z) := fun z => by rw [hVL]; exact okB_ok rfl
    have HVL := Lib.hid hVL
    have hvi : ∀ z, ∀ x ∈ VL z, x.1 < 12 := fun z => by rw [hVL]; exact ltB_ok rfl
    have HOK := Lib.hid hok
    have HVI := Lib.hid hvi
    clear hVL hok hvi
    refine (wpIn_wide (n := 9)).1 (regionIn_many (N := 52) (w := _) VL (fun L z w' => (bif L 10 then (PSe w' P p m lo #[.pointer (some ⟨p, 0, none⟩), v1, v2, v3, v4, v5, v6, v7, v8, v9, v10, v11, v12, v13, v14, v15, v16, v17, v18, .map (some m)] es clock 8 ∧ Eff [p] w w') else (bif L 8 then (PS w' P p m lo l #[.pointer (some ⟨p, 0, none⟩), v1, v2, v3, v4, v5, v6, v7, v8, v9, v10, v11, v12, v13, v14, v15, v16, v17, v18, .map (some m)] es clock ∧ Eff [p] w w') else PS w' P p m lo (a :: b :: l) #[.pointer (some ⟨p, 0, none⟩), v1, v2, v3, v4, v5, v6, v7, v8, v9, v10, v11, v12, v13, v14, v15, v16, v17, v18, .map (some m)] es clock ∧ Eff [p] w w'))) [(0, .pointer (some ⟨P, 0, none⟩))] (by kernel_rfl) (by kernel_rfl) rfl (by simp only [List.forall_mem_cons, List.not_mem_nil, false_imp_iff, implies_true, and_true]; exact rfl) HVI.out () ?start ?step ?fin)
    case start => exact ⟨HPS.out.drew, Eff.of_below (below_drewN (Below.refl _ _) 1)⟩
    case step =>
      intro gg_ hgN hgF ii_ hii_ L z w' hph hs hu
      have hF0 := hgF (0, .pointer (some ⟨P, 0, none⟩)) (by simp)
      have hL := hu.1
      have hii_ : ii_ < 12 := hii_
      clear hgF
      obtain rfl | rfl | rfl | rfl | rfl | rfl | rfl | rfl | rfl | rfl | rfl | rfl := (by omega : ii_ = 0 ∨ ii_ = 1 ∨ ii_ = 2 ∨ ii_ = 3 ∨ ii_ = 4 ∨ ii_ = 5 ∨ ii_ = 6 ∨ ii_ = 7 ∨ ii_ = 8 ∨ ii_ = 9 ∨ ii_ = 10 ∨ ii_ = 11)
      · skip
        have n10 : L 10 = false := not_yet hL fun h => shut_at hs 1 0 (by kernel_rfl) (shut_at hs 2 1 (by kernel_rfl) (shut_at hs 3 2 (by kernel_rfl) (shut_at hs 10 3 (by kernel_rfl) (h))))
        have n11 : L 11 = false := not_yet hL fun h => shut_at hs 11 0 (by kernel_rfl) (h)
        try simp only [n10, n11, hL, cond_true, cond_false] at hph
        have e0 : (many gg_ L (VL z))[0]?.getD undef = .pointer (some ⟨P, 0, none⟩) := many_out3 hgN (HOK.out z) (by rw [HVL.out]; rfl) hF0
        refine opIn_run (v := .pointer (some ⟨P, 0, none⟩)) (w' := w') rfl rfl (fun c h => by cases h) (fun _ => trivial) ?_ ⟨z, by exact many_put3 (HOK.out _) (by rw [HVL.out]; rfl) hL, by simp only [upd, n10, n11, hL, Nat.reduceBEq, cond_true, cond_false]; exact hph⟩
        go_simp
      · skip
        have y0 : L 0 = true := up_at hu 0 (by kernel_rfl)
        have n10 : L 10 = false := not_yet hL fun h => shut_at hs 2 1 (by kernel_rfl) (shut_at hs 3 2 (by kernel_rfl) (shut_at hs 10 3 (by kernel_rfl) (h)))
        have n11 : L 11 = false := not_yet hL fun h => shut_at hs 11 1 (by kernel_rfl) (h)
        try simp only [y0, n10, n11, hL, cond_true, cond_false] at hph
        have e22 : (many gg_ L (VL z))[22]?.getD undef = .pointer (some ⟨P, 0, none⟩) := many_eval3 hgN (HOK.out z) (by rw [HVL.out]; rfl) y0
        refine opIn_run (v := .pointer (some ⟨P, 0, none⟩)) (w' := w') rfl rfl (fun c h => by cases h) (fun _ => trivial) ?_ ⟨z, by exact many_put3 (HOK.out _) (by rw [HVL.out]; rfl) hL, by simp only [upd, y0, n10, n11, hL, Nat.reduceBEq, cond_true, cond_false]; exact hph⟩
        go_simp
      · skip
        have y1 : L 1 = true := up_at hu 1 (by kernel_rfl)
        have n10 : L 10 = false := not_yet hL fun h => shut_at hs 3 2 (by kernel_rfl) (shut_at hs 10 3 (by kernel_rfl) (h))
        have n11 : L 11 = false := not_yet hL fun h => shut_at hs 11 2 (by kernel_rfl) (h)
        try simp only [y1, n10, n11, hL, cond_true, cond_false] at hph
        have e23 : (many gg_ L (VL z))[23]?.getD undef = .pointer (some ⟨P, 0, none⟩) := many_eval3 hgN (HOK.out z) (by rw [HVL.out]; rfl) y1
        refine opIn_run (v := .pointer (some ⟨P, 0, none⟩)) (w' := w') rfl rfl (fun c h => by cases h) (fun _ => trivial) ?_ ⟨z, by exact many_put3 (HOK.out _) (by rw [HVL.out]; rfl) hL, by simp only [upd, y1, n10, n11, hL, Nat.reduceBEq, cond_true, cond_false]; exact hph⟩
        go_simp
      · skip
        have y2 : L 2 = true := up_at hu 2 (by kernel_rfl)
        have n10 : L 10 = false := not_yet hL fun h => shut_at hs 10 3 (by kernel_rfl) (h)
        have n11 : L 11 = false := not_yet hL fun h => shut_at hs 11 3 (by kernel_rfl) (h)
        try simp only [y2, n10, n11, hL, cond_true, cond_false] at hph
        have hcell : w'.cell? ⟨P, 0, none⟩ = some (.pointer (some ⟨p, 0, none⟩)) := by revert hph; cases L 8 <;> cases L 10 <;> (intro hph; exact rb_cell hph.1.pb 0)
        have e24 : (many gg_ L (VL z))[24]?.getD undef = .pointer (some ⟨P, 0, none⟩) := many_eval3 hgN (HOK.out z) (by rw [HVL.out]; rfl) y2
        refine opIn_run (v := .pointer (some ⟨p, 0, none⟩)) (w' := w') rfl rfl (fun c h => by cases h) (fun _ => trivial) ?_ ⟨z, by exact many_put3 (HOK.out _) (by rw [HVL.out]; rfl) hL, by simp only [upd, y2, n10, n11, hL, Nat.reduceBEq, cond_true, cond_false]; exact hph⟩
        go_simp
      · skip
        have n8 : L 8 = false := not_yet hL fun h => shut_at hs 5 4 (by kernel_rfl) (shut_at hs 6 5 (by kernel_rfl) (shut_at hs 7 6 (by kernel_rfl) (shut_at hs 8 7 (by kernel_rfl) (h))))
        have n10 : L 10 = false := not_yet hL fun h => shut_at hs 5 4 (by kernel_rfl) (shut_at hs 6 5 (by kernel_rfl) (shut_at hs 7 6 (by kernel_rfl) (shut_at hs 8 7 (by kernel_rfl) (shut_at hs 10 8 (by kernel_rfl) (h)))))
        have n11 : L 11 = false := not_yet hL fun h => shut_at hs 11 4 (by kernel_rfl) (h)
        try simp only [n8, n10, n11, hL, cond_true, cond_false] at hph
        have e0 : (many gg_ L (VL z))[0]?.getD undef = .pointer (some ⟨P, 0, none⟩) := many_out3 hgN (HOK.out z) (by rw [HVL.out]; rfl) hF0
        refine opIn_run (v := .pointer (some ⟨P, 0, none⟩)) (w' := w') rfl rfl (fun c h => by cases h) (fun _ => trivial) ?_ ⟨z, by exact many_put3 (HOK.out _) (by rw [HVL.out]; rfl) hL, by simp only [upd, n8, n10, n11, hL, Nat.reduceBEq, cond_true, cond_false]; exact hph⟩
        go_simp
      · skip
        have y4 : L 4 = true := up_at hu 4 (by kernel_rfl)
        have n8 : L 8 = false := not_yet hL fun h => shut_at hs 6 5 (by kernel_rfl) (shut_at hs 7 6 (by kernel_rfl) (shut_at hs 8 7 (by kernel_rfl) (h)))
        have n10 : L 10 = false := not_yet hL fun h => shut_at hs 6 5 (by kernel_rfl) (shut_at hs 7 6 (by kernel_rfl) (shut_at hs 8 7 (by kernel_rfl) (shut_at hs 10 8 (by kernel_rfl) (h))))
        have n11 : L 11 = false := not_yet hL fun h => shut_at hs 11 5 (by kernel_rfl) (h)
        try simp only [y4, n8, n10, n11, hL, cond_true, cond_false] at hph
        have e26 : (many gg_ L (VL z))[26]?.getD undef = .pointer (some ⟨P, 0, none⟩) := many_eval3 hgN (HOK.out z) (by rw [HVL.out]; rfl) y4
        refine opIn_run (v := .pointer (some ⟨P, 0, none⟩)) (w' := w') rfl rfl (fun c h => by cases h) (fun _ => trivial) ?_ ⟨z, by exact many_put3 (HOK.out _) (by rw [HVL.out]; rfl) hL, by simp only [upd, y4, n8, n10, n11, hL, Nat.reduceBEq, cond_true, cond_false]; exact hph⟩
        go_simp
      · skip
        have y5 : L 5 = true := up_at hu 5 (by kernel_rfl)
        have n8 : L 8 = false := not_yet hL fun h => shut_at hs 7 6 (by kernel_rfl) (shut_at hs 8 7 (by kernel_rfl) (h))
        have n10 : L 10 = false := not_yet hL fun h => shut_at hs 7 6 (by kernel_rfl) (shut_at hs 8 7 (by kernel_rfl) (shut_at hs 10 8 (by kernel_rfl) (h)))
        have n11 : L 11 = false := not_yet hL fun h => shut_at hs 11 6 (by kernel_rfl) (h)
        try simp only [y5, n8, n10, n11, hL, cond_true, cond_false] at hph
        have e27 : (many gg_ L (VL z))[27]?.getD undef = .pointer (some ⟨P, 0, none⟩) := many_eval3 hgN (HOK.out z) (by rw [HVL.out]; rfl) y5
        refine opIn_run (v := .pointer (some ⟨P, 0, none⟩)) (w' := w') rfl rfl (fun c h => by cases h) (fun _ => trivial) ?_ ⟨z, by exact many_put3 (HOK.out _) (by rw [HVL.out]; rfl) hL, by simp only [upd, y5, n8, n10, n11, hL, Nat.reduceBEq, cond_true, cond_false]; exact hph⟩
        go_simp
      · skip
        have y6 : L 6 = true := up_at hu 6 (by kernel_rfl)
        have n8 : L 8 = false := not_yet hL fun h => shut_at hs 8 7 (by kernel_rfl) (h)
        have n10 : L 10 = false := not_yet hL fun h => shut_at hs 8 7 (by kernel_rfl) (shut_at hs 10 8 (by kernel_rfl) (h))
        have n11 : L 11 = false := not_yet hL fun h => shut_at hs 11 7 (by kernel_rfl) (h)
        try simp only [y6, n8, n10, n11, hL, cond_true, cond_false] at hph
        have hcell : w'.cell? ⟨P, 0, none⟩ = some (.pointer (some ⟨p, 0, none⟩)) := by revert hph; cases L 8 <;> cases L 10 <;> (intro hph; exact rb_cell hph.1.pb 0)
        have e28 : (many gg_ L (VL z))[28]?.getD undef = .pointer (some ⟨P, 0, none⟩) := many_eval3 hgN (HOK.out z) (by rw [HVL.out]; rfl) y6
        refine opIn_run (v := .pointer (some ⟨p, 0, none⟩)) (w' := w') rfl rfl (fun c h => by cases h) (fun _ => trivial) ?_ ⟨z, by exact many_put3 (HOK.out _) (by rw [HVL.out]; rfl) hL, by simp only [upd, y6, n8, n10, n11, hL, Nat.reduceBEq, cond_true, cond_false]; exact hph⟩
        go_simp
      · skip
        have y7 : L 7 = true := up_at hu 7 (by kernel_rfl)
        have n10 : L 10 = false := not_yet hL fun h => shut_at hs 10 8 (by kernel_rfl) (h)
        have n11 : L 11 = false := not_yet hL fun h => shut_at hs 11 8 (by kernel_rfl) (h)
        try simp only [y7, n10, n11, hL, cond_true, cond_false] at hph
        have e29 : (many gg_ L (VL z))[29]?.getD undef = .pointer (some ⟨p, 0, none⟩) := many_eval3 hgN (HOK.out z) (by rw [HVL.out]; rfl) y7
        refine opIn_call (f := 33) (args := #[.pointer (some ⟨p, 0, none⟩), .int .i64 2]) (w' := w') rfl rfl (fun c h => by cases h) (fun _ => trivial) rfl (by go_simp) ((callsIn_wide.2 (get2 hph.1.rd HO.out hln)).mono ?_)
        rintro e w2 ⟨rfl, hR_, hg_⟩
        exact ⟨_, rfl, z, by exact many_put3 (HOK.out _) (by rw [HVL.out]; rfl) hL, by simp only [upd, y7, n10, n11, hL, Nat.reduceBEq, cond_true, cond_false]; exact ⟨hph.1.get hR_ hg_, hph.2.trans (Eff.of_grown hg_)⟩⟩
      · skip
        have y8 : L 8 = true := up_at hu 8 (by kernel_rfl)
        have n10 : L 10 = false := not_yet hL fun h => shut_at hs 10 9 (by kernel_rfl) (h)
        have n11 : L 11 = false := not_yet hL fun h => shut_at hs 11 9 (by kernel_rfl) (h)
        try simp only [y8, n10, n11, hL, cond_true, cond_false] at hph
        have e30 : (many gg_ L (VL z))[30]?.getD undef = .int .i64 (a * 256 + b) := many_eval3 hgN (HOK.out z) (by rw [HVL.out]; rfl) y8
        refine opIn_run (v := .int .i64 k2) (w' := w') rfl rfl (fun c h => by cases h) (fun _ => trivial) ?_ ⟨z, by exact many_put3 (HOK.out _) (by rw [HVL.out]; rfl) hL, by simp only [upd, y8, n10, n11, hL, Nat.reduceBEq, cond_true, cond_false]; exact hph⟩
        have hL_ := HL.out
        have hb9 : -9223372036854775808 ≤ k2 ∧ k2 ≤ 9223372036854775807 := by omega
        go_simp
        first | done | exact IntWalk.i64_in _ hb9 | (rw [hL_]; exact IntWalk.i64_in _ hb9)
      · skip
        have y3 : L 3 = true := up_at hu 3 (by kernel_rfl)
        have y8 : L 8 = true := up_at hu 8 (by kernel_rfl)
        have y9 : L 9 = true := up_at hu 9 (by kernel_rfl)
        have n11 : L 11 = false := not_yet hL fun h => shut_at hs 11 10 (by kernel_rfl) (h)
        try simp only [y3, y8, y9, n11, hL, cond_true, cond_false] at hph
        have e25 : (many gg_ L (VL z))[25]?.getD undef = .pointer (some ⟨p, 0, none⟩) := many_eval3 hgN (HOK.out z) (by rw [HVL.out]; rfl) y3
        have e31 : (many gg_ L (VL z))[31]?.getD undef = .int .i64 k2 := many_eval3 hgN (HOK.out z) (by rw [HVL.out]; rfl) y9
        refine opIn_call (f := 63) (args := #[.pointer (some ⟨p, 0, none⟩), .int .i64 k2]) (w' := w') rfl rfl (fun c h => by cases h) (fun _ => trivial) rfl (by go_simp) ((callsIn_wide.2 (take_long k2 hph.1 hk2 hln)).mono ?_)
        rintro e w2 ⟨rfl, h1_, h2_⟩
        exact ⟨_, rfl, z, by exact many_put3 (HOK.out _) (by rw [HVL.out]; rfl) hL, by simp only [upd, y3, y8, y9, n11, hL, Nat.reduceBEq, cond_true, cond_false]; exact ⟨h1_, hph.2.trans h2_⟩⟩
      · skip
        have y0 : L 0 = true := up_at hu 0 (by kernel_rfl)
        have y1 : L 1 = true := up_at hu 1 (by kernel_rfl)
        have y2 : L 2 = true := up_at hu 2 (by kernel_rfl)
        have y3 : L 3 = true := up_at hu 3 (by kernel_rfl)
        have y4 : L 4 = true := up_at hu 4 (by kernel_rfl)
        have y5 : L 5 = true := up_at hu 5 (by kernel_rfl)
        have y6 : L 6 = true := up_at hu 6 (by kernel_rfl)
        have y7 : L 7 = true := up_at hu 7 (by kernel_rfl)
        have y8 : L 8 = true := up_at hu 8 (by kernel_rfl)
        have y9 : L 9 = true := up_at hu 9 (by kernel_rfl)
        have y10 : L 10 = true := up_at hu 10 (by kernel_rfl)
        try simp only [y0, y1, y2, y3, y4, y5, y6, y7, y8, y9, y10, hL, cond_true, cond_false] at hph
        have e32 : (many gg_ L (VL z))[32]?.getD undef = .slice none 0 0 := many_eval3 hgN (HOK.out z) (by rw [HVL.out]; rfl) y10
        refine opIn_run (v := .slice none 0 0) (w' := w') rfl rfl (fun c h => by cases h) (fun _ => trivial) ?_ ⟨z, by exact many_put3 (HOK.out _) (by rw [HVL.out]; rfl) hL, by simp only [upd, y0, y1, y2, y3, y4, y5, y6, y7, y8, y9, y10, hL, Nat.reduceBEq, cond_true, cond_false]; exact hph⟩
        go_simp
    case fin =>
      intro L z w' hall hph
      have l8 := hall 8 (by decide)
      have l10 := hall 10 (by decide)
      simp only [l8, l10, cond_true] at hph
      clear l8 l10
      rw [HVL.out]
      dsimp only [manyL, List.set_cons_zero, List.set_cons_succ]
      clear hall HVL HOK HVI
      obtain ⟨hps, hef⟩ := hph
      obtain ⟨w2, hw2⟩ : ∃ W_, W_ = w' := ⟨_, rfl⟩
      subst hw2
      obtain ⟨l9, hr9, hl9⟩ := hps.rd
      have ED := Lib.hid (end_any hr9 (by omega))
      have hee : endE l9.length 8 = 8 := by simp [endE]
      rw [hee] at ED
      have HE2 := Lib.hid hef
      have c0 := rb_cell hps.pb 0
      simp only [List.getElem?_toArray, List.getElem?_cons_succ, List.getElem?_cons_zero] at c0
      clear hps hef hr9 hee
      go_wp2_with fail
      refine ED.out.mono ?_
      rintro e_ wx ⟨rfl, nd, rfl⟩
      have HE3 : Hid (Eff [p] w (w2.drewN nd)) := Lib.hid (HE2.out.trans (Eff.of_below (below_drewN (Below.refl _ _) nd)))
      clear ED c0
      go_wp2
      go_ret
      first | exact ⟨rfl, HE3.out⟩ | exact HE3.out
  · go_enter Try.func34, Try.ntmps34
    go_wp2_with fail
    refine HA.out.mono ?_
    rintro e_ w1 ⟨rfl, rfl⟩
    go_upto_region 5 with fail
    obtain ⟨VL, hVL⟩ : ∃ VL : Unit → List (Nat × Nat × Value), VL = fun z => [(0, 22, .pointer (some ⟨P, 0, none⟩)), (1, 23, .pointer (some ⟨P, 0, none⟩)), (2, 24, .pointer (some ⟨P, 0, none⟩)), (3, 25, .pointer (some ⟨p, 0, none⟩)), (4, 26, .pointer (some ⟨P, 0, none⟩)), (5, 27, .pointer (some ⟨P, 0, none⟩)), (6, 28, .pointer (some ⟨P, 0, none⟩)), (7, 29, .pointer (some ⟨p, 0, none⟩)), (8, 30, .int .i64 (a * 256 + b)), (9, 31, .int .i64 k2), (10, 32, .slice none 0 0), (11, 5, .slice none 0 0)] := ⟨_, rfl⟩
    have hok : ∀ z, manyOk 52 (VL z) := fun z => by rw [hVL]; exact okB_ok rfl
    have HVL := Lib.hid hVL
    have hvi : ∀ z, ∀ x ∈ VL z, x.1 < 12 := fun z => by rw [hVL]; exact ltB_ok rfl
    have HOK := Lib.hid hok
    have HVI := Lib.hid hvi
    clear hVL hok hvi
    refine (wpIn_wide (n := 9)).1 (regionIn_many (N := 52) (w := _) VL (fun L z w' => (bif L 10 then (PSe w' P p m lo #[.pointer (some ⟨p, 0, none⟩), v1, v2, v3, v4, v5, v6, v7, v8, v9, v10, v11, v12, v13, v14, v15, v16, v17, v18, .map (some m)] es clock 8 ∧ Eff [p] w w') else (bif L 8 then (PS w' P p m lo l #[.pointer (some ⟨p, 0, none⟩), v1, v2, v3, v4, v5, v6, v7, v8, v9, v10, v11, v12, v13, v14, v15, v16, v17, v18, .map (some m)] es clock ∧ Eff [p] w w') else PS w' P p m lo (a :: b :: l) #[.pointer (some ⟨p, 0, none⟩), v1, v2, v3, v4, v5, v6, v7, v8, v9, v10, v11, v12, v13, v14, v15, v16, v17, v18, .map (some m)] es clock ∧ Eff [p] w w'))) [(0, .pointer (some ⟨P, 0, none⟩))] (by kernel_rfl) (by kernel_rfl) rfl (by simp only [List.forall_mem_cons, List.not_mem_nil, false_imp_iff, implies_true, and_true]; exact rfl) HVI.out () ?start ?step ?fin)
    case start => exact ⟨HPS.out.drew, Eff.of_below (below_drewN (Below.refl _ _) 1)⟩
    case step =>
      intro gg_ hgN hgF ii_ hii_ L z w' hph hs hu
      have hF0 := hgF (0, .pointer (some ⟨P, 0, none⟩)) (by simp)
      have hL := hu.1
      have hii_ : ii_ < 12 := hii_
      clear hgF
      obtain rfl | rfl | rfl | rfl | rfl | rfl | rfl | rfl | rfl | rfl | rfl | rfl := (by omega : ii_ = 0 ∨ ii_ = 1 ∨ ii_ = 2 ∨ ii_ = 3 ∨ ii_ = 4 ∨ ii_ = 5 ∨ ii_ = 6 ∨ ii_ = 7 ∨ ii_ = 8 ∨ ii_ = 9 ∨ ii_ = 10 ∨ ii_ = 11)
      · skip
        have n10 : L 10 = false := not_yet hL fun h => shut_at hs 1 0 (by kernel_rfl) (shut_at hs 2 1 (by kernel_rfl) (shut_at hs 3 2 (by kernel_rfl) (shut_at hs 10 3 (by kernel_rfl) (h))))
        have n11 : L 11 = false := not_yet hL fun h => shut_at hs 11 0 (by kernel_rfl) (h)
        try simp only [n10, n11, hL, cond_true, cond_false] at hph
        have e0 : (many gg_ L (VL z))[0]?.getD undef = .pointer (some ⟨P, 0, none⟩) := many_out3 hgN (HOK.out z) (by rw [HVL.out]; rfl) hF0
        refine opIn_run (v := .pointer (some ⟨P, 0, none⟩)) (w' := w') rfl rfl (fun c h => by cases h) (fun _ => trivial) ?_ ⟨z, by exact many_put3 (HOK.out _) (by rw [HVL.out]; rfl) hL, by simp only [upd, n10, n11, hL, Nat.reduceBEq, cond_true, cond_false]; exact hph⟩
        go_simp
      · skip
        have y0 : L 0 = true := up_at hu 0 (by kernel_rfl)
        have n10 : L 10 = false := not_yet hL fun h => shut_at hs 2 1 (by kernel_rfl) (shut_at hs 3 2 (by kernel_rfl) (shut_at hs 10 3 (by kernel_rfl) (h)))
        have n11 : L 11 = false := not_yet hL fun h => shut_at hs 11 1 (by kernel_rfl) (h)
        try simp only [y0, n10, n11, hL, cond_true, cond_false] at hph
        have e22 : (many gg_ L (VL z))[22]?.getD undef = .pointer (some ⟨P, 0, none⟩) := many_eval3 hgN (HOK.out z) (by rw [HVL.out]; rfl) y0
        refine opIn_run (v := .pointer (some ⟨P, 0, none⟩)) (w' := w') rfl rfl (fun c h => by cases h) (fun _ => trivial) ?_ ⟨z, by exact many_put3 (HOK.out _) (by rw [HVL.out]; rfl) hL, by simp only [upd, y0, n10, n11, hL, Nat.reduceBEq, cond_true, cond_false]; exact hph⟩
        go_simp
      · skip
        have y1 : L 1 = true := up_at hu 1 (by kernel_rfl)
        have n10 : L 10 = false := not_yet hL fun h => shut_at hs 3 2 (by kernel_rfl) (shut_at hs 10 3 (by kernel_rfl) (h))
        have n11 : L 11 = false := not_yet hL fun h => shut_at hs 11 2 (by kernel_rfl) (h)
        try simp only [y1, n10, n11, hL, cond_true, cond_false] at hph
        have e23 : (many gg_ L (VL z))[23]?.getD undef = .pointer (some ⟨P, 0, none⟩) := many_eval3 hgN (HOK.out z) (by rw [HVL.out]; rfl) y1
        refine opIn_run (v := .pointer (some ⟨P, 0, none⟩)) (w' := w') rfl rfl (fun c h => by cases h) (fun _ => trivial) ?_ ⟨z, by exact many_put3 (HOK.out _) (by rw [HVL.out]; rfl) hL, by simp only [upd, y1, n10, n11, hL, Nat.reduceBEq, cond_true, cond_false]; exact hph⟩
        go_simp
      · skip
        have y2 : L 2 = true := up_at hu 2 (by kernel_rfl)
        have n10 : L 10 = false := not_yet hL fun h => shut_at hs 10 3 (by kernel_rfl) (h)
        have n11 : L 11 = false := not_yet hL fun h => shut_at hs 11 3 (by kernel_rfl) (h)
        try simp only [y2, n10, n11, hL, cond_true, cond_false] at hph
        have hcell : w'.cell? ⟨P, 0, none⟩ = some (.pointer (some ⟨p, 0, none⟩)) := by revert hph; cases L 8 <;> cases L 10 <;> (intro hph; exact rb_cell hph.1.pb 0)
        have e24 : (many gg_ L (VL z))[24]?.getD undef = .pointer (some ⟨P, 0, none⟩) := many_eval3 hgN (HOK.out z) (by rw [HVL.out]; rfl) y2
        refine opIn_run (v := .pointer (some ⟨p, 0, none⟩)) (w' := w') rfl rfl (fun c h => by cases h) (fun _ => trivial) ?_ ⟨z, by exact many_put3 (HOK.out _) (by rw [HVL.out]; rfl) hL, by simp only [upd, y2, n10, n11, hL, Nat.reduceBEq, cond_true, cond_false]; exact hph⟩
        go_simp
      · skip
        have n8 : L 8 = false := not_yet hL fun h => shut_at hs 5 4 (by kernel_rfl) (shut_at hs 6 5 (by kernel_rfl) (shut_at hs 7 6 (by kernel_rfl) (shut_at hs 8 7 (by kernel_rfl) (h))))
        have n10 : L 10 = false := not_yet hL fun h => shut_at hs 5 4 (by kernel_rfl) (shut_at hs 6 5 (by kernel_rfl) (shut_at hs 7 6 (by kernel_rfl) (shut_at hs 8 7 (by kernel_rfl) (shut_at hs 10 8 (by kernel_rfl) (h)))))
        have n11 : L 11 = false := not_yet hL fun h => shut_at hs 11 4 (by kernel_rfl) (h)
        try simp only [n8, n10, n11, hL, cond_true, cond_false] at hph
        have e0 : (many gg_ L (VL z))[0]?.getD undef = .pointer (some ⟨P, 0, none⟩) := many_out3 hgN (HOK.out z) (by rw [HVL.out]; rfl) hF0
        refine opIn_run (v := .pointer (some ⟨P, 0, none⟩)) (w' := w') rfl rfl (fun c h => by cases h) (fun _ => trivial) ?_ ⟨z, by exact many_put3 (HOK.out _) (by rw [HVL.out]; rfl) hL, by simp only [upd, n8, n10, n11, hL, Nat.reduceBEq, cond_true, cond_false]; exact hph⟩
        go_simp
      · skip
        have y4 : L 4 = true := up_at hu 4 (by kernel_rfl)
        have n8 : L 8 = false := not_yet hL fun h => shut_at hs 6 5 (by kernel_rfl) (shut_at hs 7 6 (by kernel_rfl) (shut_at hs 8 7 (by kernel_rfl) (h)))
        have n10 : L 10 = false := not_yet hL fun h => shut_at hs 6 5 (by kernel_rfl) (shut_at hs 7 6 (by kernel_rfl) (shut_at hs 8 7 (by kernel_rfl) (shut_at hs 10 8 (by kernel_rfl) (h))))
        have n11 : L 11 = false := not_yet hL fun h => shut_at hs 11 5 (by kernel_rfl) (h)
        try simp only [y4, n8, n10, n11, hL, cond_true, cond_false] at hph
        have e26 : (many gg_ L (VL z))[26]?.getD undef = .pointer (some ⟨P, 0, none⟩) := many_eval3 hgN (HOK.out z) (by rw [HVL.out]; rfl) y4
        refine opIn_run (v := .pointer (some ⟨P, 0, none⟩)) (w' := w') rfl rfl (fun c h => by cases h) (fun _ => trivial) ?_ ⟨z, by exact many_put3 (HOK.out _) (by rw [HVL.out]; rfl) hL, by simp only [upd, y4, n8, n10, n11, hL, Nat.reduceBEq, cond_true, cond_false]; exact hph⟩
        go_simp
      · skip
        have y5 : L 5 = true := up_at hu 5 (by kernel_rfl)
        have n8 : L 8 = false := not_yet hL fun h => shut_at hs 7 6 (by kernel_rfl) (shut_at hs 8 7 (by kernel_rfl) (h))
        have n10 : L 10 = false := not_yet hL fun h => shut_at hs 7 6 (by kernel_rfl) (shut_at hs 8 7 (by kernel_rfl) (shut_at hs 10 8 (by kernel_rfl) (h)))
        have n11 : L 11 = false := not_yet hL fun h => shut_at hs 11 6 (by kernel_rfl) (h)
        try simp only [y5, n8, n10, n11, hL, cond_true, cond_false] at hph
        have e27 : (many gg_ L (VL z))[27]?.getD undef = .pointer (some ⟨P, 0, none⟩) := many_eval3 hgN (HOK.out z) (by rw [HVL.out]; rfl) y5
        refine opIn_run (v := .pointer (some ⟨P, 0, none⟩)) (w' := w') rfl rfl (fun c h => by cases h) (fun _ => trivial) ?_ ⟨z, by exact many_put3 (HOK.out _) (by rw [HVL.out]; rfl) hL, by simp only [upd, y5, n8, n10, n11, hL, Nat.reduceBEq, cond_true, cond_false]; exact hph⟩
        go_simp
      · skip
        have y6 : L 6 = true := up_at hu 6 (by kernel_rfl)
        have n8 : L 8 = false := not_yet hL fun h => shut_at hs 8 7 (by kernel_rfl) (h)
        have n10 : L 10 = false := not_yet hL fun h => shut_at hs 8 7 (by kernel_rfl) (shut_at hs 10 8 (by kernel_rfl) (h))
        have n11 : L 11 = false := not_yet hL fun h => shut_at hs 11 7 (by kernel_rfl) (h)
        try simp only [y6, n8, n10, n11, hL, cond_true, cond_false] at hph
        have hcell : w'.cell? ⟨P, 0, none⟩ = some (.pointer (some ⟨p, 0, none⟩)) := by revert hph; cases L 8 <;> cases L 10 <;> (intro hph; exact rb_cell hph.1.pb 0)
        have e28 : (many gg_ L (VL z))[28]?.getD undef = .pointer (some ⟨P, 0, none⟩) := many_eval3 hgN (HOK.out z) (by rw [HVL.out]; rfl) y6
        refine opIn_run (v := .pointer (some ⟨p, 0, none⟩)) (w' := w') rfl rfl (fun c h => by cases h) (fun _ => trivial) ?_ ⟨z, by exact many_put3 (HOK.out _) (by rw [HVL.out]; rfl) hL, by simp only [upd, y6, n8, n10, n11, hL, Nat.reduceBEq, cond_true, cond_false]; exact hph⟩
        go_simp
      · skip
        have y7 : L 7 = true := up_at hu 7 (by kernel_rfl)
        have n10 : L 10 = false := not_yet hL fun h => shut_at hs 10 8 (by kernel_rfl) (h)
        have n11 : L 11 = false := not_yet hL fun h => shut_at hs 11 8 (by kernel_rfl) (h)
        try simp only [y7, n10, n11, hL, cond_true, cond_false] at hph
        have e29 : (many gg_ L (VL z))[29]?.getD undef = .pointer (some ⟨p, 0, none⟩) := many_eval3 hgN (HOK.out z) (by rw [HVL.out]; rfl) y7
        refine opIn_call (f := 33) (args := #[.pointer (some ⟨p, 0, none⟩), .int .i64 2]) (w' := w') rfl rfl (fun c h => by cases h) (fun _ => trivial) rfl (by go_simp) ((callsIn_wide.2 (get2 hph.1.rd HO.out hln)).mono ?_)
        rintro e w2 ⟨rfl, hR_, hg_⟩
        exact ⟨_, rfl, z, by exact many_put3 (HOK.out _) (by rw [HVL.out]; rfl) hL, by simp only [upd, y7, n10, n11, hL, Nat.reduceBEq, cond_true, cond_false]; exact ⟨hph.1.get hR_ hg_, hph.2.trans (Eff.of_grown hg_)⟩⟩
      · skip
        have y8 : L 8 = true := up_at hu 8 (by kernel_rfl)
        have n10 : L 10 = false := not_yet hL fun h => shut_at hs 10 9 (by kernel_rfl) (h)
        have n11 : L 11 = false := not_yet hL fun h => shut_at hs 11 9 (by kernel_rfl) (h)
        try simp only [y8, n10, n11, hL, cond_true, cond_false] at hph
        have e30 : (many gg_ L (VL z))[30]?.getD undef = .int .i64 (a * 256 + b) := many_eval3 hgN (HOK.out z) (by rw [HVL.out]; rfl) y8
        refine opIn_run (v := .int .i64 k2) (w' := w') rfl rfl (fun c h => by cases h) (fun _ => trivial) ?_ ⟨z, by exact many_put3 (HOK.out _) (by rw [HVL.out]; rfl) hL, by simp only [upd, y8, n10, n11, hL, Nat.reduceBEq, cond_true, cond_false]; exact hph⟩
        have hL_ := HL.out
        have hb9 : -9223372036854775808 ≤ k2 ∧ k2 ≤ 9223372036854775807 := by omega
        go_simp
        first | done | exact IntWalk.i64_in _ hb9 | (rw [hL_]; exact IntWalk.i64_in _ hb9)
      · skip
        have y3 : L 3 = true := up_at hu 3 (by kernel_rfl)
        have y8 : L 8 = true := up_at hu 8 (by kernel_rfl)
        have y9 : L 9 = true := up_at hu 9 (by kernel_rfl)
        have n11 : L 11 = false := not_yet hL fun h => shut_at hs 11 10 (by kernel_rfl) (h)
        try simp only [y3, y8, y9, n11, hL, cond_true, cond_false] at hph
        have e25 : (many gg_ L (VL z))[25]?.getD undef = .pointer (some ⟨p, 0, none⟩) := many_eval3 hgN (HOK.out z) (by rw [HVL.out]; rfl) y3
        have e31 : (many gg_ L (VL z))[31]?.getD undef = .int .i64 k2 := many_eval3 hgN (HOK.out z) (by rw [HVL.out]; rfl) y9
        refine opIn_call (f := 63) (args := #[.pointer (some ⟨p, 0, none⟩), .int .i64 k2]) (w' := w') rfl rfl (fun c h => by cases h) (fun _ => trivial) rfl (by go_simp) ((callsIn_wide.2 (take_long k2 hph.1 hk2 hln)).mono ?_)
        rintro e w2 ⟨rfl, h1_, h2_⟩
        exact ⟨_, rfl, z, by exact many_put3 (HOK.out _) (by rw [HVL.out]; rfl) hL, by simp only [upd, y3, y8, y9, n11, hL, Nat.reduceBEq, cond_true, cond_false]; exact ⟨h1_, hph.2.trans h2_⟩⟩
      · skip
        have y0 : L 0 = true := up_at hu 0 (by kernel_rfl)
        have y1 : L 1 = true := up_at hu 1 (by kernel_rfl)
        have y2 : L 2 = true := up_at hu 2 (by kernel_rfl)
        have y3 : L 3 = true := up_at hu 3 (by kernel_rfl)
        have y4 : L 4 = true := up_at hu 4 (by kernel_rfl)
        have y5 : L 5 = true := up_at hu 5 (by kernel_rfl)
        have y6 : L 6 = true := up_at hu 6 (by kernel_rfl)
        have y7 : L 7 = true := up_at hu 7 (by kernel_rfl)
        have y8 : L 8 = true := up_at hu 8 (by kernel_rfl)
        have y9 : L 9 = true := up_at hu 9 (by kernel_rfl)
        have y10 : L 10 = true := up_at hu 10 (by kernel_rfl)
        try simp only [y0, y1, y2, y3, y4, y5, y6, y7, y8, y9, y10, hL, cond_true, cond_false] at hph
        have e32 : (many gg_ L (VL z))[32]?.getD undef = .slice none 0 0 := many_eval3 hgN (HOK.out z) (by rw [HVL.out]; rfl) y10
        refine opIn_run (v := .slice none 0 0) (w' := w') rfl rfl (fun c h => by cases h) (fun _ => trivial) ?_ ⟨z, by exact many_put3 (HOK.out _) (by rw [HVL.out]; rfl) hL, by simp only [upd, y0, y1, y2, y3, y4, y5, y6, y7, y8, y9, y10, hL, Nat.reduceBEq, cond_true, cond_false]; exact hph⟩
        go_simp
    case fin =>
      intro L z w' hall hph
      have l8 := hall 8 (by decide)
      have l10 := hall 10 (by decide)
      simp only [l8, l10, cond_true] at hph
      clear l8 l10
      rw [HVL.out]
      dsimp only [manyL, List.set_cons_zero, List.set_cons_succ]
      clear hall HVL HOK HVI
      obtain ⟨hps, hef⟩ := hph
      obtain ⟨w2, hw2⟩ : ∃ W_, W_ = w' := ⟨_, rfl⟩
      subst hw2
      obtain ⟨l9, hr9, hl9⟩ := hps.rd
      have ED := Lib.hid (end_any hr9 (by omega))
      have hee : endE l9.length 8 = 8 := by simp [endE]
      rw [hee] at ED
      have HE2 := Lib.hid hef
      have c0 := rb_cell hps.pb 0
      simp only [List.getElem?_toArray, List.getElem?_cons_succ, List.getElem?_cons_zero] at c0
      clear hps hef hr9 hee
      go_wp2_with fail
      refine ED.out.mono ?_
      rintro e_ wx ⟨rfl, nd, rfl⟩
      have HE3 : Hid (Eff [p] w (w2.drewN nd)) := Lib.hid (HE2.out.trans (Eff.of_below (below_drewN (Below.refl _ _) nd)))
      clear ED c0
      go_wp2
      go_ret
      first | exact ⟨rfl, HE3.out⟩ | exact HE3.out
set_option maxHeartbeats 8000000 in
theorem seg_mark (P : Nat) (mk : Int) (w : World) (hmk : 0 ≤ mk ∧ mk < 65280) :
    Calls Try.prog 34 #[.pointer (some ⟨P, 0, none⟩), .int .i64 mk] w fun e w' => e = .returned (.int .i64 10) ∧ w = w' := by
  have hsh : ¬ mk / 256 = 255 := by omega
  go_enter Try.func34, Try.ntmps34
  go_wp2
  go_ret
  first | done | exact ⟨rfl, rfl⟩ | rfl
set_option maxHeartbeats 8000000 in
theorem seg_no (P : Nat) (mk : Int) (w : World) (hmk : 65280 ≤ mk ∧ mk ≤ 65535) (hA : Calls Try.prog 62 #[.pointer (some ⟨P, 0, none⟩), .int .i64 mk] w fun e w' => e = .returned (.bool false) ∧ w = w') :
    Calls Try.prog 34 #[.pointer (some ⟨P, 0, none⟩), .int .i64 mk] w fun e w' => e = .returned (.int .i64 10) ∧ w = w' := by
  have hsh : mk / 256 = 255 := by omega
  have HA := Lib.hid hA
  clear hA
  go_enter Try.func34, Try.ntmps34
  go_wp2_with fail
  refine HA.out.mono ?_
  rintro e_ w1 ⟨rfl, rfl⟩
  go_wp2
  go_ret
  first | done | exact ⟨rfl, rfl⟩ | rfl
set_option maxHeartbeats 8000000 in
theorem seg_alone (P : Nat) (mk : Int) (w : World) (hmk : 65328 ≤ mk ∧ mk ≤ 65343) :
    Calls Try.prog 34 #[.pointer (some ⟨P, 0, none⟩), .int .i64 mk] w fun e w' => e = .returned (.int .i64 0) ∧ w = w' := by
  have hsh : mk / 256 = 255 := by omega
  have HA := Lib.hid (allows_yes P mk w (by omega))
  go_enter Try.func34, Try.ntmps34
  go_wp2_with fail
  refine HA.out.mono ?_
  rintro e_ w1 ⟨rfl, rfl⟩
  go_wp2
  go_ret
  first | done | exact ⟨rfl, rfl⟩ | rfl
end
end
section
open Go.RowKit
set_option maxRecDepth 100000
/-- What a parser says. -/
structure Sa where
  X : Int
  Y : Int
  OX : Int
  OY : Int
  TX : Int
  TY : Int
  LV : Int
  BW : Int
  BH : Int
  PR : Int
  ST : Int
  OD : Int
  LY : Int
  RC : Bool
  SO : Bool
  EP : Bool
  cs : List Cp
  com : List Int
  sz : Bool
  cd : Bool
  qc : Option (List Int)
def Sa.zero : Sa := ⟨0, 0, 0, 0, 0, 0, 0, 0, 0, 0, 0, 0, 0, false, false, false, [], [], false, false, none⟩
@[reducible] def Sa.cells (s : Sa) (p m : Nat) (A : Option Addr) (C : Nat) (SA : Option Addr) (sc : Nat) : Array Value :=
  #[.pointer (some ⟨p, 0, none⟩), .int .i64 s.X, .int .i64 s.Y, .int .i64 s.OX, .int .i64 s.OY, .slice A s.cs.length C, .int .i64 s.TX, .int .i64 s.TY, .int .i64 s.LV, .int .i64 s.BW, .int .i64 s.BH, .int .i64 s.PR, .int .i64 s.ST, .int .i64 s.OD, .int .i64 s.LY, .bool s.RC, .bool s.SO, .bool s.EP, .slice SA s.com.length sc, .map (some m)]
/-- Bytes that can be read, above a block. -/
def Rdb (w : World) (P : Nat) (A : Option Addr) (L : List Int) : Prop := ∀ (i : Nat) (u : Int), L[i]? = some u → ∃ g o, A = some ⟨g, o, none⟩ ∧ P < g ∧ g < w.heap.size ∧ w.cell? ⟨g, o + i, none⟩ = some (.int .u8 u)
theorem Rdb.keep {w w' : World} {P : Nat} {A : Option Addr} {L : List Int} (h : Rdb w P A L) (hs : w.heap.size ≤ w'.heap.size) (hk : ∀ k, P < k → k < w.heap.size → w'.heap[k]? = w.heap[k]?) : Rdb w' P A L := fun i u hu => by
  obtain ⟨g, o, h1, h2, h3, h4⟩ := h i u hu
  have e := hk g h2 h3
  exact ⟨g, o, h1, h2, Nat.lt_of_lt_of_le h3 hs, by rw [← h4]; simp [World.cell?, e]⟩
theorem lookE_app (k : Int) (x : Int × Value × Nat) : ∀ (E : List (Int × Value × Nat)) (i : Nat), lookE (E ++ [x]) k i = match lookE E k i with
    | some r => some r
    | none => if k = x.1 then some (i + E.length, x.2.1) else none
  | [], i => by simp [lookE]
  | y :: E, i => by
    have ih := lookE_app k x E (i + 1)
    rw [List.cons_append, lookE, lookE]
    by_cases h : k = y.1
    · simp [h]
    · simp only [h, if_false]
      rw [ih, show i + 1 + E.length = i + (y :: E).length by simp; omega]
/-- What its map says. -/
structure MK (w : World) (P : Nat) (E : List (Int × Value × Nat)) (s : Sa) : Prop where
  z : (lookE E 65361 0).isSome = s.sz
  c : (lookE E 65362 0).isSome = s.cd
  qn : s.qc = none → lookE E 65372 0 = none
  qs : ∀ L, s.qc = some L → ∃ (j : Nat) (A : Option Addr) (c : Nat), lookE E 65372 0 = some (j, .slice A L.length c) ∧ w.ownsRow (P + 1) 5 1 (.slice A L.length c) L.length (L.map (Value.int .u8))
def PSt (w : World) (P p m lo : Nat) (l : List Int) (s : Sa) : Prop := ∃ (A : Option Addr) (C : Nat) (SA : Option Addr) (sc : Nat) (E : List (Int × Value × Nat)) (es : Array MapEntry) (ck : Nat),
  PS w P p m lo l (s.cells p m A C SA sc) es ck ∧ es.toList = E.map mkE ∧ CRow (P + 1) w (.slice A s.cs.length C) s.cs ∧ Rdb w P SA s.com ∧ MK w P E s
theorem MK.keep {w w' : World} {P : Nat} {E : List (Int × Value × Nat)} {s : Sa} (h : MK w P E s) (hs : w.heap.size ≤ w'.heap.size) (hk : ∀ k, P < k → k < w.heap.size → w'.heap[k]? = w.heap[k]?) : MK w' P E s :=
  ⟨h.z, h.c, h.qn, fun L hL => by
    obtain ⟨j, A, c, h1, h2⟩ := h.qs L hL
    exact ⟨j, A, c, h1, ownsRow_keep h2 hs (fun k e => hk k (by have := (own_lt h2 e).1; omega) (own_lt h2 e).2)⟩⟩
theorem none_of {E : List (Int × Value × Nat)} {k : Int} (h : (lookE E k 0).isSome = false) : lookE E k 0 = none := by
  cases h2 : lookE E k 0 with
  | none => rfl
  | some r => rw [h2] at h; cases h
theorem Eff.hi {bs : List Nat} {w w' : World} {P : Nat} (h : Eff bs w w') (hb : ∀ k ∈ bs, k ≤ P) : ∀ k, P < k → k < w.heap.size → w'.heap[k]? = w.heap[k]? := fun k h1 h2 => h.block k h2 (fun h3 => by have := hb k h3; omega)
theorem PS.eff {w w' : World} {P p m lo clock ck' : Nat} {l : List Int} {cells cells' : Array Value} {es es' : Array MapEntry} (h : PS w P p m lo l cells es clock) (h1 : w'.heap[P]? = some (.cells cells' 69 (0, 0))) (h2 : w'.heap[m]? = some (.map es' ck')) (he : Eff [P, m] w w') : PS w' P p m lo l cells' es' ck' := by
  have hs := h.sep
  have hl := h.rd.lt
  exact ⟨h1, h.rd.keep (fun k h3 h4 => he.block k (by omega) (by simp; omega)), h2, hs⟩
theorem push_list {es : Array MapEntry} {E : List (Int × Value × Nat)} (h : es.toList = E.map mkE) (k : Int) (v : Value) (c : Nat) : (es.push ⟨.int .i64 k, v, c⟩).toList = (E ++ [(k, v, c)]).map mkE := by
  rw [Array.toList_push, h, List.map_append]
  rfl
section
variable {w : World} {P p m lo : Nat} {s : Sa} {a b : Int} {tl : List Int}
set_option maxHeartbeats 4000000 in
theorem segS_cod (LV PR : Nat) (mk od la lb tn lv cw ch st : Int) (SO EP RC : Bool) (ct : List Int) (hct : [mk, od, la, lb, tn, lv, cw, ch, st, 1] ++ List.replicate (LV + 1) (17 * (PR : Int)) = ct) (H : PSt w P p m lo (a :: b :: (ct ++ tl)) s) (hO : Oct (a :: b :: (ct ++ tl))) (hL : a * 256 + b = (ct.length : Int) + 2) (hlen : (ct ++ tl).length ≤ 1000000) (hcd : s.cd = false)
    (hmk : mk = 1 + (if SO then 2 else 0) + (if EP then 4 else 0)) (htn : tn = if RC then 1 else 0) (hlv : lv = (LV : Int)) (hLV : LV ≤ 40) (hPR : 1 ≤ PR ∧ PR ≤ 15) (hod : 0 ≤ od ∧ od ≤ 255) (hla : 0 ≤ la ∧ la ≤ 255) (hlb : 0 ≤ lb ∧ lb ≤ 255) (hly : 1 ≤ la * 256 + lb ∧ la * 256 + lb ≤ 8) (hcw : 0 ≤ cw ∧ cw ≤ 255) (hch : 0 ≤ ch ∧ ch ≤ 255) (hst : 0 ≤ st ∧ st ≤ 63) :
    Calls Try.prog 34 #[.pointer (some ⟨P, 0, none⟩), .int .i64 65362] w fun e w' => e = .returned (.int .i64 0) ∧ PSt w' P p m lo tl { s with LV := lv, BW := cw + 2, BH := ch + 2, PR := (PR : Int), ST := st, OD := od, LY := la * 256 + lb, RC := RC, SO := SO, EP := EP, cd := true } ∧ Eff [p, P, m] w w' := by
  obtain ⟨A, C, SA, sc, E, es, ck, h1, h2, h3, h4, h5⟩ := H
  have hn : lookE E 65362 0 = none := none_of (h5.c.trans hcd)
  have hf : Instr.findNow (.int .i64) (.int .i64 65362) es.toList 0 = some none := by rw [h2, find_map, hn]
  have hps := h1.sep
  have hctl : LV + 11 = ct.length := by rw [← hct]; simp
  have hw9 : ct[9]? = some 1 := by rw [← hct]; rfl
  refine (seg_flow P p m lo ck 65362 a b ct tl es _ _ _ _ _ _ _ _ _ _ _ _ _ _ _ _ _ _ w false (fun A' c' w2 ok w' => ok = true ∧ w'.heap[P]? = some (.cells (({ s with LV := lv, BW := cw + 2, BH := ch + 2, PR := (PR : Int), ST := st, OD := od, LY := la * 256 + lb, RC := RC, SO := SO, EP := EP, cd := true } : Sa).cells p m A C SA sc) 69 (0, 0)) ∧ w'.heap[m]? = some (.map (es.push ⟨.int .i64 65362, .slice A' ct.length c', ck⟩) (ck + 1)) ∧ Eff [P, m] w2 w') h1 hO hL hlen (by decide) (by decide)
    (allows_new P m ck es 65362 w (.inr (.inl rfl)) (rb_cell h1.pb 19) h1.mp hf)
    (fun A' c' w2 ho => by
      have hk := other_cod A' ct.length c' ct w2 rfl (Lst.own ho)
      refine hk.mono ?_
      rintro e w' ⟨rfl, rfl⟩
      have hg : ct.getD 9 0 = 1 := by simp [List.getD, hw9]
      rw [hg]
      exact ⟨by simp, rfl⟩)
    (fun _ A' c' w2 hp2 ho => by
      refine (keep_cod P m ck ct.length c' es A' LV PR mk od la lb tn lv cw ch st SO EP RC _ _ _ _ _ _ _ _ _ _ _ _ _ _ _ _ _ _ _ w2 hp2.pb hp2.mp hps.2 hf (by rw [hct]; exact ho) hctl hmk htn hlv hLV hPR hod hla hlb hly hcw hch hst).mono ?_
      rintro e w' ⟨rfl, k1, k2, k3⟩
      exact ⟨true, rfl, rfl, k1, k2, k3⟩)).mono ?_
  rintro e w' ⟨A', c', w2, hp2, ho2, he2, hh⟩
  rcases hh with ⟨hh, _⟩ | ⟨_, ok, rfl, hok, k1, k2, k3⟩
  · cases hh
  · subst hok
    have hsz := he2.size
    have hlow : ∀ k ∈ [p], k ≤ P := fun k hk => by simp at hk; omega
    have hlow2 : ∀ k ∈ [P, m], k ≤ P := fun k hk => by simp at hk; omega
    have hi1 := he2.hi hlow
    have hi2 := k3.hi hlow2
    have hi : ∀ k, P < k → k < w.heap.size → w'.heap[k]? = w.heap[k]? := fun k q1 q2 => (hi2 k q1 (Nat.lt_of_lt_of_le q2 hsz)).trans (hi1 k q1 q2)
    have hs2 : w.heap.size ≤ w'.heap.size := Nat.le_trans hsz k3.size
    refine ⟨rfl, ⟨A, C, SA, sc, E ++ [(65362, .slice A' ct.length c', ck)], _, _, hp2.eff k1 k2 k3, push_list h2 _ _ _, h3.keepB hs2 (fun k q1 q2 => hi k (by omega) q2), h4.keep hs2 hi, ?_⟩, (he2.more (by simp)).trans (k3.more (by simp))⟩
    have h6 := h5.keep hs2 hi
    refine ⟨?_, ?_, fun hq => ?_, fun L hL' => ?_⟩
    · rw [lookE_app]; rw [← h6.z]; cases lookE E 65361 0 <;> simp
    · rw [lookE_app, hn]; simp
    · rw [lookE_app, h6.qn hq]; simp
    · obtain ⟨j, A9, c9, g1, g2⟩ := h6.qs L hL'
      exact ⟨j, A9, c9, by rw [lookE_app, g1], g2⟩
set_option maxHeartbeats 4000000 in
theorem otherq (ct : List Int) (hO : Oct ct) (A : Option Addr) (c : Nat) (w2 : World) (ow : Bool) (how : ow = (ct.head?.getD 0 % 32 != 0)) (ho : w2.ownsRow (P + 1) 5 1 (.slice A ct.length c) ct.length (ct.map (Value.int .u8))) :
    Calls Try.prog 65 #[.int .i64 65372, .slice A ct.length c] w2 fun e w' => e = .returned (.bool ow) ∧ w2 = w' := by
  subst how
  cases ct with
  | nil => exact other_qnil A c w2
  | cons x t =>
    have hx := hO.hd
    obtain ⟨n, rfl⟩ : ∃ n : Nat, x = (n : Int) := ⟨x.toNat, by omega⟩
    exact other_qcd A _ c n t w2 rfl (by omega) (Lst.own ho)
set_option maxHeartbeats 4000000 in
theorem segS_qcd (ct : List Int) (H : PSt w P p m lo (a :: b :: (ct ++ tl)) s) (hO : Oct (a :: b :: (ct ++ tl))) (hL : a * 256 + b = (ct.length : Int) + 2) (hlen : (ct ++ tl).length ≤ 1000000) (hq : s.qc = none) (hw : ct.head?.getD 0 % 32 = 0) :
    Calls Try.prog 34 #[.pointer (some ⟨P, 0, none⟩), .int .i64 65372] w fun e w' => e = .returned (.int .i64 0) ∧ PSt w' P p m lo tl { s with qc := some ct } ∧ Eff [p, P, m] w w' := by
  obtain ⟨A, C, SA, sc, E, es, ck, h1, h2, h3, h4, h5⟩ := H
  have hn : lookE E 65372 0 = none := h5.qn hq
  have hf : Instr.findNow (.int .i64) (.int .i64 65372) es.toList 0 = some none := by rw [h2, find_map, hn]
  have hps := h1.sep
  refine (seg_flow P p m lo ck 65372 a b ct tl es _ _ _ _ _ _ _ _ _ _ _ _ _ _ _ _ _ _ w false (fun A' c' w2 ok w' => ok = true ∧ w'.heap[P]? = some (.cells (s.cells p m A C SA sc) 69 (0, 0)) ∧ w'.heap[m]? = some (.map (es.push ⟨.int .i64 65372, .slice A' ct.length c', ck⟩) (ck + 1)) ∧ Eff [m] w2 w') h1 hO hL hlen (by decide) (by decide)
    (allows_new P m ck es 65372 w (.inr (.inr rfl)) (rb_cell h1.pb 19) h1.mp hf)
    (fun A' c' w2 ho => otherq ct (fun x hx => hO x (by simp [hx])) A' c' w2 false (by rw [hw]; rfl) ho)
    (fun _ A' c' w2 hp2 ho => by
      refine (keep_qcd P m ck ct.length c' es A' _ _ _ _ _ _ _ _ _ _ _ _ _ _ _ _ _ _ _ w2 hp2.pb hp2.mp hps.2 hf).mono ?_
      rintro e w' ⟨rfl, k1, k2, k3⟩
      exact ⟨true, rfl, rfl, k1, k2, k3⟩)).mono ?_
  rintro e w' ⟨A', c', w2, hp2, ho2, he2, hh⟩
  rcases hh with ⟨hh, _⟩ | ⟨_, ok, rfl, hok, k1, k2, k3⟩
  · cases hh
  · subst hok
    have hlow2 : ∀ k ∈ [m], k ≤ P := fun k hk => by simp at hk; omega
    have hsz := he2.size
    have hlow : ∀ k ∈ [p], k ≤ P := fun k hk => by simp at hk; omega
    have hi1 := he2.hi hlow
    have hi2 := k3.hi hlow2
    have hi : ∀ k, P < k → k < w.heap.size → w'.heap[k]? = w.heap[k]? := fun k q1 q2 => (hi2 k q1 (Nat.lt_of_lt_of_le q2 hsz)).trans (hi1 k q1 q2)
    have hs2 : w.heap.size ≤ w'.heap.size := Nat.le_trans hsz k3.size
    have h6 := h5.keep hs2 hi
    refine ⟨rfl, ⟨A, C, SA, sc, E ++ [(65372, .slice A' ct.length c', ck)], _, _, hp2.eff k1 k2 (k3.more (by simp)), push_list h2 _ _ _, h3.keepB hs2 (fun k q1 q2 => hi k (by omega) q2), h4.keep hs2 hi, ?_⟩, (he2.more (by simp)).trans (k3.more (by simp))⟩
    refine ⟨?_, ?_, fun hq => (by cases hq), fun L hL' => ?_⟩
    · rw [lookE_app]; rw [← h6.z]; cases lookE E 65361 0 <;> simp
    · rw [lookE_app]; rw [← h6.c]; cases lookE E 65362 0 <;> simp
    · injection hL' with hL'
      subst hL'
      exact ⟨_, A', c', by rw [lookE_app, hn]; rfl, ownsRow_keep ho2 k3.size (fun k e => hi2 k (by have := (own_lt ho2 e).1; omega) (own_lt ho2 e).2)⟩
set_option maxHeartbeats 4000000 in
theorem segS_qway (ct : List Int) (H : PSt w P p m lo (a :: b :: (ct ++ tl)) s) (hO : Oct (a :: b :: (ct ++ tl))) (hL : a * 256 + b = (ct.length : Int) + 2) (hlen : (ct ++ tl).length ≤ 1000000) (hq : s.qc = none) (hw : ct.head?.getD 0 % 32 ≠ 0) :
    Calls Try.prog 34 #[.pointer (some ⟨P, 0, none⟩), .int .i64 65372] w fun e w' => e = .returned (.int .i64 13) ∧ Eff [p, P, m] w w' := by
  obtain ⟨A, C, SA, sc, E, es, ck, h1, h2, h3, h4, h5⟩ := H
  have hn : lookE E 65372 0 = none := h5.qn hq
  have hf : Instr.findNow (.int .i64) (.int .i64 65372) es.toList 0 = some none := by rw [h2, find_map, hn]
  have hps := h1.sep
  refine (seg_flow P p m lo ck 65372 a b ct tl es _ _ _ _ _ _ _ _ _ _ _ _ _ _ _ _ _ _ w true (fun A' c' w2 ok w' => True) h1 hO hL hlen (by decide) (by decide)
    (allows_new P m ck es 65372 w (.inr (.inr rfl)) (rb_cell h1.pb 19) h1.mp hf)
    (fun A' c' w2 ho => otherq ct (fun x hx => hO x (by simp [hx])) A' c' w2 true (by simp [hw]) ho)
    (fun h => by cases h)).mono ?_
  rintro e w' ⟨A', c', w2, hp2, ho2, he2, hh⟩
  rcases hh with ⟨_, rfl, rfl⟩ | ⟨hh, _⟩
  · exact ⟨rfl, he2.more (by simp)⟩
  · cases hh
set_option maxHeartbeats 4000000 in
theorem segS_cway (ct : List Int) (H : PSt w P p m lo (a :: b :: (ct ++ tl)) s) (hO : Oct (a :: b :: (ct ++ tl))) (hL : a * 256 + b = (ct.length : Int) + 2) (hlen : (ct ++ tl).length ≤ 1000000) (hcd : s.cd = false) (hc10 : 10 ≤ ct.length) (hw : ct.getD 9 0 = 0) :
    Calls Try.prog 34 #[.pointer (some ⟨P, 0, none⟩), .int .i64 65362] w fun e w' => e = .returned (.int .i64 13) ∧ Eff [p, P, m] w w' := by
  obtain ⟨A, C, SA, sc, E, es, ck, h1, h2, h3, h4, h5⟩ := H
  have hn : lookE E 65362 0 = none := none_of (h5.c.trans hcd)
  have hf : Instr.findNow (.int .i64) (.int .i64 65362) es.toList 0 = some none := by rw [h2, find_map, hn]
  have hps := h1.sep
  refine (seg_flow P p m lo ck 65362 a b ct tl es _ _ _ _ _ _ _ _ _ _ _ _ _ _ _ _ _ _ w true (fun A' c' w2 ok w' => True) h1 hO hL hlen (by decide) (by decide)
    (allows_new P m ck es 65362 w (.inr (.inl rfl)) (rb_cell h1.pb 19) h1.mp hf)
    (fun A' c' w2 ho => by
      refine (other_cod A' ct.length c' ct w2 rfl (Lst.own ho)).mono ?_
      rintro e w' ⟨rfl, rfl⟩
      rw [hw]
      exact ⟨by simp [hc10], rfl⟩)
    (fun h => by cases h)).mono ?_
  rintro e w' ⟨A', c', w2, hp2, ho2, he2, hh⟩
  rcases hh with ⟨_, rfl, rfl⟩ | ⟨hh, _⟩
  · exact ⟨rfl, he2.more (by simp)⟩
  · cases hh
set_option maxHeartbeats 4000000 in
theorem segS_siz (x0 x1 x2 x3 y0 y1 y2 y3 p0 p1 p2 p3 r0 r1 r2 r3 s0 s1 s2 s3 t0 t1 t2 t3 n0 n1 : Int) (X Y OX OY TX TY : Int) (zs : List (Int × Int × Int)) (ct : List Int) (hct : [0, 0, x0, x1, x2, x3, y0, y1, y2, y3, p0, p1, p2, p3, r0, r1, r2, r3, s0, s1, s2, s3, t0, t1, t2, t3, 0, 0, 0, 0, 0, 0, 0, 0, n0, n1] ++ zs.flatMap trip = ct) (H : PSt w P p m lo (a :: b :: (ct ++ tl)) s) (hO : Oct (a :: b :: (ct ++ tl))) (hL : a * 256 + b = (ct.length : Int) + 2) (hlen : (ct ++ tl).length ≤ 1000000) (hsz : s.sz = false)
    (hX : (((x0 * 256 + x1) * 256 + x2) * 256 + x3) = X) (hY : (((y0 * 256 + y1) * 256 + y2) * 256 + y3) = Y) (hOX : (((p0 * 256 + p1) * 256 + p2) * 256 + p3) = OX) (hOY : (((r0 * 256 + r1) * 256 + r2) * 256 + r3) = OY) (hTX : (((s0 * 256 + s1) * 256 + s2) * 256 + s3) = TX) (hTY : (((t0 * 256 + t1) * 256 + t2) * 256 + t3) = TY) (hnn : n0 * 256 + n1 = (zs.length : Int)) (hzl : zs.length ≤ 1000)
    (hOc : Oct ([0, 0, x0, x1, x2, x3, y0, y1, y2, y3, p0, p1, p2, p3, r0, r1, r2, r3, s0, s1, s2, s3, t0, t1, t2, t3, 0, 0, 0, 0, 0, 0, 0, 0, n0, n1])) (hOz : ∀ z ∈ zs, (0 ≤ z.1 ∧ z.1 ≤ 255) ∧ (0 ≤ z.2.1 ∧ z.2.1 ≤ 255) ∧ (0 ≤ z.2.2 ∧ z.2.2 ≤ 255)) :
    Calls Try.prog 34 #[.pointer (some ⟨P, 0, none⟩), .int .i64 65361] w fun e w' => e = .returned (.int .i64 0) ∧ PSt w' P p m lo tl { s with X := X, Y := Y, OX := OX, OY := OY, TX := TX, TY := TY, cs := zs.map cpOf, sz := true } ∧ Eff [p, P, m] w w' := by
  obtain ⟨A, C, SA, sc, E, es, ck, h1, h2, h3, h4, h5⟩ := H
  have hn : lookE E 65361 0 = none := none_of (h5.z.trans hsz)
  have hf : Instr.findNow (.int .i64) (.int .i64 65361) es.toList 0 = some none := by rw [h2, find_map, hn]
  have hps := h1.sep
  have hctl : 36 + zs.length * 3 = ct.length := by rw [← hct, List.length_append, trip_len]; rfl
  refine (seg_flow P p m lo ck 65361 a b ct tl es _ _ _ _ _ _ _ _ _ _ _ _ _ _ _ _ _ _ w false (fun A' c' w2 ok w' => ∃ (CA : Option Addr) (cc : Nat), ok = true ∧ w'.heap[P]? = some (.cells (({ s with X := X, Y := Y, OX := OX, OY := OY, TX := TX, TY := TY, cs := zs.map cpOf, sz := true } : Sa).cells p m CA cc SA sc) 69 (0, 0)) ∧ w'.heap[m]? = some (.map (es.push ⟨.int .i64 65361, .slice A' ct.length c', ck⟩) (ck + 1)) ∧ CRow w2.heap.size w' (.slice CA (zs.map cpOf).length cc) (zs.map cpOf) ∧ Eff [P, m] w2 w') h1 hO hL hlen (by decide) (by decide)
    (allows_new P m ck es 65361 w (.inl rfl) (rb_cell h1.pb 19) h1.mp hf)
    (fun A' c' w2 ho => other_no 65361 _ w2 (by decide))
    (fun _ A' c' w2 hp2 ho => by
      refine (keep_siz P m ck ct.length c' es A' x0 x1 x2 x3 y0 y1 y2 y3 p0 p1 p2 p3 r0 r1 r2 r3 s0 s1 s2 s3 t0 t1 t2 t3 n0 n1 X Y OX OY TX TY zs _ _ _ _ _ _ _ _ _ _ _ _ _ _ _ _ _ _ _ w2 hp2.pb hp2.mp hps.2 hf (by rw [hct]; exact ho) hctl hX hY hOX hOY hTX hTY hnn hzl hOc hOz).mono ?_
      rintro e w' ⟨CA, cc, rfl, k1, k2, k4, k3⟩
      have hlz : (zs.map cpOf).length = zs.length := List.length_map _
      exact ⟨true, rfl, CA, cc, rfl, by simpa only [Sa.cells, hlz] using k1, k2, by rw [hlz]; exact k4, k3⟩)).mono ?_
  rintro e w' ⟨A', c', w2, hp2, ho2, he2, hh⟩
  rcases hh with ⟨hh, _⟩ | ⟨_, ok, rfl, CA, cc, hok, k1, k2, k4, k3⟩
  · cases hh
  · subst hok
    have hlow2 : ∀ k ∈ [P, m], k ≤ P := fun k hk => by simp at hk; omega
    have hP2 : P + 1 ≤ w2.heap.size := blk_lt hp2.pb
    have hsz := he2.size
    have hlow : ∀ k ∈ [p], k ≤ P := fun k hk => by simp at hk; omega
    have hi1 := he2.hi hlow
    have hi2 := k3.hi hlow2
    have hi : ∀ k, P < k → k < w.heap.size → w'.heap[k]? = w.heap[k]? := fun k q1 q2 => (hi2 k q1 (Nat.lt_of_lt_of_le q2 hsz)).trans (hi1 k q1 q2)
    have hs2 : w.heap.size ≤ w'.heap.size := Nat.le_trans hsz k3.size
    have h6 := h5.keep hs2 hi
    refine ⟨rfl, ⟨CA, cc, SA, sc, E ++ [(65361, .slice A' ct.length c', ck)], _, _, hp2.eff k1 k2 k3, push_list h2 _ _ _, ⟨own_lowq k4.own hP2, fun c hc => by
      obtain ⟨l, g1, g2⟩ := k4.dat c hc
      exact ⟨l, own_lowq g1 hP2, g2⟩⟩, h4.keep hs2 hi, ?_⟩, (he2.more (by simp)).trans (k3.more (by simp))⟩
    refine ⟨?_, ?_, fun hq => ?_, fun L hL' => ?_⟩
    · rw [lookE_app, hn]; simp
    · rw [lookE_app]; rw [← h6.c]; cases lookE E 65362 0 <;> simp
    · rw [lookE_app, h6.qn hq]; simp
    · obtain ⟨j, A9, c9, g1, g2⟩ := h6.qs L hL'
      exact ⟨j, A9, c9, by rw [lookE_app, g1], g2⟩
end
end
end
section
open Go.RowKit
set_option maxRecDepth 100000
/-- What one segment does: its error, what is said behind it, what is left. -/
def SegC (s : Sa) (mk : Int) (l : List Int) (e : Int) (s' : Sa) (l' : List Int) : Prop := ∀ (w : World) (P p m lo : Nat), PSt w P p m lo l s →
  Calls Try.prog 34 #[.pointer (some ⟨P, 0, none⟩), .int .i64 mk] w fun r w' => r = .returned (.int .i64 e) ∧ (e = 0 → PSt w' P p m lo l' s') ∧ Eff [p, P, m] w w'
/-- A run over segments, n of them: its error, or what is said as a tile begins. -/
inductive Run : Nat → Sa → Int → List Int → Int → Sa → List Int → Prop
  | sot (n : Nat) (s : Sa) (l : List Int) : Run n s 65424 l 0 s l
  | fail (n : Nat) (s : Sa) (mk : Int) (l : List Int) (e : Int) (s' : Sa) (l' : List Int) : mk ≠ 65424 → e ≠ 0 → SegC s mk l e s' l' → Run (n + 1) s mk l e s' l'
  | next (n : Nat) (s s' s2 : Sa) (mk a b : Int) (l l' l2 : List Int) (e : Int) : mk ≠ 65424 → SegC s mk l 0 s' (a :: b :: l') → Oct (a :: b :: l') → l'.length ≤ 1000000 → Run n s' (a * 256 + b) l' e s2 l2 → Run (n + 1) s mk l e s2 l2
  | cut (n : Nat) (s s' s2 : Sa) (mk : Int) (l l' l2 : List Int) : mk ≠ 65424 → SegC s mk l 0 s' l' → l'.length < 2 → Run (n + 2) s mk l 10 s2 l2
def FinC (s : Sa) (e : Int) : Prop := ∀ (w : World) (P p m lo : Nat) (l : List Int), PSt w P p m lo l s →
  Calls Try.prog 36 #[.pointer (some ⟨P, 0, none⟩)] w fun r w' => r = .returned (.int .i64 e) ∧ Below w.heap.size w w'
set_option maxHeartbeats 16000000 in
theorem parse_err (A : Option Addr) (N c n : Nat) (l0 l2 : List Int) (s2 : Sa) (er : Int) (u : World) (hN : (255 :: 79 :: 255 :: 81 :: l0).length = N) (hAn : A = none → N = 0 ∧ c = 0) (hNb : N ≤ 1000000) (hL : Lst u u.heap.size A ((255 :: 79 :: 255 :: 81 :: l0).map (Value.int .u8))) (hO : Oct (255 :: 79 :: 255 :: 81 :: l0))
    (hrun : Run n Sa.zero 65361 l0 er s2 l2) (her : er ≠ 0) :
    Calls Try.prog 16 #[.slice A N c] u fun e w' => ∃ cs : Array Value, e = .returned (.tuple #[.agg cs, .int .i64 0, .int .i64 er]) ∧ cs.size = 18 ∧ cs.all (·.oneCell') = true ∧ Below u.heap.size u w' := by
  obtain ⟨Z0, hZ0⟩ : ∃ Z0 : Array Value, #[.int .i64 0, .int .i64 0, .int .i64 0, .int .i64 0, .slice none 0 0, .int .i64 0, .int .i64 0, .int .i64 0, .int .i64 0, .int .i64 0, .int .i64 0, .int .i64 0, .int .i64 0, .int .i64 0, .bool false, .bool false, .bool false, .slice none 0 0] = Z0 := ⟨_, rfl⟩
  have hZ := Lib.hid hZ0
  clear hZ0
  have HO := Lib.hid hO
  have HRUN := Lib.hid hrun
  have hl0 : l0.length + 4 = N := by simpa using hN
  clear hO hrun
  have hmm := @run_makeMap Try.prog
  go_enter Try.func16, Try.ntmps16
  go_wp2_with fail
  have hA : Below u.heap.size u (u.alloc (Obj.cells #[.int .i64 0, .int .i64 0, .int .i64 0, .int .i64 0, .slice none 0 0, .int .i64 0, .int .i64 0, .int .i64 0, .int .i64 0, .int .i64 0, .int .i64 0, .int .i64 0, .int .i64 0, .int .i64 0, .bool false, .bool false, .bool false, .slice none 0 0] 33)) := (Below.refl _ _).alloc (Nat.le_refl _) _
  obtain ⟨U1, hU1⟩ : ∃ U1, u.alloc (Obj.cells #[.int .i64 0, .int .i64 0, .int .i64 0, .int .i64 0, .slice none 0 0, .int .i64 0, .int .i64 0, .int .i64 0, .int .i64 0, .int .i64 0, .int .i64 0, .int .i64 0, .int .i64 0, .int .i64 0, .bool false, .bool false, .bool false, .slice none 0 0] 33) = U1 := ⟨_, rfl⟩
  have hH : U1.heap[u.heap.size]? = some (.cells #[.int .i64 0, .int .i64 0, .int .i64 0, .int .i64 0, .slice none 0 0, .int .i64 0, .int .i64 0, .int .i64 0, .int .i64 0, .int .i64 0, .int .i64 0, .int .i64 0, .int .i64 0, .int .i64 0, .bool false, .bool false, .bool false, .slice none 0 0] 33 (0, 0)) := by rw [← hU1]; exact World.alloc_heap_new u _
  rw [hU1] at hA ⊢
  have HA := Lib.hid hA
  have HH := Lib.hid hH
  have hL1 := (hL.below hA).more hA.size
  clear hU1 hA hH hL
  refine (new_any A N c (255 :: 79 :: 255 :: 81 :: l0) U1 hN hAn hL1 (by omega)).mono ?_
  rintro e w2 ⟨p, rfl, hR, hb⟩
  have HR := Lib.hid hR
  have HB := Lib.hid hb
  have HP : Hid (U1.heap.size ≤ p ∧ p < w2.heap.size) := Lib.hid ⟨hR.1, hR.lt⟩
  have HH2 : Hid (w2.heap[u.heap.size]? = some (.cells #[.int .i64 0, .int .i64 0, .int .i64 0, .int .i64 0, .slice none 0 0, .int .i64 0, .int .i64 0, .int .i64 0, .int .i64 0, .int .i64 0, .int .i64 0, .int .i64 0, .int .i64 0, .int .i64 0, .bool false, .bool false, .bool false, .slice none 0 0] 33 (0, 0))) := Lib.hid ((hb.block _ (blk_lt HH.out)).trans HH.out)
  clear hR hb hL1
  go_upto_region 2 with fail
  have hB3 : Below w2.heap.size w2 ((w2.alloc (Obj.map #[] 0)).alloc (Obj.cells #[.pointer (some ⟨p, 0, none⟩), .int .i64 0, .int .i64 0, .int .i64 0, .int .i64 0, .slice none 0 0, .int .i64 0, .int .i64 0, .int .i64 0, .int .i64 0, .int .i64 0, .int .i64 0, .int .i64 0, .int .i64 0, .int .i64 0, .bool false, .bool false, .bool false, .slice none 0 0, .map (some w2.heap.size)] 69)) := ((Below.refl _ _).alloc (Nat.le_refl _) _).alloc (by unfold World.alloc; simp) _
  have hC3 : ((w2.alloc (Obj.map #[] 0)).alloc (Obj.cells #[.pointer (some ⟨p, 0, none⟩), .int .i64 0, .int .i64 0, .int .i64 0, .int .i64 0, .slice none 0 0, .int .i64 0, .int .i64 0, .int .i64 0, .int .i64 0, .int .i64 0, .int .i64 0, .int .i64 0, .int .i64 0, .int .i64 0, .bool false, .bool false, .bool false, .slice none 0 0, .map (some w2.heap.size)] 69)).heap[w2.heap.size + 1]? = some (.cells #[.pointer (some ⟨p, 0, none⟩), .int .i64 0, .int .i64 0, .int .i64 0, .int .i64 0, .slice none 0 0, .int .i64 0, .int .i64 0, .int .i64 0, .int .i64 0, .int .i64 0, .int .i64 0, .int .i64 0, .int .i64 0, .int .i64 0, .bool false, .bool false, .bool false, .slice none 0 0, .map (some w2.heap.size)] 69 (0, 0)) := by
    have := World.alloc_heap_new (w2.alloc (Obj.map #[] 0)) (Obj.cells #[.pointer (some ⟨p, 0, none⟩), .int .i64 0, .int .i64 0, .int .i64 0, .int .i64 0, .slice none 0 0, .int .i64 0, .int .i64 0, .int .i64 0, .int .i64 0, .int .i64 0, .int .i64 0, .int .i64 0, .int .i64 0, .int .i64 0, .bool false, .bool false, .bool false, .slice none 0 0, .map (some w2.heap.size)] 69)
    rwa [show (w2.alloc (Obj.map #[] 0)).heap.size = w2.heap.size + 1 from by unfold World.alloc; simp] at this
  obtain ⟨w3, hw3⟩ : ∃ w3, (w2.alloc (Obj.map #[] 0)).alloc (Obj.cells #[.pointer (some ⟨p, 0, none⟩), .int .i64 0, .int .i64 0, .int .i64 0, .int .i64 0, .slice none 0 0, .int .i64 0, .int .i64 0, .int .i64 0, .int .i64 0, .int .i64 0, .int .i64 0, .int .i64 0, .int .i64 0, .int .i64 0, .bool false, .bool false, .bool false, .slice none 0 0, .map (some w2.heap.size)] 69) = w3 := ⟨_, rfl⟩
  rw [hw3] at hB3 hC3 ⊢
  have HM3 : Hid (w3.heap[w2.heap.size]? = some (.map #[] 0)) := Lib.hid (by rw [← hw3]; exact (Below.heap_alloc _ _ _ (by unfold World.alloc; simp)).trans (World.alloc_heap_new w2 _))
  clear hw3
  have HC3 := Lib.hid hC3
  have HB3 := Lib.hid hB3
  have HR3 := Lib.hid (HR.out.below hB3 HP.out.2)
  have HH3 := Lib.hid ((hB3.block _ (blk_lt HH2.out)).trans HH2.out)
  clear hB3 hC3
  have hc0 : w3.cell? ⟨w2.heap.size + 1, 0, none⟩ = some (.pointer (some ⟨p, 0, none⟩)) := by rw [rb_cell HC3.out]; rfl
  go_wp2_with fail
  clear hc0
  have GT := Lib.hid (get2 HR3.out HO.out (by simp only [List.length_cons]; omega))
  rw [show (255 : Int) * 256 + 79 = 65359 from rfl] at GT
  refine GT.out.mono ?_
  rintro e w4 ⟨rfl, hR4, hg4⟩
  have HG4 := Lib.hid hg4
  have HR4 := Lib.hid hR4
  have HO4 := Lib.hid HO.out.tl.tl
  have HP4 : Hid (w4.heap[w2.heap.size + 1]? = some (.cells (Sa.zero.cells p w2.heap.size none 0 none 0) 69 (0, 0)) ∧ w4.heap[w2.heap.size]? = some (.map #[] 0)) := Lib.hid (by
    have h1 := HP.out.2
    refine ⟨(hg4.block _ (blk_lt HC3.out) (fun e => by injection e with e; omega)).trans HC3.out, (hg4.block _ (blk_lt HM3.out) (fun e => by injection e with e; omega)).trans HM3.out⟩)
  have HH4 := Lib.hid ((hg4.block _ (blk_lt HH3.out) (by have := HP.out.1; have := blk_lt HH.out; intro e; injection e with e; omega)).trans HH3.out)
  obtain ⟨m, hm⟩ : ∃ k, w2.heap.size = k := ⟨_, rfl⟩
  have HE4 : Hid (Below u.heap.size u w4 ∧ p < m ∧ u.heap.size < U1.heap.size ∧ U1.heap.size ≤ p ∧ m + 1 < w4.heap.size) := Lib.hid (by
    have h1 := HP.out
    have b1 : Below u.heap.size u w2 := HA.out.trans (HB.out.mono HA.out.size)
    have b2 : Below u.heap.size u w3 := b1.trans (HB3.out.mono b1.size)
    have b3 := b2.grown hg4 b2.size (fun k e => by injection e with e; have := HA.out.size; omega)
    exact ⟨b3, by omega, blk_lt HH.out, h1.1, by rw [← hm]; exact blk_lt HP4.out.1⟩)
  clear hg4 hR4 HR HR3 HC3 HB3 HB HH HH2 HH3 HA GT HO HM3
  rw [hm] at HP4 ⊢
  obtain ⟨lo, hlo⟩ : ∃ k, U1.heap.size = k := ⟨_, rfl⟩
  rw [hlo] at HR4 HE4
  clear hm HP hlo
  have c0 := rb_cell HP4.out.1 0
  simp only [List.getElem?_toArray, List.getElem?_cons_succ, List.getElem?_cons_zero] at c0
  have GT := Lib.hid (get2 HR4.out HO4.out (by first | omega | (simp only [List.length_cons]; omega)))
  rw [show (255 : Int) * 256 + 81 = 65361 from rfl] at GT
  go_wp2_with fail
  clear c0
  refine GT.out.mono ?_
  rintro e w5 ⟨rfl, hR5, hg5⟩
  obtain ⟨P, hPm⟩ : ∃ k, m + 1 = k := ⟨_, rfl⟩
  rw [hPm] at HP4 ⊢
  have HPS : Hid (PSt w5 P p m lo l0 Sa.zero) := Lib.hid (by
    have h1 := HE4.out
    refine ⟨none, 0, none, 0, [], #[], 0, ⟨(hg5.block _ (blk_lt HP4.out.1) (fun e => by injection e with e; omega)).trans HP4.out.1, hR5, (hg5.block _ (blk_lt HP4.out.2) (fun e => by injection e with e; omega)).trans HP4.out.2, by omega⟩, rfl, CRow.nil _ _, fun i u hu => by simp [Sa.zero] at hu, ⟨rfl, rfl, fun _ => rfl, fun L hL => by cases hL⟩⟩)
  have HH5 := Lib.hid ((hg5.block _ (blk_lt HH4.out) (fun e => by injection e with e; have := HE4.out; omega)).trans HH4.out)
  have HE5 : Hid (Below u.heap.size u w5 ∧ p < m ∧ m < P ∧ u.heap.size < lo ∧ lo ≤ p) := Lib.hid (by
    have h1 := HE4.out
    exact ⟨h1.1.grown hg5 h1.1.size (fun k e => by injection e with e; omega), h1.2.1, by omega, h1.2.2.1, h1.2.2.2.1⟩)
  clear hR5 hg5 GT HP4 HR4 HH4 HE4 HO4 hPm
  go_wp2_with fail
  go_loopg [6] (n + 1) (fun g v wr => ∃ mk : Int, v = .int .i64 mk ∧ Hid (((∃ (s : Sa) (l : List Int) (k : Nat), k + 1 ≤ g ∧ Run k s mk l er s2 l2 ∧ PSt wr P p m lo l s) ∨ (mk = 0 ∧ er = 10 ∧ 1 ≤ g)) ∧ Below u.heap.size u wr ∧ wr.heap[u.heap.size]? = some (.cells #[.int .i64 0, .int .i64 0, .int .i64 0, .int .i64 0, .slice none 0 0, .int .i64 0, .int .i64 0, .int .i64 0, .int .i64 0, .int .i64 0, .int .i64 0, .int .i64 0, .int .i64 0, .int .i64 0, .bool false, .bool false, .bool false, .slice none 0 0] 33 (0, 0)) ∧ wr.cell? ⟨P, 0, none⟩ = some (.pointer (some ⟨p, 0, none⟩))))
  case atStart => exact ⟨65361, rfl, Lib.hid ⟨.inl ⟨Sa.zero, l0, n, by omega, HRUN.out, HPS.out⟩, HE5.out.1, HH5.out, by obtain ⟨A_, C_, SA_, sc_, E_, es_, ck_, h1, _⟩ := HPS.out; exact rb_cell h1.pb 0⟩⟩
  case round =>
    obtain ⟨mk, rfl, HI⟩ := hrel
    obtain ⟨wa, hwa⟩ : ∃ wa, wa = wr := ⟨wr, rfl⟩
    subst hwa
    have hbl : ∀ k ∈ [p, P, m], u.heap.size < k := fun k hk => by have := HE5.out; simp at hk; omega
    have HBL := Lib.hid hbl
    have keepH : ∀ w', Eff [p, P, m] wa w' → Below u.heap.size u w' ∧ w'.heap[u.heap.size]? = some (.cells #[.int .i64 0, .int .i64 0, .int .i64 0, .int .i64 0, .slice none 0 0, .int .i64 0, .int .i64 0, .int .i64 0, .int .i64 0, .int .i64 0, .int .i64 0, .int .i64 0, .int .i64 0, .int .i64 0, .bool false, .bool false, .bool false, .slice none 0 0] 33 (0, 0)) := fun w' he => by
      have h1 := HI.out.2.1
      have h2 := HI.out.2.2.1
      refine ⟨⟨he.os.trans h1.os, he.tape.trans h1.tape, he.output.trans h1.output, Nat.le_trans h1.size he.size, fun k hk => (he.block k (Nat.lt_of_lt_of_le hk h1.size) (fun h3 => by have := HBL.out k h3; omega)).trans (h1.block k hk)⟩, (he.block _ (blk_lt h2) (fun h3 => by have := HBL.out _ h3; omega)).trans h2⟩
    have KH := Lib.hid keepH
    clear hbl keepH
    rcases HI.out.1 with ⟨s, l, k, hkg, hR, hP⟩ | ⟨rfl, hten, hg1⟩
    · cases hR with
      | sot => exact absurd rfl her
      | fail k' _ _ _ _ s' l' hmk he hS =>
        have CS := Lib.hid (hS wa P p m lo hP)
        clear hS hP HI
        go_wp2_with fail
        refine CS.out.mono ?_
        rintro e_ w6 ⟨rfl, _, hE⟩
        have HX : Hid (w6.heap[u.heap.size]? = some (.cells #[.int .i64 0, .int .i64 0, .int .i64 0, .int .i64 0, .slice none 0 0, .int .i64 0, .int .i64 0, .int .i64 0, .int .i64 0, .int .i64 0, .int .i64 0, .int .i64 0, .int .i64 0, .int .i64 0, .bool false, .bool false, .bool false, .slice none 0 0] 33 (0, 0)) ∧ Below u.heap.size u w6) := Lib.hid ⟨(KH.out w6 hE).2, (KH.out w6 hE).1⟩
        clear hE CS
        go_wp2_with (refine wpList_store_row rfl 33 _ _ rfl u.heap.size #[.int .i64 0, .int .i64 0, .int .i64 0, .int .i64 0, .slice none 0 0, .int .i64 0, .int .i64 0, .int .i64 0, .int .i64 0, .int .i64 0, .int .i64 0, .int .i64 0, .int .i64 0, .int .i64 0, .bool false, .bool false, .bool false, .slice none 0 0] rfl rfl 33 #[.int .i64 0, .int .i64 0, .int .i64 0, .int .i64 0, .slice none 0 0, .int .i64 0, .int .i64 0, .int .i64 0, .int .i64 0, .int .i64 0, .int .i64 0, .int .i64 0, .int .i64 0, .int .i64 0, .bool false, .bool false, .bool false, .slice none 0 0] HX.out.1 (by kernel_rfl) rfl (by kernel_rfl) ?_)
        go_wp2_with fail
        have HZ5 : Hid ((w6.setRow u.heap.size #[.int .i64 0, .int .i64 0, .int .i64 0, .int .i64 0, .slice none 0 0, .int .i64 0, .int .i64 0, .int .i64 0, .int .i64 0, .int .i64 0, .int .i64 0, .int .i64 0, .int .i64 0, .int .i64 0, .bool false, .bool false, .bool false, .slice none 0 0]).heap[u.heap.size]? = some (.cells Z0 33 (0, 0)) ∧ Below u.heap.size u (w6.setRow u.heap.size #[.int .i64 0, .int .i64 0, .int .i64 0, .int .i64 0, .slice none 0 0, .int .i64 0, .int .i64 0, .int .i64 0, .int .i64 0, .int .i64 0, .int .i64 0, .int .i64 0, .int .i64 0, .int .i64 0, .bool false, .bool false, .bool false, .slice none 0 0])) := Lib.hid ⟨by rw [← hZ.out]; exact setRow_heap w6 u.heap.size _ #[.int .i64 0, .int .i64 0, .int .i64 0, .int .i64 0, .slice none 0 0, .int .i64 0, .int .i64 0, .int .i64 0, .int .i64 0, .int .i64 0, .int .i64 0, .int .i64 0, .int .i64 0, .int .i64 0, .bool false, .bool false, .bool false, .slice none 0 0] _ _ HX.out.1, below_setRow HX.out.2 (Nat.le_refl _) _⟩
        refine bodyPost_ret (v := .tuple #[.agg Z0, .int .i64 0, .int .i64 er]) ?_ rfl ?_
        · have := run_loadVar_row (P := Try.prog) _ u.heap.size 33 33 Z0 (0, 0) _ HZ5.out.1 Try.underlying33 rfl (by rw [← hZ.out]; kernel_rfl)
          exact res3 (p := 2) (a := 3) (b := 4) rfl rfl rfl rfl this
        exact ⟨Z0, rfl, by rw [← hZ.out]; rfl, by rw [← hZ.out]; kernel_rfl, HZ5.out.2⟩
      | next k' _ s' _ _ a b _ l' _ _ hmk hS hO hl hR' =>
        obtain ⟨g1, rfl⟩ : ∃ g1, gk = g1 + 1 := ⟨gk - 1, by omega⟩
        have CS := Lib.hid (hS wa P p m lo hP)
        have HR2 := Lib.hid hR'
        have HO2 := Lib.hid hO
        clear hS hP HI hR' hO
        go_wp2_with fail
        refine CS.out.mono ?_
        rintro e_ w6 ⟨rfl, hP6, hE⟩
        have HP6 := Lib.hid (hP6 (by first | rfl | trivial))
        have HX := Lib.hid (KH.out w6 hE)
        clear hP6 hE CS
        obtain ⟨A6, C6, SA6, sc6, E6, es6, ck6, hp1, hp2, hp3, hp4, hp5⟩ := HP6.out
        have c0 := rb_cell hp1.pb 0
        simp only [List.getElem?_toArray, List.getElem?_cons_succ, List.getElem?_cons_zero] at c0
        have HQ := Lib.hid (show _ ∧ _ ∧ _ ∧ _ ∧ _ from ⟨hp1, hp2, hp3, hp4, hp5⟩)
        have GT := Lib.hid (get2 hp1.rd HO2.out hl)
        clear hp1 hp2 hp3 hp4 hp5
        go_wp2_with fail
        refine GT.out.mono ?_
        rintro e_ w7 ⟨rfl, hR7, hg7⟩
        have HN : Hid (((∃ (s : Sa) (l : List Int) (k : Nat), k + 1 ≤ g1 ∧ Run k s (a * 256 + b) l er s2 l2 ∧ PSt w7 P p m lo l s) ∨ (a * 256 + b = 0 ∧ er = 10 ∧ 1 ≤ g1)) ∧ Below u.heap.size u w7 ∧ w7.heap[u.heap.size]? = some (.cells #[.int .i64 0, .int .i64 0, .int .i64 0, .int .i64 0, .slice none 0 0, .int .i64 0, .int .i64 0, .int .i64 0, .int .i64 0, .int .i64 0, .int .i64 0, .int .i64 0, .int .i64 0, .int .i64 0, .bool false, .bool false, .bool false, .slice none 0 0] 33 (0, 0)) ∧ w7.cell? ⟨P, 0, none⟩ = some (.pointer (some ⟨p, 0, none⟩))) := Lib.hid (by
          obtain ⟨q1, q2, q3, q4, q5⟩ := HQ.out
          have hpp := HE5.out
          have hi : ∀ k, P < k → k < w6.heap.size → w7.heap[k]? = w6.heap[k]? := fun k h1 h2 => hg7.block k h2 (fun e => by injection e with e; omega)
          have hps := q1.get hR7 hg7
          refine ⟨.inl ⟨s', l', k', by omega, HR2.out, ⟨A6, C6, SA6, sc6, E6, es6, ck6, hps, q2, q3.keepB hg7.size (fun k h1 h2 => hi k (by omega) h2), q4.keep hg7.size hi, q5.keep hg7.size hi⟩⟩, HX.out.1.grown hg7 HX.out.1.size (fun k e => by injection e with e; omega), (hg7.block _ (blk_lt HX.out.2) (fun e => by injection e with e; omega)).trans HX.out.2, rb_cell hps.pb 0⟩)
        clear hR7 hg7 GT c0 HQ HX HP6
        go_wp2
        go_roundg g1
        case measure => omega
        case rel => exact ⟨a * 256 + b, rfl, HN⟩
      | cut k' _ s' _ _ _ l' _ hmk hS hl =>
        obtain ⟨g1, rfl⟩ : ∃ g1, gk = g1 + 1 := ⟨gk - 1, by omega⟩
        have CS := Lib.hid (hS wa P p m lo hP)
        clear hS hP HI
        go_wp2_with fail
        refine CS.out.mono ?_
        rintro e_ w6 ⟨rfl, hP6, hE⟩
        have HX := Lib.hid (KH.out w6 hE)
        obtain ⟨A6, C6, SA6, sc6, E6, es6, ck6, hp1, hp2, hp3, hp4, hp5⟩ := hP6 (by first | rfl | trivial)
        have c0 := rb_cell hp1.pb 0
        simp only [List.getElem?_toArray, List.getElem?_cons_succ, List.getElem?_cons_zero] at c0
        have HQ := Lib.hid hp1
        have GT := Lib.hid (get_no 2 hp1.rd (.inr (.inl (by omega))) (by omega))
        clear hp1 hp2 hp3 hp4 hp5 hP6 hE CS
        go_wp2_with fail
        refine GT.out.mono ?_
        rintro e_ w7 ⟨rfl, hR7, _, hg7⟩
        have hg1 : 1 ≤ g1 := by omega
        have HN : Hid (Below u.heap.size u w7 ∧ w7.heap[u.heap.size]? = some (.cells #[.int .i64 0, .int .i64 0, .int .i64 0, .int .i64 0, .slice none 0 0, .int .i64 0, .int .i64 0, .int .i64 0, .int .i64 0, .int .i64 0, .int .i64 0, .int .i64 0, .int .i64 0, .int .i64 0, .bool false, .bool false, .bool false, .slice none 0 0] 33 (0, 0)) ∧ w7.cell? ⟨P, 0, none⟩ = some (.pointer (some ⟨p, 0, none⟩))) := Lib.hid (by
          have hpp := HE5.out
          have hs := HQ.out.sep
          have hpb := (hg7.block P (blk_lt HQ.out.pb) (fun e => by injection e with e; omega)).trans HQ.out.pb
          exact ⟨HX.out.1.grown hg7 HX.out.1.size (fun k e => by injection e with e; omega), (hg7.block _ (blk_lt HX.out.2) (fun e => by injection e with e; omega)).trans HX.out.2, rb_cell hpb 0⟩)
        clear hR7 hg7 GT c0 HQ HX
        go_wp2
        go_roundg g1
        case measure => omega
        case rel => exact ⟨0, rfl, Lib.hid ⟨.inr ⟨by first | rfl | trivial, by first | rfl | trivial, hg1⟩, HN.out⟩⟩
    · have CS := Lib.hid (seg_mark P 0 wa (by omega))
      have HX : Hid (wa.heap[u.heap.size]? = some (.cells #[.int .i64 0, .int .i64 0, .int .i64 0, .int .i64 0, .slice none 0 0, .int .i64 0, .int .i64 0, .int .i64 0, .int .i64 0, .int .i64 0, .int .i64 0, .int .i64 0, .int .i64 0, .int .i64 0, .bool false, .bool false, .bool false, .slice none 0 0] 33 (0, 0)) ∧ Below u.heap.size u wa) := Lib.hid ⟨HI.out.2.2.1, HI.out.2.1⟩
      subst hten
      clear HI
      go_wp2_with fail
      refine CS.out.mono ?_
      rintro e_ w6 ⟨rfl, rfl⟩
      go_wp2_with (refine wpList_store_row rfl 33 _ _ rfl u.heap.size #[.int .i64 0, .int .i64 0, .int .i64 0, .int .i64 0, .slice none 0 0, .int .i64 0, .int .i64 0, .int .i64 0, .int .i64 0, .int .i64 0, .int .i64 0, .int .i64 0, .int .i64 0, .int .i64 0, .bool false, .bool false, .bool false, .slice none 0 0] rfl rfl 33 #[.int .i64 0, .int .i64 0, .int .i64 0, .int .i64 0, .slice none 0 0, .int .i64 0, .int .i64 0, .int .i64 0, .int .i64 0, .int .i64 0, .int .i64 0, .int .i64 0, .int .i64 0, .int .i64 0, .bool false, .bool false, .bool false, .slice none 0 0] HX.out.1 (by kernel_rfl) rfl (by kernel_rfl) ?_)
      go_wp2_with fail
      have HZ5 : Hid ((wa.setRow u.heap.size #[.int .i64 0, .int .i64 0, .int .i64 0, .int .i64 0, .slice none 0 0, .int .i64 0, .int .i64 0, .int .i64 0, .int .i64 0, .int .i64 0, .int .i64 0, .int .i64 0, .int .i64 0, .int .i64 0, .bool false, .bool false, .bool false, .slice none 0 0]).heap[u.heap.size]? = some (.cells Z0 33 (0, 0)) ∧ Below u.heap.size u (wa.setRow u.heap.size #[.int .i64 0, .int .i64 0, .int .i64 0, .int .i64 0, .slice none 0 0, .int .i64 0, .int .i64 0, .int .i64 0, .int .i64 0, .int .i64 0, .int .i64 0, .int .i64 0, .int .i64 0, .int .i64 0, .bool false, .bool false, .bool false, .slice none 0 0])) := Lib.hid ⟨by rw [← hZ.out]; exact setRow_heap wa u.heap.size _ #[.int .i64 0, .int .i64 0, .int .i64 0, .int .i64 0, .slice none 0 0, .int .i64 0, .int .i64 0, .int .i64 0, .int .i64 0, .int .i64 0, .int .i64 0, .int .i64 0, .int .i64 0, .int .i64 0, .bool false, .bool false, .bool false, .slice none 0 0] _ _ HX.out.1, below_setRow HX.out.2 (Nat.le_refl _) _⟩
      refine bodyPost_ret (v := .tuple #[.agg Z0, .int .i64 0, .int .i64 10]) ?_ rfl ?_
      · have := run_loadVar_row (P := Try.prog) _ u.heap.size 33 33 Z0 (0, 0) _ HZ5.out.1 Try.underlying33 rfl (by rw [← hZ.out]; kernel_rfl)
        exact res3 (p := 2) (a := 3) (b := 4) rfl rfl rfl rfl this
      exact ⟨Z0, rfl, by rw [← hZ.out]; rfl, by rw [← hZ.out]; kernel_rfl, HZ5.out.2⟩
end
end Go.Proofs.Ytlbfjaifemnkpaa
