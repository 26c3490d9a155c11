/- Turn of the reference, by its contract: three rows that grow in turn. -/
import Derived.Test.YtgplaikcahpiiaaColBack
import Derived.Test.YtgplaikcahpiiaaOnly
import Derived.StillTailTactics
import Derived.Deep.AppendLies
import Derived.Deep.RegionHeldLaw
set_option linter.unusedVariables false
namespace Go.Proofs.Ytgplaikcahpiiaa
open Go.RowKit

/-- Three slices, each of which is alone in its block. -/
structure T3 (w u : World) (V0 V1 V2 : Value) (L0 L1 L2 : List Int) : Prop where
  o0 : u.ownsRow w.heap.size 3 1 V0 L0.length (L0.map (Value.int .i64))
  o1 : u.ownsRow w.heap.size 3 1 V1 L1.length (L1.map (Value.int .i64))
  o2 : u.ownsRow w.heap.size 3 1 V2 L2.length (L2.map (Value.int .i64))
  d01 : ∀ g, V0.ownBlock = some g → V1.ownBlock ≠ some g
  d02 : ∀ g, V0.ownBlock = some g → V2.ownBlock ≠ some g
  d12 : ∀ g, V1.ownBlock = some g → V2.ownBlock ≠ some g
  bel : Below w.heap.size w u
section
variable {w u u1 : World} {V0 V1 V2 : Value} {L0 L1 L2 : List Int}
theorem T3.rot (h : T3 w u V0 V1 V2 L0 L1 L2) : T3 w u V1 V2 V0 L1 L2 L0 :=
  ⟨h.o1, h.o2, h.o0, h.d12, fun g hg e => h.d01 g e hg, fun g hg e => h.d02 g e hg, h.bel⟩
theorem T3.drew (h : T3 w u V0 V1 V2 L0 L1 L2) : T3 w u.drew V0 V1 V2 L0 L1 L2 := ⟨h.o0, h.o1, h.o2, h.d01, h.d02, h.d12, below_drewN h.bel 1⟩
theorem T3.alloc (h : T3 w u V0 V1 V2 L0 L1 L2) (o : Obj) : T3 w (u.alloc o) V0 V1 V2 L0 L1 L2 := ⟨h.o0.alloc o, h.o1.alloc o, h.o2.alloc o, h.d01, h.d02, h.d12, h.bel.alloc h.bel.size o⟩
theorem T3.step (h : T3 w u V0 V1 V2 L0 L1 L2) {x : Int} {g cap : Nat} (hown : u1.ownsRow w.heap.size 3 1 (.slice (some ⟨g, 0, none⟩) (L0.length + 1) cap) (L0.length + 1) (L0.map (Value.int .i64) ++ [.int .i64 x]))
    (hg : u.grownBy u1 V0.ownBlock) (hat : V0.ownBlock = some g ∨ g = u.heap.size) :
    T3 w u1 (.slice (some ⟨g, 0, none⟩) (L0.length + 1) cap) V1 V2 (L0 ++ [x]) L1 L2 := by
  have e : (L0 ++ [x]).length = L0.length + 1 := by simp
  refine ⟨?_, ?_, ?_, fun g' hg' => ?_, fun g' hg' => ?_, h.d12, h.bel.grown hg h.bel.size fun q hq => (own_lt h.o0 hq).1⟩
  · rw [e, List.map_append]; exact hown
  · exact ownsRow_keep h.o1 hg.size fun i hi => hg.block i (own_lt h.o1 hi).2 fun e => h.d01 i e.symm hi
  · exact ownsRow_keep h.o2 hg.size fun i hi => hg.block i (own_lt h.o2 hi).2 fun e => h.d02 i e.symm hi
  · obtain rfl : g = g' := by simpa [Value.ownBlock] using hg'
    rcases hat with e | e
    · exact h.d01 g e
    · intro e2; have := (own_lt h.o1 e2).2; omega
  · obtain rfl : g = g' := by simpa [Value.ownBlock] using hg'
    rcases hat with e | e
    · exact h.d02 g e
    · intro e2; have := (own_lt h.o2 e2).2; omega
end
theorem map3_succ (f : Int → Int → Int → Int) (a b c : List Int) (k : Nat) : map3 f a b c (k + 1) = map3 f a b c k ++ [f (a.getD k 0) (b.getD k 0) (c.getD k 0)] := by
  unfold map3; rw [List.range_succ, List.map_append]; rfl
theorem map2_succ (f : Int → Int → Int) (a b : List Int) (k : Nat) : map2 f a b (k + 1) = map2 f a b k ++ [f (a.getD k 0) (b.getD k 0)] := by
  unfold map2; rw [List.range_succ, List.map_append]; rfl
theorem map3_len (f : Int → Int → Int → Int) (a b c : List Int) (k : Nat) : (map3 f a b c k).length = k := by simp [map3]
theorem map2_len (f : Int → Int → Int) (a b : List Int) (k : Nat) : (map2 f a b k).length = k := by simp [map2]

set_option maxRecDepth 100000 in
set_option maxHeartbeats 8000000 in
theorem rturn_any {A B C : Option Addr} {n ca cb cc : Nat} {a b c : List Int} {w : World} (ha : RowI w A n ca a) (hb : RowI w B n cb b) (hc : RowI w C n cc c) (hn : n ≤ 1000)
    (ra : Rng 1099511627776 a) (rb : Rng 1099511627776 b) (rc : Rng 1099511627776 c) :
    Calls Try.prog 21 #[.slice A n ca, .slice B n cb, .slice C n cc] w fun e w' => ∃ A1 c1 A2 c2 A3 c3, e = .returned (.tuple #[.slice A1 n c1, .slice A2 n c2, .slice A3 n c3]) ∧
      RowI w' A1 n c1 (map3 turnF a b c n) ∧ RowI w' A2 n c2 (map2 subF c b n) ∧ RowI w' A3 n c3 (map2 subF a b n) ∧ Below w.heap.size w w' := by
  obtain ⟨i0, hi, hz0, hz1, hz2⟩ := info_parts Try.info3
  have HA := Lib.hid (And.intro ha ra)
  have HB := Lib.hid (And.intro hb rb)
  have HC := Lib.hid (And.intro hc rc)
  clear ha hb hc ra rb rc
  go_enter Try.func21, Try.ntmps21
  go_wp2
  go_loopw [9, 10, 11, 12] (fun v0 v1 v2 i wr => ∃ k : Nat, k ≤ n ∧ i = .int .i64 (k : Int) ∧ T3 w wr v0 v1 v2 (map3 turnF a b c k) (map2 subF c b k) (map2 subF a b k)) (fun _ _ _ i _ => n - (intOf i).toNat)
  case atStart => exact ⟨0, by omega, rfl, ⟨World.ownsRow_nil _ _ _ _, World.ownsRow_nil _ _ _ _, World.ownsRow_nil _ _ _ _, by simp [Value.ownBlock], by simp [Value.ownBlock], by simp [Value.ownBlock], Below.refl _ _⟩⟩
  case round =>
    obtain ⟨k, kn, rfl, hT⟩ := hrel
    by_cases ck : k < n
    · obtain ⟨p0, o0, rfl, hp0, m0⟩ := HA.out.1.cell ck
      obtain ⟨p1, o1, rfl, hp1, m1⟩ := HB.out.1.cell ck
      obtain ⟨p2, o2, rfl, hp2, m2⟩ := HC.out.1.cell ck
      have x0 := HA.out.2 k
      have x1 := HB.out.2 k
      have x2 := HC.out.2 k
      have E1 := Lib.hid (map3_succ turnF a b c k)
      have E2 := Lib.hid (map2_succ subF c b k)
      have E3 := Lib.hid (map2_succ subF a b k)
      have z1 := map3_len turnF a b c k
      have z2 := map2_len subF c b k
      have z3 := map2_len subF a b k
      generalize a.getD k 0 = x at *
      generalize b.getD k 0 = y at *
      generalize c.getD k 0 = z at *
      generalize map3 turnF a b c k = K0 at *
      generalize map2 subF c b k = K1 at *
      generalize map2 subF a b k = K2 at *
      have Z := Lib.hid (And.intro z1 (And.intro z2 z3))
      have M0 := Lib.hid m0
      have M1 := Lib.hid m1
      have M2 := Lib.hid m2
      have e1 : IntKind.i64.wrap (2 * y) = 2 * y := IntWalk.i64_in _ (by omega)
      have e2 : IntKind.i64.wrap (x + 2 * y) = x + 2 * y := IntWalk.i64_in _ (by omega)
      have e3 : IntKind.i64.wrap (x + 2 * y + z) = x + 2 * y + z := IntWalk.i64_in _ (by omega)
      have e4 : IntKind.i64.wrap (z - y) = z - y := IntWalk.i64_in _ (by omega)
      have e5 : IntKind.i64.wrap (x - y) = x - y := IntWalk.i64_in _ (by omega)
      have ckk : (k : Int) < (n : Int) := by omega
      have y0 := (hT.bel.cell (p := ⟨p0, o0 + k, none⟩) hp0).trans M0.out
      have y1 := (hT.bel.cell (p := ⟨p1, o1 + k, none⟩) hp1).trans M1.out
      have y2 := (hT.bel.cell (p := ⟨p2, o2 + k, none⟩) hp2).trans M2.out
      clear m0 m1 m2 x0 x1 x2
      have TA := Lib.hid ((hT.alloc (Obj.cells #[.int .i64 ((x + 2 * y + z) / 4)] 3)).drew)
      have hsz1 : w.heap.size ≤ (wr.alloc (Obj.cells #[.int .i64 ((x + 2 * y + z) / 4)] 3)).heap.size := TA.out.bel.size
      go_wp2
      go_region_held_law (fun w' => w'.cell? ⟨p0, o0 + k, none⟩ = some (.int .i64 x) ∧ w'.cell? ⟨p1, o1 + k, none⟩ = some (.int .i64 y) ∧ w'.cell? ⟨p2, o2 + k, none⟩ = some (.int .i64 z)) (go_keep)
        ((refine step_append_lies _ (by rfl) _ _ _ (by rfl) w.heap.size 3 i0 _ 1 8 Try.underlying22 hi hz0 hz1 hz2 rfl (by omega) _ K0.length (K0.map (Value.int .i64)) (by rfl) TA.out.o0
           ⟨wr.heap.size, 0, none⟩ 1 1 [.int .i64 ((x + 2 * y + z) / 4)] (by rfl) (by rfl) (World.news_of_block (cs := #[.int .i64 ((x + 2 * y + z) / 4)]) (t := 3) (fr := (0, 0)) (heap_alloc_new wr _)) (by simp [Value.oneCell'])
           (by omega) (by rw [z1]; unfold maxLen; omega) (by rw [z1]; omega) hsz1 (wr.heap.size + 1) (by simp) ?_; intro gX4 cX4 X4 hown hgrow hat hlt; change (_ : Act → World → Prop) (Act.put _ (some 37) _) _; have tX4 := TA.out.step hown hgrow (hat.imp id fun e => e.trans (by simp)); have y0 := (tX4.bel.cell (p := ⟨p0, o0 + k, none⟩) hp0).trans M0.out; have y1 := (tX4.bel.cell (p := ⟨p1, o1 + k, none⟩) hp1).trans M1.out; have y2 := (tX4.bel.cell (p := ⟨p2, o2 + k, none⟩) hp2).trans M2.out))
      have hT5 := tX4.rot
      clear hT TA hown hgrow hat hlt tX4
      have TA := Lib.hid ((hT5.alloc (Obj.cells #[.int .i64 (z - y)] 3)).drew)
      have hsz2 : w.heap.size ≤ (X4.alloc (Obj.cells #[.int .i64 (z - y)] 3)).heap.size := TA.out.bel.size
      go_wp2
      go_region_held_law (fun w' => w'.cell? ⟨p0, o0 + k, none⟩ = some (.int .i64 x) ∧ w'.cell? ⟨p1, o1 + k, none⟩ = some (.int .i64 y) ∧ w'.cell? ⟨p2, o2 + k, none⟩ = some (.int .i64 z)) (go_keep)
        ((refine step_append_lies _ (by rfl) _ _ _ (by rfl) w.heap.size 3 i0 _ 1 8 Try.underlying22 hi hz0 hz1 hz2 rfl (by omega) _ K1.length (K1.map (Value.int .i64)) (by rfl) TA.out.o0
           ⟨X4.heap.size, 0, none⟩ 1 1 [.int .i64 (z - y)] (by rfl) (by rfl) (World.news_of_block (cs := #[.int .i64 (z - y)]) (t := 3) (fr := (0, 0)) (heap_alloc_new X4 _)) (by simp [Value.oneCell'])
           (by omega) (by rw [z2]; unfold maxLen; omega) (by rw [z2]; omega) hsz2 (X4.heap.size + 1) (by simp) ?_; intro gX5 cX5 X5 hown hgrow hat hlt; change (_ : Act → World → Prop) (Act.put _ (some 49) _) _; have tX5 := TA.out.step hown hgrow (hat.imp id fun e => e.trans (by simp)); have y0 := (tX5.bel.cell (p := ⟨p0, o0 + k, none⟩) hp0).trans M0.out; have y1 := (tX5.bel.cell (p := ⟨p1, o1 + k, none⟩) hp1).trans M1.out; have y2 := (tX5.bel.cell (p := ⟨p2, o2 + k, none⟩) hp2).trans M2.out))
      have hT6 := tX5.rot
      clear hT5 TA hown hgrow hat hlt tX5
      have TA := Lib.hid ((hT6.alloc (Obj.cells #[.int .i64 (x - y)] 3)).drew)
      have hsz3 : w.heap.size ≤ (X5.alloc (Obj.cells #[.int .i64 (x - y)] 3)).heap.size := TA.out.bel.size
      go_wp2
      go_region_held_law (fun w' => w'.cell? ⟨p0, o0 + k, none⟩ = some (.int .i64 x) ∧ w'.cell? ⟨p1, o1 + k, none⟩ = some (.int .i64 y) ∧ w'.cell? ⟨p2, o2 + k, none⟩ = some (.int .i64 z)) (go_keep)
        ((refine step_append_lies _ (by rfl) _ _ _ (by rfl) w.heap.size 3 i0 _ 1 8 Try.underlying22 hi hz0 hz1 hz2 rfl (by omega) _ K2.length (K2.map (Value.int .i64)) (by rfl) TA.out.o0
           ⟨X5.heap.size, 0, none⟩ 1 1 [.int .i64 (x - y)] (by rfl) (by rfl) (World.news_of_block (cs := #[.int .i64 (x - y)]) (t := 3) (fr := (0, 0)) (heap_alloc_new X5 _)) (by simp [Value.oneCell'])
           (by omega) (by rw [z3]; unfold maxLen; omega) (by rw [z3]; omega) hsz3 (X5.heap.size + 1) (by simp) ?_; intro gX6 cX6 X6 hown hgrow hat hlt; change (_ : Act → World → Prop) (Act.put _ (some 61) _) _; have tX6 := TA.out.step hown hgrow (hat.imp id fun e => e.trans (by simp)); have y0 := (tX6.bel.cell (p := ⟨p0, o0 + k, none⟩) hp0).trans M0.out; have y1 := (tX6.bel.cell (p := ⟨p1, o1 + k, none⟩) hp1).trans M1.out; have y2 := (tX6.bel.cell (p := ⟨p2, o2 + k, none⟩) hp2).trans M2.out))
      have hT7 := tX6.rot
      clear hT6 TA hown hgrow hat hlt tX6 y0 y1 y2
      rw [z1, z2, z3] at hT7
      have HT7 := Lib.hid hT7
      clear hT7
      go_wp2
      go_roundw
      case rel =>
        refine ⟨k + 1, by omega, by go_num, ?_⟩
        rw [E1.out, E2.out, E3.out]
        exact HT7.out
      case measure => simp [intOf]; omega
    · obtain rfl : k = n := by omega
      obtain ⟨A1, c1, rfl, r1⟩ := rowI_own hT.o0
      obtain ⟨A2, c2, rfl, r2⟩ := rowI_own hT.o1
      obtain ⟨A3, c3, rfl, r3⟩ := rowI_own hT.o2
      have hbel := hT.bel
      rw [map3_len] at r1
      rw [map2_len] at r2 r3
      rw [map3_len, map2_len, map2_len]
      have R := Lib.hid (And.intro r1 (And.intro r2 r3))
      clear hT r1 r2 r3
      go_wp2
      go_ret3
      exact ⟨A1, c1, A2, c2, A3, c3, rfl, R.out.1, R.out.2.1, R.out.2.2, hbel⟩
end Go.Proofs.Ytgplaikcahpiiaa
