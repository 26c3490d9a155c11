/- StatesWays, walked. -/
import Derived.Test.YtekfgkdihdmhoaaDoorSts
import Derived.Deep.Grids
set_option linter.unusedVariables false
namespace Go.Proofs.YtekfgkdihdmhoaaDoor
open Go.RowKit

/-- What a walk is told of a slice of bools that came in. -/
def IsBools (w : World) (a : Option Addr) (len cap : Nat) (B : Nat → Bool) : Prop :=
  (a = none ∧ len = 0 ∧ cap = 0) ∨ ∃ x, a = some x ∧ len ≤ cap ∧ cap ≤ maxLen ∧ ∀ i, i < cap → w.cell? (x.add i) = some (.bool (B i))
theorem IsBools.at {w : World} {a : Option Addr} {len cap : Nat} {B : Nat → Bool} (h : IsBools w a len cap B) : (∀ i, i < len → ∃ b o, a = some ⟨b, o, none⟩ ∧ b < w.heap.size ∧ w.cell? ⟨b, o + i, none⟩ = some (.bool (B i))) ∧ len ≤ maxLen := by
  rcases h with ⟨rfl, rfl, rfl⟩ | ⟨⟨b, o, spot⟩, rfl, hl, hm, hc⟩
  · exact ⟨fun i hi => absurd hi (by omega), by unfold maxLen; omega⟩
  · refine ⟨fun i hi => ?_, by omega⟩
    have h0 := hc i (by omega)
    have hz0 := hc 0 (by omega)
    have hsp0 : (Addr.add ⟨b, o, spot⟩ 0).spot = none := World.cell?_spot hz0
    have hs : spot = none := by simpa [Addr.add] using hsp0
    subst hs
    refine ⟨b, o, rfl, World.block_lt_of_cell? w _ hz0 |> fun h => by simpa [Addr.add] using h, ?_⟩
    unfold Addr.add at h0
    split at h0
    · subst_vars; simpa using h0
    · exact h0
theorem ways_fact : ∀ k, k < 47 → 1 ≤ qe k ∧ qe k ≤ 22017 ∧ (swp k = true → qe k = 22017) ∧ mps k ≤ 46 ∧ lps k ≤ 46 := by decide
set_option maxRecDepth 100000 in
set_option maxHeartbeats 8000000 in
theorem walk_statesWays (a0 : Int) (a1 : Option Addr) (len1 cap1 : Nat) (B : Nat → Bool) (w : World) (hT : Tab w) (w0 : (Lit.int .i64 a0).wf = true) (w1 : IsBools w a1 len1 cap1 B) :
    Calls Tryd.prog 4 #[.int .i64 a0, .slice a1 len1 cap1] w fun e w' => e = .returned (.bool true) ∧ Below w.heap.size w w' := by
  have hb := within_bd a0 47 (by omega)
  have pos := hT.pos
  obtain ⟨HB0, hml⟩ := w1.at
  have HB := Lib.hid HB0
  clear HB0 w1
  unfold maxLen at hml
  obtain ⟨m, hm, hc⟩ : ∃ m : Nat, m ≤ 46 ∧ ((a0.tmod 47 = (m : Int)) ∨ (a0.tmod 47 = -(m : Int) ∧ 0 < m)) := by
    rcases Int.lt_or_le (a0.tmod 47) 0 with h | h
    · exact ⟨(-(a0.tmod 47)).toNat, by omega, Or.inr ⟨by omega, by omega⟩⟩
    · exact ⟨(a0.tmod 47).toNat, by omega, Or.inl (by omega)⟩
  have KN := Lib.hid (known3 hT)
  have TT := Lib.hid hT
  have z1 : ¬ (46 : Int) < (m : Int) := by omega
  clear hT
  rcases hc with hc | ⟨hc, hp⟩
  · have z3 : ¬ (m : Int) < -(m : Int) := by omega
    go_enter Tryd.func4, Tryd.ntmps4
    go_wp2_with fail
    refine KN.out.mono ?_
    rintro e w1 ⟨rfl, b1⟩
    have s1 := b1.size
    go_wp2
    go_loopw [5, 6] (fun kv jv wr => ∃ k j : Nat, k < 47 ∧ kv = .int .i64 (k : Int) ∧ (j ≤ len1 ∧ j ≤ 200) ∧ jv = .int .i64 (j : Int) ∧ Below w.heap.size w wr) (fun _ jv _ => 200 - (intOf jv).toNat)
    case atStart => exact ⟨m, 0, by omega, by first | rfl | simp, by omega, rfl, b1⟩
    case round =>
      obtain ⟨k, j, hk, rfl, ⟨hj1, hj2⟩, rfl, hb⟩ := hrel
      have sb := hb.size
      by_cases c1 : j < len1
      · by_cases c2 : j < 200
        · have c1i : (j : Int) < (len1 : Int) := by omega
          have c2i : (j : Int) < 200 := by omega
          obtain ⟨b, o, rfl, hbl, f1⟩ := HB.out j c1
          have f2 := (hb.cell (p := ⟨b, o + j, none⟩) hbl).trans f1
          have AT := Lib.hid (at_in (TT.out.below pos hb) hk)
          obtain ⟨g1, g2, g3, g4, g5⟩ := ways_fact k hk
          generalize qe k = q at *
          generalize mps k = a at *
          generalize lps k = c at *
          have hq1 : ¬ (q : Int) < 1 := by omega
          have hq2 : ¬ (22017 : Int) < (q : Int) := by omega
          have ha1 : ¬ (a : Int) < 0 := by omega
          have ha2 : ¬ (46 : Int) < (a : Int) := by omega
          have hl1 : ¬ (c : Int) < 0 := by omega
          have hl2 : ¬ (46 : Int) < (c : Int) := by omega
          cases hsw : swp k
          · rw [hsw] at AT
            clear hsw f1 g3
            cases hB : B j
            · rw [hB] at f2
              clear hB
              go_wp2_with fail
              refine AT.out.mono ?_
              rintro e w2 ⟨rfl, b2⟩
              have b3 := hb.trans (b2.mono sb)
              have s3 := b3.size
              have f3 := (b2.cell (p := ⟨b, o + j, none⟩) (by show b < _; omega)).trans f2
              have bl3 : b < w2.heap.size := by have := b2.size; omega
              clear f2 AT b2
              have f4 := fun ob => (World.cell?_alloc_lt w2 ob ⟨b, o + j, none⟩ bl3).trans f3
              have b4 := fun ob => b3.alloc s3 ob
              go_wp2
              go_roundw
              case rel => exact ⟨c, j + 1, by omega, by first | rfl | simp, by omega, by go_num, b4 _⟩
              case measure => simp [intOf] <;> omega
            · rw [hB] at f2
              clear hB
              go_wp2_with fail
              refine AT.out.mono ?_
              rintro e w2 ⟨rfl, b2⟩
              have b3 := hb.trans (b2.mono sb)
              have s3 := b3.size
              have f3 := (b2.cell (p := ⟨b, o + j, none⟩) (by show b < _; omega)).trans f2
              have bl3 : b < w2.heap.size := by have := b2.size; omega
              clear f2 AT b2
              have f4 := fun ob => (World.cell?_alloc_lt w2 ob ⟨b, o + j, none⟩ bl3).trans f3
              have b4 := fun ob => b3.alloc s3 ob
              go_wp2
              go_roundw
              case rel => exact ⟨a, j + 1, by omega, by first | rfl | simp, by omega, by go_num, b4 _⟩
              case measure => simp [intOf] <;> omega
          · rw [hsw] at AT
            obtain rfl : q = 22017 := g3 hsw
            clear hsw f1 g3
            cases hB : B j
            · rw [hB] at f2
              clear hB
              go_wp2_with fail
              refine AT.out.mono ?_
              rintro e w2 ⟨rfl, b2⟩
              have b3 := hb.trans (b2.mono sb)
              have s3 := b3.size
              have f3 := (b2.cell (p := ⟨b, o + j, none⟩) (by show b < _; omega)).trans f2
              have bl3 : b < w2.heap.size := by have := b2.size; omega
              clear f2 AT b2
              have f4 := fun ob => (World.cell?_alloc_lt w2 ob ⟨b, o + j, none⟩ bl3).trans f3
              have b4 := fun ob => b3.alloc s3 ob
              go_wp2
              go_roundw
              case rel => exact ⟨c, j + 1, by omega, by first | rfl | simp, by omega, by go_num, b4 _⟩
              case measure => simp [intOf] <;> omega
            · rw [hB] at f2
              clear hB
              go_wp2_with fail
              refine AT.out.mono ?_
              rintro e w2 ⟨rfl, b2⟩
              have b3 := hb.trans (b2.mono sb)
              have s3 := b3.size
              have f3 := (b2.cell (p := ⟨b, o + j, none⟩) (by show b < _; omega)).trans f2
              have bl3 : b < w2.heap.size := by have := b2.size; omega
              clear f2 AT b2
              have f4 := fun ob => (World.cell?_alloc_lt w2 ob ⟨b, o + j, none⟩ bl3).trans f3
              have b4 := fun ob => b3.alloc s3 ob
              go_wp2
              go_roundw
              case rel => exact ⟨a, j + 1, by omega, by first | rfl | simp, by omega, by go_num, b4 _⟩
              case measure => simp [intOf] <;> omega
        · have c2i : ¬ (j : Int) < 200 := by omega
          have c1i : (j : Int) < (len1 : Int) := by omega
          go_wp2
          go_ret
          exact ⟨rfl, hb⟩
      · have c1i : ¬ (j : Int) < (len1 : Int) := by omega
        go_wp2
        go_ret
        exact ⟨rfl, hb⟩
  · have z3 : -(m : Int) < (m : Int) := by omega
    go_enter Tryd.func4, Tryd.ntmps4
    go_wp2_with fail
    refine KN.out.mono ?_
    rintro e w1 ⟨rfl, b1⟩
    have s1 := b1.size
    go_wp2
    go_loopw [5, 6] (fun kv jv wr => ∃ k j : Nat, k < 47 ∧ kv = .int .i64 (k : Int) ∧ (j ≤ len1 ∧ j ≤ 200) ∧ jv = .int .i64 (j : Int) ∧ Below w.heap.size w wr) (fun _ jv _ => 200 - (intOf jv).toNat)
    case atStart => exact ⟨m, 0, by omega, by first | rfl | simp, by omega, rfl, b1⟩
    case round =>
      obtain ⟨k, j, hk, rfl, ⟨hj1, hj2⟩, rfl, hb⟩ := hrel
      have sb := hb.size
      by_cases c1 : j < len1
      · by_cases c2 : j < 200
        · have c1i : (j : Int) < (len1 : Int) := by omega
          have c2i : (j : Int) < 200 := by omega
          obtain ⟨b, o, rfl, hbl, f1⟩ := HB.out j c1
          have f2 := (hb.cell (p := ⟨b, o + j, none⟩) hbl).trans f1
          have AT := Lib.hid (at_in (TT.out.below pos hb) hk)
          obtain ⟨g1, g2, g3, g4, g5⟩ := ways_fact k hk
          generalize qe k = q at *
          generalize mps k = a at *
          generalize lps k = c at *
          have hq1 : ¬ (q : Int) < 1 := by omega
          have hq2 : ¬ (22017 : Int) < (q : Int) := by omega
          have ha1 : ¬ (a : Int) < 0 := by omega
          have ha2 : ¬ (46 : Int) < (a : Int) := by omega
          have hl1 : ¬ (c : Int) < 0 := by omega
          have hl2 : ¬ (46 : Int) < (c : Int) := by omega
          cases hsw : swp k
          · rw [hsw] at AT
            clear hsw f1 g3
            cases hB : B j
            · rw [hB] at f2
              clear hB
              go_wp2_with fail
              refine AT.out.mono ?_
              rintro e w2 ⟨rfl, b2⟩
              have b3 := hb.trans (b2.mono sb)
              have s3 := b3.size
              have f3 := (b2.cell (p := ⟨b, o + j, none⟩) (by show b < _; omega)).trans f2
              have bl3 : b < w2.heap.size := by have := b2.size; omega
              clear f2 AT b2
              have f4 := fun ob => (World.cell?_alloc_lt w2 ob ⟨b, o + j, none⟩ bl3).trans f3
              have b4 := fun ob => b3.alloc s3 ob
              go_wp2
              go_roundw
              case rel => exact ⟨c, j + 1, by omega, by first | rfl | simp, by omega, by go_num, b4 _⟩
              case measure => simp [intOf] <;> omega
            · rw [hB] at f2
              clear hB
              go_wp2_with fail
              refine AT.out.mono ?_
              rintro e w2 ⟨rfl, b2⟩
              have b3 := hb.trans (b2.mono sb)
              have s3 := b3.size
              have f3 := (b2.cell (p := ⟨b, o + j, none⟩) (by show b < _; omega)).trans f2
              have bl3 : b < w2.heap.size := by have := b2.size; omega
              clear f2 AT b2
              have f4 := fun ob => (World.cell?_alloc_lt w2 ob ⟨b, o + j, none⟩ bl3).trans f3
              have b4 := fun ob => b3.alloc s3 ob
              go_wp2
              go_roundw
              case rel => exact ⟨a, j + 1, by omega, by first | rfl | simp, by omega, by go_num, b4 _⟩
              case measure => simp [intOf] <;> omega
          · rw [hsw] at AT
            obtain rfl : q = 22017 := g3 hsw
            clear hsw f1 g3
            cases hB : B j
            · rw [hB] at f2
              clear hB
              go_wp2_with fail
              refine AT.out.mono ?_
              rintro e w2 ⟨rfl, b2⟩
              have b3 := hb.trans (b2.mono sb)
              have s3 := b3.size
              have f3 := (b2.cell (p := ⟨b, o + j, none⟩) (by show b < _; omega)).trans f2
              have bl3 : b < w2.heap.size := by have := b2.size; omega
              clear f2 AT b2
              have f4 := fun ob => (World.cell?_alloc_lt w2 ob ⟨b, o + j, none⟩ bl3).trans f3
              have b4 := fun ob => b3.alloc s3 ob
              go_wp2
              go_roundw
              case rel => exact ⟨c, j + 1, by omega, by first | rfl | simp, by omega, by go_num, b4 _⟩
              case measure => simp [intOf] <;> omega
            · rw [hB] at f2
              clear hB
              go_wp2_with fail
              refine AT.out.mono ?_
              rintro e w2 ⟨rfl, b2⟩
              have b3 := hb.trans (b2.mono sb)
              have s3 := b3.size
              have f3 := (b2.cell (p := ⟨b, o + j, none⟩) (by show b < _; omega)).trans f2
              have bl3 : b < w2.heap.size := by have := b2.size; omega
              clear f2 AT b2
              have f4 := fun ob => (World.cell?_alloc_lt w2 ob ⟨b, o + j, none⟩ bl3).trans f3
              have b4 := fun ob => b3.alloc s3 ob
              go_wp2
              go_roundw
              case rel => exact ⟨a, j + 1, by omega, by first | rfl | simp, by omega, by go_num, b4 _⟩
              case measure => simp [intOf] <;> omega
        · have c2i : ¬ (j : Int) < 200 := by omega
          have c1i : (j : Int) < (len1 : Int) := by omega
          go_wp2
          go_ret
          exact ⟨rfl, hb⟩
      · have c1i : ¬ (j : Int) < (len1 : Int) := by omega
        go_wp2
        go_ret
        exact ⟨rfl, hb⟩
end Go.Proofs.YtekfgkdihdmhoaaDoor
