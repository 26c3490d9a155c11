/- Packets in order: the library's sort at ranked packets; how two are compared. -/
import Derived.Shelf.SlSortCmp.NoneTotal
import Derived.Test.YtejoedanhonpkaaOrA
set_option linter.unusedVariables false
set_option linter.unusedSimpArgs false
namespace Go.Proofs.Ytejoedanhonpkaa
open Go.RowKit Go.Shelf Go.Sort Go.Lib
set_option maxRecDepth 100000
def sortPk_ren : Go.Shelf.Ren := ⟨fun | 6 => 44 | 15 => 56 | 14 => 55 | 28 => 70 | 29 => 71 | 20 => 62 | 21 => 63 | 22 => 64 | 23 => 65 | 24 => 66 | 25 => 67 | 26 => 68 | 27 => 69 | 46 => 74 | 47 => 75 | 48 => 76 | 49 => 77 | 50 => 78 | 57 => 79 | n => n, fun | 22 => 85 | 24 => 87 | 25 => 89 | 3 => 3 | 39 => 81 | 0 => 0 | 53 => 109 | 55 => 111 | 4 => 4 | 46 => 103 | 45 => 102 | 50 => 94 | 5 => 5 | 9 => 9 | 66 => 113 | 70 => 117 | 76 => 119 | 77 => 49 | n => n, fun | n => n⟩
set_option maxRecDepth 100000 in
theorem sortPk : Go.Proofs.SlLaysF0.n6 Try.prog sortPk_ren := {
  mixed := by kernel_rfl
  f6 := ⟨Try.f44.name, by decide, Try.func44.trans (congrArg some (by kernel_rfl))⟩
  f14 := ⟨Try.f55.name, by decide, Try.func55.trans (congrArg some (by kernel_rfl))⟩
  f15 := Try.func56.trans (congrArg some (by kernel_rfl))
  f20 := ⟨Try.f62.name, by decide, Try.func62.trans (congrArg some (by kernel_rfl))⟩
  f21 := ⟨Try.f63.name, by decide, Try.func63.trans (congrArg some (by kernel_rfl))⟩
  f22 := ⟨Try.f64.name, by decide, Try.func64.trans (congrArg some (by kernel_rfl))⟩
  f23 := ⟨Try.f65.name, by decide, Try.func65.trans (congrArg some (by kernel_rfl))⟩
  f24 := ⟨Try.f66.name, by decide, Try.func66.trans (congrArg some (by kernel_rfl))⟩
  f25 := ⟨Try.f67.name, by decide, Try.func67.trans (congrArg some (by kernel_rfl))⟩
  f26 := ⟨Try.f68.name, by decide, Try.func68.trans (congrArg some (by kernel_rfl))⟩
  f27 := ⟨Try.f69.name, by decide, Try.func69.trans (congrArg some (by kernel_rfl))⟩
  f28 := Try.func70.trans (congrArg some (by kernel_rfl))
  f29 := Try.func71.trans (congrArg some (by kernel_rfl))
  f46 := ⟨Try.f74.name, by decide, Try.func74.trans (congrArg some (by kernel_rfl))⟩
  f47 := Try.func75.trans (congrArg some (by kernel_rfl))
  f48 := Try.func76.trans (congrArg some (by kernel_rfl))
  f49 := ⟨Try.f77.name, by decide, Try.func77.trans (congrArg some (by kernel_rfl))⟩
  f50 := ⟨Try.f78.name, by decide, Try.func78.trans (congrArg some (by kernel_rfl))⟩
  f57 := ⟨Try.f79.name, by decide, Try.func79.trans (congrArg some (by kernel_rfl))⟩
  t0 := Try.underlying0
  a0 := Try.isAgg0
  z0 := Try.sizeOf0
  v0 := Try.zeroValue0
  t3 := Try.underlying3
  a3 := Try.isAgg3
  z3 := Try.sizeOf3
  v3 := Try.zeroValue3
  t4 := Try.underlying4
  a4 := Try.isAgg4
  z4 := Try.sizeOf4
  v4 := Try.zeroValue4
  t5 := Try.underlying5
  a5 := Try.isAgg5
  z5 := Try.sizeOf5
  v5 := Try.zeroValue5
  t9 := Try.underlying9
  a9 := Try.isAgg9
  z9 := Try.sizeOf9
  v9 := Try.zeroValue9
  t22 := Try.underlying85
  a22 := Try.isAgg85
  z22 := Try.sizeOf85
  v22 := Try.zeroValue85
  t25 := Try.underlying89
  a25 := Try.isAgg89
  z25 := Try.sizeOf89
  v25 := Try.zeroValue89
  t39 := Try.underlying81
  a39 := Try.isAgg81
  z39 := Try.sizeOf81
  v39 := Try.zeroValue81
  t45 := Try.underlying102
  a45 := Try.isAgg102
  z45 := Try.sizeOf102
  v45 := Try.zeroValue102
  t46 := Try.underlying103
  a46 := Try.isAgg103
  z46 := Try.sizeOf103
  v46 := Try.zeroValue103
  t50 := Try.underlying94
  a50 := Try.isAgg94
  z50 := Try.sizeOf94
  v50 := Try.zeroValue94
  t53 := Try.underlying109
  a53 := Try.isAgg109
  z53 := Try.sizeOf109
  v53 := Try.zeroValue109
  t55 := Try.underlying111
  a55 := Try.isAgg111
  z55 := Try.sizeOf111
  v55 := Try.zeroValue111
  t66 := Try.underlying113
  a66 := Try.isAgg113
  z66 := Try.sizeOf113
  v66 := Try.zeroValue113
  t70 := Try.underlying117
  a70 := Try.isAgg117
  z70 := Try.sizeOf117
  v70 := Try.zeroValue117
  t76 := Try.underlying119
  a76 := Try.isAgg119
  z76 := Try.sizeOf119
  v76 := Try.zeroValue119
  t77 := Try.underlying49
  a77 := Try.isAgg49
  z77 := Try.sizeOf49
  v77 := Try.zeroValue49 }

/-- A ranked packet's cells. -/
def encR (o : Nat) (x : Pk) : List Value := [.int .i64 x.ly, .int .i64 x.rs, .int .i64 x.cp, .int .i64 x.pc, .int .i64 x.dn, .int .i64 x.ac] ++ (x.rk o).map (Value.int .i64)
theorem encR_len (o : Nat) (x : Pk) : (encR o x).length = 12 := by simp [encR, Pk.rk_len]
theorem encR_one (o : Nat) (x : Pk) : ∀ v ∈ encR o x, v.oneCell' = true := by
  intro v hv
  simp only [encR, List.mem_append, List.mem_cons, List.not_mem_nil, or_false, List.mem_map] at hv
  rcases hv with (h | h | h | h | h | h) | ⟨a, _, h⟩ <;> (subst h; rfl)
def cfR (o : Nat) (x y : Pk) : Int := cmpL (x.rk o) (y.rk o)
theorem cfR_lt (o : Nat) (x y : Pk) : ltOf (cfR o) x y = lexL (x.rk o) (y.rk o) := cmpL_neg _ _ (by rw [Pk.rk_len, Pk.rk_len])
theorem cfR_swo (o : Nat) : SWO (ltOf (cfR o)) where
  irrefl x := by rw [cfR_lt]; exact lexL_irrefl _
  trans x y z h1 h2 := by rw [cfR_lt] at *; exact lexL_trans _ _ _ h1 h2
  ntrans x y z h1 h2 := by rw [cfR_lt] at *; exact lexL_ntrans _ _ _ (by rw [Pk.rk_len, Pk.rk_len]) (by rw [Pk.rk_len, Pk.rk_len]) h1 h2
theorem grow_two' (W : World) (a : Array Obj) (q : Nat) (os : Array Obj) : grow ((grow W a).drewN q) os = grow (W.drewN q) (a ++ os) := by
  have h : (grow W a).drewN q = grow (W.drewN q) a := rfl
  rw [h, grow_grow]
theorem cmp45 (o : Nat) (x y : Pk) (bc : Nat) (W : World) (hc : W.cell? ⟨bc, 0, none⟩ = some (.func (.func 29) #[] #[])) :
    Calls Try.prog 45 #[.agg (encR o x).toArray, .agg (encR o y).toArray, .pointer (some ⟨bc, 0, none⟩)] W fun e w' => e = .returned (.int .i64 (cfR o x y)) ∧ ∃ q os, w' = grow (W.drewN q) os := by
  have CC := fun u => compare_any (x := x) (y := y) o u
  unfold encR cfR
  obtain ⟨a0, a1, a2, a3, a4, a5, ha⟩ : ∃ a0 a1 a2 a3 a4 a5, x.rk o = [a0, a1, a2, a3, a4, a5] := rk_six o x
  obtain ⟨b0, b1, b2, b3, b4, b5, hb⟩ : ∃ a0 a1 a2 a3 a4 a5, y.rk o = [a0, a1, a2, a3, a4, a5] := rk_six o y
  rw [ha, hb] at CC ⊢
  have CC2 : Hid (∀ u, Calls Try.prog 29 #[.agg #[.int .i64 a0, .int .i64 a1, .int .i64 a2, .int .i64 a3, .int .i64 a4, .int .i64 a5], .agg #[.int .i64 b0, .int .i64 b1, .int .i64 b2, .int .i64 b3, .int .i64 b4, .int .i64 b5]] u fun e w' => e = .returned (.int .i64 (cmpL [a0, a1, a2, a3, a4, a5] [b0, b1, b2, b3, b4, b5])) ∧ ∃ q os, w' = grow (u.drewN q) os) := Lib.hid CC
  obtain ⟨r, hr⟩ : ∃ r, cmpL [a0, a1, a2, a3, a4, a5] [b0, b1, b2, b3, b4, b5] = r := ⟨_, rfl⟩
  rw [hr] at CC2 ⊢
  clear CC ha hb hr
  obtain ⟨xl, xr, xc, xp, xd, xa⟩ := x
  obtain ⟨yl, yr, yc, yp, yd, ya⟩ := y
  show Calls Try.prog 45 #[.agg #[.int .i64 xl, .int .i64 xr, .int .i64 xc, .int .i64 xp, .int .i64 xd, .int .i64 xa, .int .i64 a0, .int .i64 a1, .int .i64 a2, .int .i64 a3, .int .i64 a4, .int .i64 a5], .agg #[.int .i64 yl, .int .i64 yr, .int .i64 yc, .int .i64 yp, .int .i64 yd, .int .i64 ya, .int .i64 b0, .int .i64 b1, .int .i64 b2, .int .i64 b3, .int .i64 b4, .int .i64 b5], .pointer (some ⟨bc, 0, none⟩)] W _
  obtain ⟨o1, ho1⟩ : ∃ o1, Obj.cells #[.int .i64 xl, .int .i64 xr, .int .i64 xc, .int .i64 xp, .int .i64 xd, .int .i64 xa, .int .i64 a0, .int .i64 a1, .int .i64 a2, .int .i64 a3, .int .i64 a4, .int .i64 a5] 87 (0, 0) = o1 := ⟨_, rfl⟩
  obtain ⟨o2, ho2⟩ : ∃ o2, Obj.cells #[.int .i64 yl, .int .i64 yr, .int .i64 yc, .int .i64 yp, .int .i64 yd, .int .i64 ya, .int .i64 b0, .int .i64 b1, .int .i64 b2, .int .i64 b3, .int .i64 b4, .int .i64 b5] 87 (0, 0) = o2 := ⟨_, rfl⟩
  have hcb := World.block_lt_of_cell? W _ hc
  have hc2 : ((W.alloc o1).alloc o2).cell? ⟨bc, 0, none⟩ = some (.func (.func 29) #[] #[]) := (World.cell?_alloc_lt _ _ _ (by simp; exact Nat.lt_succ_of_lt hcb)).trans ((World.cell?_alloc_lt _ _ _ hcb).trans hc)
  have H1 := Lib.hid ho1
  have H2 := Lib.hid ho2
  subst ho1 ho2
  go_enter Try.func45, Try.ntmps45
  go_wp2_with (go_at_call 29; refine (CC2.out _).mono ?_; rintro e w1 ⟨rfl, q, os, rfl⟩)
  go_ret
  exact ⟨rfl, q, _, by rw [alloc_eq_grow, alloc_eq_grow, grow_grow]; exact grow_two' _ _ _ _⟩
theorem sortWorld_cell (o : Nat) (w : World) (blk off m : Nat) (dk : Array Pk) (os : Array Obj) (a : Addr) (v : Value) (ha : a.block ≠ blk) (hw : w.cell? a = some v) (hb : blk < w.heap.size) : (sortWorldK (encR o) 12 w blk off m dk os).cell? a = some v := by
  unfold sortWorldK
  have hlt := World.block_lt_of_cell? w _ hw
  have h1 : (putRowK (encR o) 12 (Sort.ahead w m) blk off dk).cell? a = some v := by rw [cell?_putRowK_other _ _ _ _ _ _ _ ha]; exact hw
  have h2 := World.block_lt_of_cell? _ _ h1
  unfold World.cell? at h1 ⊢
  simp only [grow, Array.getElem?_append, h2, if_true]
  exact h1
/-- slices.SortFunc at ranked packets. -/
theorem sortf_any (o : Nat) (bc blk cap : Nat) (d : Array Pk) (w : World) (hc : w.cell? ⟨bc, 0, none⟩ = some (.func (.func 29) #[] #[])) (hne : bc ≠ blk) (hH : HoldsK (encR o) 12 w blk 0 d) (hblk : blk < w.heap.size) (hsz : d.size < 4611686018427387904) :
    Calls Try.prog 44 #[.slice (some ⟨blk, 0, none⟩) d.size cap, .func (.func 45) #[] #[.pointer (some ⟨bc, 0, none⟩)]] w fun e w' =>
      e = .returned (.tuple #[]) ∧ ∃ (d' : Array Pk), d'.size = d.size ∧ d'.toList.Perm d.toList ∧ Srt o d'.toList ∧ HoldsK (encR o) 12 w' blk 0 d' ∧ w.grownBy w' (some blk) := by
  refine (AnyQ.slices_SortFunc sortPk 12 Try.isAgg87 Try.sizeOf87 (encR o) (encR_len o) (encR_one o) (cfR o) (cfR_swo o) 45 #[.pointer (some ⟨bc, 0, none⟩)] blk 0 cap d w
    (enters_of Try.func45 (by kernel_rfl) rfl) (fun m os dk hs x y => ?_) hH hblk hsz).mono ?_
  · exact cmp45 o x y bc _ (sortWorld_cell o w blk 0 m dk os _ _ hne hc hblk)
  · rintro e w' ⟨rfl, d', n, os, hp, hs, rfl⟩
    refine ⟨rfl, d', hp.1, ?_, ?_, holdsK_sortWorldK _ _ _ _ _ _ d _ _ hblk hH hp.1, ?_⟩
    · have h := hp.2.2
      have e1 : d'.extract 0 d.size = d' := by rw [← hp.1]; exact Array.extract_size
      rw [e1, Array.extract_size] at h
      exact h
    · unfold Srt
      rw [List.pairwise_iff_getElem]
      intro i j hi hj hij
      have hi' : i < d'.size := by simpa using hi
      have hj' : j < d'.size := by simpa using hj
      have := hs i j (Nat.zero_le _) hij (by rw [← hp.1]; exact hj')
      rw [getElem!_pos d' j hj', getElem!_pos d' i hi', cfR_lt] at this
      simpa using this
    · refine ⟨rfl, rfl, rfl, ?_, fun k hk hne' => ?_⟩
      · simp [sortWorldK, grow, putRowK, putRow, mapBlock, Sort.ahead]
      · have hkb : k ≠ blk := fun e => hne' (by rw [e])
        simp [sortWorldK, grow, putRowK, putRow, mapBlock, Sort.ahead, Array.getElem?_append, hk, Array.getElem_modify, Ne.symm hkb]
end Go.Proofs.Ytejoedanhonpkaa
