/- Packets in order: the mathematics. -/
set_option linter.unusedVariables false
set_option linter.unusedSimpArgs false
namespace Go.Proofs.Ytejoedanhonpkaa
/-- A packet: its key, its place on the grid. -/
structure Pk where
  ly : Int
  rs : Int
  cp : Int
  pc : Int
  dn : Int
  ac : Int
instance : Inhabited Pk := ⟨⟨0, 0, 0, 0, 0, 0⟩⟩
theorem Pk.ext' {x y : Pk} (h1 : x.ly = y.ly) (h2 : x.rs = y.rs) (h3 : x.cp = y.cp) (h4 : x.pc = y.pc) (h5 : x.dn = y.dn) (h6 : x.ac = y.ac) : x = y := by
  cases x; cases y; simp only at h1 h2 h3 h4 h5 h6; subst h1 h2 h3 h4 h5 h6; rfl
def Pk.at (x : Pk) (l : Nat) : Pk := ⟨l, x.rs, x.cp, x.pc, x.dn, x.ac⟩
/-- By what a packet stands where it does. -/
def Pk.rk (o : Nat) (x : Pk) : List Int :=
  if o = 0 then [x.ly, x.rs, x.cp, x.pc, 0, 0]
  else if o = 1 then [x.rs, x.ly, x.cp, x.pc, 0, 0]
  else if o = 2 then [x.rs, x.dn, x.ac, x.cp, x.pc, x.ly]
  else if o = 3 then [x.dn, x.ac, x.cp, x.rs, x.pc, x.ly]
  else [x.cp, x.dn, x.ac, x.rs, x.pc, x.ly]
theorem Pk.rk_len (o : Nat) (x : Pk) : (x.rk o).length = 6 := by unfold Pk.rk; (repeat' split) <;> rfl
/-- Is one rank ahead of another? -/
def lexL : List Int → List Int → Bool
  | a :: l, b :: m => decide (a < b) || (decide (a = b) && lexL l m)
  | _, _ => false
theorem lexL_irrefl : ∀ l, lexL l l = false
  | [] => rfl
  | a :: l => by simp [lexL, lexL_irrefl l]
theorem lexL_trans : ∀ a b c, lexL a b = true → lexL b c = true → lexL a c = true
  | [], _, _, h, _ => by simp [lexL] at h
  | _ :: _, [], _, h, _ => by simp [lexL] at h
  | _ :: _, _ :: _, [], _, h => by simp [lexL] at h
  | x :: a, y :: b, z :: c, h1, h2 => by
    simp only [lexL, Bool.or_eq_true, decide_eq_true_eq, Bool.and_eq_true] at h1 h2 ⊢
    rcases h1 with h1 | ⟨h1, h1'⟩ <;> rcases h2 with h2 | ⟨h2, h2'⟩
    · left; omega
    · left; omega
    · left; omega
    · right; exact ⟨by omega, lexL_trans a b c h1' h2'⟩
theorem lexL_ntrans : ∀ a b c, a.length = b.length → b.length = c.length → lexL a b = false → lexL b c = false → lexL a c = false
  | [], _, _, _, _, _, _ => by simp [lexL]
  | _ :: _, [], _, h, _, _, _ => by simp at h
  | _ :: _, _ :: _, [], _, h, _, _ => by simp at h
  | x :: a, y :: b, z :: c, l1, l2, h1, h2 => by
    simp only [lexL, Bool.or_eq_false_iff, decide_eq_false_iff_not, Bool.and_eq_false_iff] at h1 h2 ⊢
    simp only [List.length_cons, Nat.add_right_cancel_iff] at l1 l2
    refine ⟨by omega, ?_⟩
    by_cases hxz : x = z
    · right
      refine lexL_ntrans a b c l1 l2 ?_ ?_
      · rcases h1.2 with h | h
        · omega
        · exact h
      · rcases h2.2 with h | h
        · omega
        · exact h
    · left; exact hxz
theorem lexL_total : ∀ a b, a.length = b.length → lexL a b = false → lexL b a = false → a = b
  | [], [], _, _, _ => rfl
  | [], _ :: _, h, _, _ => by simp at h
  | _ :: _, [], h, _, _ => by simp at h
  | x :: a, y :: b, l1, h1, h2 => by
    simp only [lexL, Bool.or_eq_false_iff, decide_eq_false_iff_not, Bool.and_eq_false_iff] at h1 h2
    simp only [List.length_cons, Nat.add_right_cancel_iff] at l1
    have e : x = y := by omega
    subst e
    rw [lexL_total a b l1 (by rcases h1.2 with h | h; exact absurd rfl h; exact h) (by rcases h2.2 with h | h; exact absurd rfl h; exact h)]
theorem lexL_asymm (a b : List Int) (h : lexL a b = true) : lexL b a = false := by
  cases h2 : lexL b a with
  | false => rfl
  | true => have := lexL_trans a b a h h2; rw [lexL_irrefl] at this; exact this.symm
/-- As slices.Compare tells it. -/
def cmpL : List Int → List Int → Int
  | a :: l, b :: m => if a < b then -1 else if b < a then 1 else cmpL l m
  | _, _ => 0
theorem cmpL_neg : ∀ a b, a.length = b.length → decide (cmpL a b < 0) = lexL a b
  | [], [], _ => by simp [cmpL, lexL]
  | [], _ :: _, h => by simp at h
  | _ :: _, [], h => by simp at h
  | x :: a, y :: b, h => by
    have ih := cmpL_neg a b (by simpa using h)
    simp only [cmpL, lexL]
    by_cases h1 : x < y
    · simp [h1]
    · by_cases h2 : y < x
      · simp [h1, h2, show ¬ x = y by omega]
      · have : x = y := by omega
        subst this
        simp [h1, ih]
def Srt (o : Nat) (l : List Pk) : Prop := l.Pairwise fun a b => lexL (b.rk o) (a.rk o) = false
/-- A tile's packets, told by numbers. -/
structure GE where
  nc : Nat
  lv : Nat
  wh : Nat → Nat → Nat
  dn : Nat → Nat → Nat → Int
  ac : Nat → Nat → Nat → Int
def GE.pk (G : GE) (l c r k : Nat) : Pk := ⟨l, r, c, k, G.dn c r k, G.ac c r k⟩
def GE.spots (G : GE) : List Pk := (List.range G.nc).flatMap fun c => (List.range (G.lv + 1)).flatMap fun r => (List.range (G.wh c r)).map fun k => G.pk 0 c r k
def GE.pks (G : GE) (n : Nat) : List Pk := G.spots.flatMap fun s => (List.range n).map s.at
def GE.rks (G : GE) (n : Nat) : List Pk := (List.range n).flatMap fun l => G.spots.map fun s => s.at l
theorem GE.mem_spots (G : GE) (x : Pk) : x ∈ G.spots ↔ ∃ c r k, c < G.nc ∧ r ≤ G.lv ∧ k < G.wh c r ∧ x = G.pk 0 c r k := by
  simp only [GE.spots, List.mem_flatMap, List.mem_range, List.mem_map]
  constructor
  · rintro ⟨c, hc, r, hr, k, hk, rfl⟩; exact ⟨c, r, k, hc, by omega, hk, rfl⟩
  · rintro ⟨c, r, k, hc, hr, hk, rfl⟩; exact ⟨c, hc, r, by omega, k, hk, rfl⟩
theorem GE.mem_pks (G : GE) (n : Nat) (x : Pk) : x ∈ G.pks n ↔ ∃ l c r k, l < n ∧ c < G.nc ∧ r ≤ G.lv ∧ k < G.wh c r ∧ x = G.pk l c r k := by
  simp only [GE.pks, List.mem_flatMap, List.mem_map, List.mem_range, G.mem_spots]
  constructor
  · rintro ⟨s, ⟨c, r, k, hc, hr, hk, rfl⟩, l, hl, rfl⟩; exact ⟨l, c, r, k, hl, hc, hr, hk, rfl⟩
  · rintro ⟨l, c, r, k, hl, hc, hr, hk, rfl⟩; exact ⟨_, ⟨c, r, k, hc, hr, hk, rfl⟩, l, hl, rfl⟩
theorem GE.mem_rks (G : GE) (n : Nat) (x : Pk) : x ∈ G.rks n ↔ ∃ l c r k, l < n ∧ c < G.nc ∧ r ≤ G.lv ∧ k < G.wh c r ∧ x = G.pk l c r k := by
  simp only [GE.rks, List.mem_flatMap, List.mem_map, List.mem_range, G.mem_spots]
  constructor
  · rintro ⟨l, hl, s, ⟨c, r, k, hc, hr, hk, rfl⟩, rfl⟩; exact ⟨l, c, r, k, hl, hc, hr, hk, rfl⟩
  · rintro ⟨l, c, r, k, hl, hc, hr, hk, rfl⟩; exact ⟨l, hl, _, ⟨c, r, k, hc, hr, hk, rfl⟩, rfl⟩
theorem nodup_range_map {α : Type} (n : Nat) (f : Nat → α) (h : ∀ i j, i < n → j < n → f i = f j → i = j) : ((List.range n).map f).Nodup := by
  rw [List.nodup_iff_pairwise_ne, List.pairwise_map, List.pairwise_iff_getElem]
  intro i j hi hj hij he
  simp only [List.length_range, List.getElem_range] at hi hj he
  have := h i j hi hj he
  omega
theorem nodup_range_flat {α : Type} (n : Nat) (f : Nat → List α) (h1 : ∀ i, i < n → (f i).Nodup) (h2 : ∀ i j, i < n → j < n → i ≠ j → ∀ x, x ∈ f i → x ∈ f j → False) : ((List.range n).flatMap f).Nodup := by
  rw [List.nodup_iff_pairwise_ne, List.pairwise_flatMap]
  refine ⟨fun i hi => h1 i (List.mem_range.1 hi), ?_⟩
  rw [List.pairwise_iff_getElem]
  intro i j hi hj hij x hx y hy he
  simp only [List.length_range, List.getElem_range] at hi hj hx hy
  subst he
  exact h2 i j hi hj (by omega) x hx hy
theorem GE.spots_nodup (G : GE) : G.spots.Nodup := by
  refine nodup_range_flat _ _ (fun c hc => nodup_range_flat _ _ (fun r hr => nodup_range_map _ _ ?_) ?_) ?_
  · intro i j _ _ h
    have := congrArg Pk.pc h
    simp only [GE.pk] at this
    omega
  · intro i j _ _ hne x hx hy
    simp only [List.mem_map, List.mem_range] at hx hy
    obtain ⟨k, _, rfl⟩ := hx
    obtain ⟨k', _, h⟩ := hy
    have := congrArg Pk.rs h
    simp only [GE.pk] at this
    omega
  · intro i j _ _ hne x hx hy
    simp only [List.mem_flatMap, List.mem_map, List.mem_range] at hx hy
    obtain ⟨r, _, k, _, rfl⟩ := hx
    obtain ⟨r', _, k', _, h⟩ := hy
    have := congrArg Pk.cp h
    simp only [GE.pk] at this
    omega
theorem GE.rks_nodup (G : GE) (n : Nat) : (G.rks n).Nodup := by
  refine nodup_range_flat _ _ (fun l hl => ?_) ?_
  · rw [List.nodup_iff_pairwise_ne, List.pairwise_map]
    refine List.Pairwise.imp_of_mem ?_ (List.nodup_iff_pairwise_ne.1 G.spots_nodup)
    intro a b ha hb hne he
    apply hne
    obtain ⟨c, r, k, _, _, _, rfl⟩ := (G.mem_spots _).1 ha
    obtain ⟨c', r', k', _, _, _, rfl⟩ := (G.mem_spots _).1 hb
    have h1 := congrArg Pk.rs he
    have h2 := congrArg Pk.cp he
    have h3 := congrArg Pk.pc he
    simp only [GE.pk, Pk.at] at h1 h2 h3
    have e1 : r = r' := by omega
    have e2 : c = c' := by omega
    have e3 : k = k' := by omega
    subst e1 e2 e3
    rfl
  · intro i j _ _ hne x hx hy
    simp only [List.mem_map] at hx hy
    obtain ⟨a, _, rfl⟩ := hx
    obtain ⟨b, _, h⟩ := hy
    have := congrArg Pk.ly h
    simp only [Pk.at] at this
    omega
theorem GE.pks_nodup (G : GE) (n : Nat) : (G.pks n).Nodup := by
  rw [List.nodup_iff_pairwise_ne, GE.pks, List.pairwise_flatMap]
  refine ⟨fun s hs => ?_, ?_⟩
  · refine nodup_range_map _ _ ?_
    intro i j _ _ h
    have := congrArg Pk.ly h
    simp only [Pk.at] at this
    omega
  · refine List.Pairwise.imp_of_mem ?_ (List.nodup_iff_pairwise_ne.1 G.spots_nodup)
    intro a b ha hb hne x hx y hy he
    simp only [List.mem_map, List.mem_range] at hx hy
    obtain ⟨l, _, rfl⟩ := hx
    obtain ⟨l', _, rfl⟩ := hy
    apply hne
    obtain ⟨c, r, k, _, _, _, rfl⟩ := (G.mem_spots _).1 ha
    obtain ⟨c', r', k', _, _, _, rfl⟩ := (G.mem_spots _).1 hb
    have h1 := congrArg Pk.rs he
    have h2 := congrArg Pk.cp he
    have h3 := congrArg Pk.pc he
    simp only [GE.pk, Pk.at] at h1 h2 h3
    have e1 : r = r' := by omega
    have e2 : c = c' := by omega
    have e3 : k = k' := by omega
    subst e1 e2 e3
    rfl
theorem GE.perm (G : GE) (n : Nat) : (G.rks n).Perm (G.pks n) := by
  rw [List.perm_ext_iff_of_nodup (G.rks_nodup n) (G.pks_nodup n)]
  intro x
  rw [G.mem_rks, G.mem_pks]
/-- Two packets of one tile that have one rank are one. -/
theorem GE.rk_inj (G : GE) (n o : Nat) (x y : Pk) (hx : x ∈ G.pks n) (hy : y ∈ G.pks n) (h : x.rk o = y.rk o) : x = y := by
  obtain ⟨l, c, r, k, _, _, _, _, rfl⟩ := (G.mem_pks n x).1 hx
  obtain ⟨l', c', r', k', _, _, _, _, rfl⟩ := (G.mem_pks n y).1 hy
  have H : (l : Int) = l' ∧ (c : Int) = c' ∧ (r : Int) = r' ∧ (k : Int) = k' := by
    unfold Pk.rk at h
    by_cases h0 : o = 0
    · simp only [h0, if_true, GE.pk, List.cons.injEq, and_true] at h; omega
    by_cases h1 : o = 1
    · simp only [h0, h1, if_true, if_false, GE.pk, List.cons.injEq, and_true] at h; simp at h; omega
    by_cases h2 : o = 2
    · simp only [h0, h1, h2, if_true, if_false, GE.pk, List.cons.injEq, and_true] at h; simp at h; omega
    by_cases h3 : o = 3
    · simp only [h0, h1, h2, h3, if_true, if_false, GE.pk, List.cons.injEq, and_true] at h; simp at h; omega
    · simp only [h0, h1, h2, h3, if_true, if_false, GE.pk, List.cons.injEq, and_true] at h; omega
  obtain ⟨a, b, e, f⟩ := H
  have a' : l = l' := by omega
  have b' : c = c' := by omega
  have e' : r = r' := by omega
  have f' : k = k' := by omega
  subst a' b' e' f'
  rfl
/-- The list that is in order. -/
structure OL (G : GE) (n o : Nat) (L : List Pk) : Prop where
  perm : L.Perm (G.pks n)
  srt : Srt o L
theorem OL.mem {G : GE} {n o : Nat} {L : List Pk} (h : OL G n o L) (x : Pk) : x ∈ L ↔ ∃ l c r k, l < n ∧ c < G.nc ∧ r ≤ G.lv ∧ k < G.wh c r ∧ x = G.pk l c r k := by
  rw [h.perm.mem_iff, G.mem_pks]
theorem OL.nodup {G : GE} {n o : Nat} {L : List Pk} (h : OL G n o L) : L.Nodup := h.perm.nodup_iff.2 (G.pks_nodup n)
theorem OL.unique {G : GE} {n o : Nat} {L M : List Pk} (h : OL G n o L) (h' : OL G n o M) : L = M := by
  refine List.Perm.eq_of_pairwise (le := fun a b => lexL (Pk.rk o b) (Pk.rk o a) = false) ?_ h.srt h'.srt (h.perm.trans h'.perm.symm)
  intro a b ha hb h1 h2
  exact G.rk_inj n o a b (h.perm.mem_iff.1 ha) (h'.perm.mem_iff.1 hb) (lexL_total _ _ (by rw [Pk.rk_len, Pk.rk_len]) h2 h1)
theorem OL.lt {G : GE} {n o : Nat} {L : List Pk} (h : OL G n o L) {i j : Nat} {a b : Pk} (hij : i < j) (ha : L[i]? = some a) (hb : L[j]? = some b) : lexL (a.rk o) (b.rk o) = true ∧ lexL (b.rk o) (a.rk o) = false := by
  obtain ⟨hi, rfl⟩ := List.getElem?_eq_some_iff.1 ha
  obtain ⟨hj, rfl⟩ := List.getElem?_eq_some_iff.1 hb
  have h2 : lexL (L[j].rk o) (L[i].rk o) = false := List.pairwise_iff_getElem.1 h.srt i j hi hj hij
  refine ⟨?_, h2⟩
  cases h1 : lexL (L[i].rk o) (L[j].rk o) with
  | true => rfl
  | false =>
    exfalso
    have he := G.rk_inj n o _ _ (h.perm.mem_iff.1 (List.getElem_mem hi)) (h.perm.mem_iff.1 (List.getElem_mem hj)) (lexL_total _ _ (by rw [Pk.rk_len, Pk.rk_len]) h1 h2)
    have hnd := List.pairwise_iff_getElem.1 (List.nodup_iff_pairwise_ne.1 h.nodup) i j hi hj hij
    exact hnd he
theorem OL.length {G : GE} {n o : Nat} {L : List Pk} (h : OL G n o L) : L.length = G.spots.length * n := by
  rw [h.perm.length_eq, GE.pks]
  induction G.spots with
  | nil => simp
  | cons a l ih => simp [List.flatMap_cons, ih, Nat.add_mul, Nat.add_comm]
/-- P1601: what is named first counts first. -/
theorem OL.first {G : GE} {n o : Nat} {L : List Pk} (h : OL G n o L) {i : Nat} {a b : Pk} (ha : L[i]? = some a) (hb : L[i + 1]? = some b) :
    (o = 0 → a.ly ≤ b.ly ∧ (b.ly = a.ly → a.rs ≤ b.rs ∧ (b.rs = a.rs → a.cp ≤ b.cp))) ∧ (o = 1 → a.rs ≤ b.rs ∧ (b.rs = a.rs → a.ly ≤ b.ly ∧ (b.ly = a.ly → a.cp ≤ b.cp))) ∧
    (o = 2 → a.rs ≤ b.rs) ∧ (2 < o → o ≠ 3 → a.cp ≤ b.cp) := by
  have H := (h.lt (Nat.lt_succ_self i) ha hb).1
  unfold Pk.rk at H
  refine ⟨?_, ?_, ?_, ?_⟩
  · intro h0
    subst h0
    simp [lexL] at H
    omega
  · intro h0
    subst h0
    simp [lexL] at H
    omega
  · intro h0
    subst h0
    simp [lexL] at H
    omega
  · intro h2 h3
    have e0 : ¬ o = 0 := by omega
    have e1 : ¬ o = 1 := by omega
    have e2 : ¬ o = 2 := by omega
    simp [lexL, e0, e1, e2, h3] at H
    omega
theorem lex_ly (G : GE) (o l l' c r k : Nat) (h : l < l') : lexL ((G.pk l c r k).rk o) ((G.pk l' c r k).rk o) = true := by
  have : (l : Int) < l' := by omega
  unfold Pk.rk
  (repeat' split) <;> simp [lexL, GE.pk, h]
/-- A precinct's layers, one behind the other, rise by one. -/
theorem OL.layers {G : GE} {n o : Nat} {L : List Pk} (h : OL G n o L) {i : Nat} {a b : Pk} (ha : L[i]? = some a) (hb : L[i + 1]? = some b) (h1 : a.cp = b.cp) (h2 : a.rs = b.rs) (h3 : a.pc = b.pc) : b.ly = a.ly + 1 := by
  obtain ⟨l, c, r, k, hl, hc, hr, hk, rfl⟩ := (h.mem a).1 (List.mem_of_getElem? ha)
  obtain ⟨l', c', r', k', hl', hc', hr', hk', rfl⟩ := (h.mem b).1 (List.mem_of_getElem? hb)
  simp only [GE.pk] at h1 h2 h3
  have e1 : c = c' := by omega
  have e2 : r = r' := by omega
  have e3 : k = k' := by omega
  subst e1 e2 e3
  have hlt := h.lt (Nat.lt_succ_self i) ha hb
  have hll : l < l' := by
    refine Nat.lt_of_not_le fun hn => ?_
    rcases Nat.lt_or_eq_of_le hn with hn | hn
    · rw [lex_ly G o l' l c r k hn] at hlt; simp at hlt
    · subst hn; rw [lexL_irrefl] at hlt; simp at hlt
  show ((l' : Nat) : Int) = (l : Int) + 1
  refine Classical.byContradiction fun hne => ?_
  have hl2 : l + 1 < l' := by omega
  have hm : G.pk (l + 1) c r k ∈ L := (h.mem _).2 ⟨l + 1, c, r, k, by omega, hc, hr, hk, rfl⟩
  obtain ⟨j, hj⟩ := List.getElem?_of_mem hm
  have s1 := lex_ly G o l (l + 1) c r k (by omega)
  have s2 := lex_ly G o (l + 1) l' c r k hl2
  rcases Nat.lt_trichotomy j i with hji | hji | hji
  · have := (h.lt hji hj ha).2; rw [s1] at this; cases this
  · subst hji; rw [ha] at hj; injection hj with hj; rw [hj, lexL_irrefl] at s1; cases s1
  · rcases Nat.lt_trichotomy j (i + 1) with hk2 | hk2 | hk2
    · omega
    · subst hk2; rw [hb] at hj; injection hj with hj; rw [hj, lexL_irrefl] at s2; cases s2
    · have := (h.lt hk2 hb hj).2; rw [s2] at this; cases this
/-- P1602: each packet once: within its bounds, and no other has its key. -/
theorem OL.once {G : GE} {n o : Nat} {L : List Pk} (h : OL G n o L) {i : Nat} {a : Pk} (ha : L[i]? = some a) (c r : Nat) (hc : a.cp = c) (hr : a.rs = r) :
    ∃ l k : Nat, a.ly = l ∧ a.pc = k ∧ l < n ∧ k < G.wh c r ∧ ∀ j b, j < i → L[j]? = some b → b.cp = c → b.rs = r → b.pc * (n : Int) + b.ly ≠ a.pc * (n : Int) + a.ly := by
  obtain ⟨l, c1, r1, k, hl, _, _, hk, rfl⟩ := (h.mem a).1 (List.mem_of_getElem? ha)
  simp only [GE.pk] at hc hr
  have e1 : c1 = c := by omega
  have e2 : r1 = r := by omega
  subst e1 e2
  refine ⟨l, k, rfl, rfl, hl, hk, ?_⟩
  intro j b hj hb hbc hbr he
  obtain ⟨l', c2, r2, k', hl', _, _, hk', rfl⟩ := (h.mem b).1 (List.mem_of_getElem? hb)
  simp only [GE.pk] at hbc hbr he
  have e3 : c2 = c1 := by omega
  have e4 : r2 = r1 := by omega
  subst e3 e4
  have he' : k' * n + l' = k * n + l := by
    have : ((k' * n + l' : Nat) : Int) = ((k * n + l : Nat) : Int) := by push_cast; exact he
    exact Int.ofNat.inj this
  have e5 : k' = k := by
    have d1 : (k' * n + l') / n = k' := by rw [Nat.mul_comm, Nat.mul_add_div (by omega)]; rw [Nat.div_eq_of_lt hl']; rfl
    have d2 : (k * n + l) / n = k := by rw [Nat.mul_comm, Nat.mul_add_div (by omega)]; rw [Nat.div_eq_of_lt hl]; rfl
    rw [← d1, ← d2, he']
  subst e5
  have e6 : l' = l := by omega
  subst e6
  have := (h.lt hj hb ha).1
  rw [lexL_irrefl] at this
  cases this
/-- P1601: of fewer layers: those that stay stand as they stood. -/
theorem OL.fewer {G : GE} {n m o : Nat} {L M : List Pk} (h : OL G n o L) (h' : OL G m o M) (hn : n ≤ m) : M.filter (fun x => decide (x.ly < (n : Int))) = L := by
  refine OL.unique (G := G) (n := n) (o := o) ⟨?_, ?_⟩ h
  · rw [List.perm_ext_iff_of_nodup (h'.nodup.sublist List.filter_sublist) (G.pks_nodup n)]
    intro x
    rw [List.mem_filter, h'.mem, G.mem_pks]
    constructor
    · rintro ⟨⟨l, c, r, k, hl, hc, hr, hk, rfl⟩, hx⟩
      have hx' : ((l : Nat) : Int) < n := of_decide_eq_true hx
      exact ⟨l, c, r, k, by omega, hc, hr, hk, rfl⟩
    · rintro ⟨l, c, r, k, hl, hc, hr, hk, rfl⟩
      refine ⟨⟨l, c, r, k, by omega, hc, hr, hk, rfl⟩, ?_⟩
      refine decide_eq_true (show ((l : Nat) : Int) < n from ?_)
      omega
  · exact List.Pairwise.sublist List.filter_sublist h'.srt
theorem GE.spots_len (G : GE) : G.spots.length = ((List.range G.nc).map fun c => ((List.range (G.lv + 1)).map fun r => G.wh c r).sum).sum := by
  simp [GE.spots, List.length_flatMap]
end Go.Proofs.Ytejoedanhonpkaa
