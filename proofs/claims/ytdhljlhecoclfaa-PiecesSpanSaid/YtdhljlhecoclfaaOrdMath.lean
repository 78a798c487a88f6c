/- Numbers put in order: the k-th of them, by how many are less. No dump is imported. -/
namespace Go.Proofs.Ytdhljlhecoclfaa.Ord
set_option linter.unusedVariables false
def less (l : List Int) (x : Int) : Nat := l.countP (fun y => decide (y < x))
def upto (l : List Int) (x : Int) : Nat := l.countP (fun y => decide (y ≤ x))
def Ranks (l : List Int) (k : Nat) (x : Int) : Prop := x ∈ l ∧ less l x ≤ k ∧ k < upto l x
/-- Where x is put among the first j of out. -/
def posN (out : List Int) (x : Int) : Nat → Nat
  | 0 => 0
  | j + 1 => if x < out[j]?.getD 0 then posN out x j else j + 1
def put (out : List Int) (x : Int) : List Int := out.take (posN out x out.length) ++ x :: out.drop (posN out x out.length)
def srt (l : List Int) : List Int := l.foldl put []
def kth (l : List Int) (k : Nat) : Int := (srt l)[k]?.getD 0
theorem posN_le (out : List Int) (x : Int) : ∀ j, posN out x j ≤ j
  | 0 => Nat.le_refl _
  | j + 1 => by
    unfold posN
    split
    · exact Nat.le_succ_of_le (posN_le out x j)
    · exact Nat.le_refl _
theorem posN_hi (out : List Int) (x : Int) : ∀ j i, posN out x j ≤ i → i < j → x < out[i]?.getD 0
  | 0, i, _, h => absurd h (Nat.not_lt_zero _)
  | j + 1, i, h1, h2 => by
    unfold posN at h1
    split at h1
    · rename_i hx
      rcases Nat.lt_or_ge i j with h3 | h3
      · exact posN_hi out x j i h1 h3
      · have : i = j := by omega
        subst this
        exact hx
    · omega
theorem posN_lo (out : List Int) (x : Int) : ∀ j, 0 < posN out x j → out[posN out x j - 1]?.getD 0 ≤ x
  | 0, h => absurd h (Nat.lt_irrefl _)
  | j + 1, h => by
    unfold posN at h ⊢
    split
    · rename_i hx
      rw [if_pos hx] at h
      exact posN_lo out x j h
    · rename_i hx
      simp
      omega
theorem put_perm (out : List Int) (x : Int) : (put out x).Perm (x :: out) := by
  unfold put
  refine List.perm_middle.trans ?_
  rw [List.take_append_drop]
theorem sorted_get {s : List Int} (h : s.Pairwise (· ≤ ·)) {i j : Nat} (hij : i ≤ j) (hj : j < s.length) : s[i]?.getD 0 ≤ s[j]?.getD 0 := by
  rcases Nat.lt_or_ge i j with h1 | h1
  · rw [List.getElem?_eq_getElem hj, List.getElem?_eq_getElem (by omega)]
    exact List.pairwise_iff_getElem.1 h i j (by omega) hj h1
  · have : i = j := by omega
    subst this
    exact Int.le_refl _
theorem mem_take_get {s : List Int} {k : Nat} {a : Int} (h : a ∈ s.take k) : ∃ i, i < k ∧ i < s.length ∧ s[i]?.getD 0 = a := by
  obtain ⟨i, hi, e⟩ := List.mem_iff_getElem.1 h
  simp at hi
  refine ⟨i, by omega, by omega, ?_⟩
  rw [List.getElem?_eq_getElem (by omega)]
  simpa using e
theorem mem_drop_get {s : List Int} {k : Nat} {a : Int} (h : a ∈ s.drop k) : ∃ i, k ≤ i ∧ i < s.length ∧ s[i]?.getD 0 = a := by
  obtain ⟨i, hi, e⟩ := List.mem_iff_getElem.1 h
  simp at hi
  refine ⟨k + i, by omega, by omega, ?_⟩
  rw [List.getElem?_eq_getElem (by omega)]
  simpa using e
theorem put_sorted (out : List Int) (x : Int) (h : out.Pairwise (· ≤ ·)) : (put out x).Pairwise (· ≤ ·) := by
  have hle := posN_le out x out.length
  have ha : ∀ a ∈ out.take (posN out x out.length), a ≤ x := by
    intro a hm
    obtain ⟨i, h1, h2, rfl⟩ := mem_take_get hm
    have h3 := posN_lo out x out.length (by omega)
    have h4 := sorted_get h (i := i) (j := posN out x out.length - 1) (by omega) (by omega)
    omega
  have hb : ∀ b ∈ out.drop (posN out x out.length), x ≤ b := by
    intro b hm
    obtain ⟨i, h1, h2, rfl⟩ := mem_drop_get hm
    have := posN_hi out x out.length i h1 h2
    omega
  have hp := h
  rw [← List.take_append_drop (posN out x out.length) out] at hp
  obtain ⟨p1, p2, p3⟩ := List.pairwise_append.1 hp
  unfold put
  refine List.pairwise_append.2 ⟨p1, List.pairwise_cons.2 ⟨hb, p2⟩, ?_⟩
  intro a hm b hn
  rcases List.mem_cons.1 hn with rfl | hn
  · exact ha a hm
  · exact p3 a hm b hn
theorem foldl_put_perm : ∀ (l acc : List Int), (l.foldl put acc).Perm (acc ++ l)
  | [], acc => by simp
  | x :: l, acc => by
    rw [List.foldl_cons]
    refine (foldl_put_perm l (put acc x)).trans ?_
    refine ((put_perm acc x).append_right l).trans ?_
    exact List.perm_middle.symm
theorem foldl_put_sorted : ∀ (l acc : List Int), acc.Pairwise (· ≤ ·) → (l.foldl put acc).Pairwise (· ≤ ·)
  | [], acc, h => h
  | x :: l, acc, h => foldl_put_sorted l _ (put_sorted acc x h)
theorem srt_perm (l : List Int) : (srt l).Perm l := by simpa [srt] using foldl_put_perm l []
theorem srt_sorted (l : List Int) : (srt l).Pairwise (· ≤ ·) := foldl_put_sorted l [] List.Pairwise.nil
theorem srt_len (l : List Int) : (srt l).length = l.length := (srt_perm l).length_eq
theorem srt_next (l : List Int) (k : Nat) (h : k < l.length) : srt (l.take (k + 1)) = put (srt (l.take k)) l[k] := by
  unfold srt
  rw [List.take_succ_eq_append_getElem h, List.foldl_append]
  rfl
theorem upto_le (l : List Int) (x : Int) : upto l x ≤ l.length := List.countP_le_length
theorem ranks_one {l : List Int} {k : Nat} {x y : Int} (h : Ranks l k x) (g : Ranks l k y) : x = y := by
  have key : ∀ {x y : Int}, Ranks l k x → Ranks l k y → ¬ x < y := by
    intro x y h g hlt
    have e : upto l x ≤ less l y := List.countP_mono_left (fun z _ hz => by simp at hz ⊢; omega)
    have := h.2.2
    have := g.2.1
    omega
  have h1 := key h g
  have h2 := key g h
  omega
theorem ranks_perm {l m : List Int} (hp : l.Perm m) {k : Nat} {x : Int} (h : Ranks l k x) : Ranks m k x := by
  refine ⟨hp.mem_iff.1 h.1, ?_, ?_⟩
  · have := h.2.1
    unfold less at this ⊢
    rwa [← hp.countP_eq]
  · have := h.2.2
    unfold upto at this ⊢
    rwa [← hp.countP_eq]
theorem ranks_sorted {s : List Int} (h : s.Pairwise (· ≤ ·)) {k : Nat} (hk : k < s.length) : Ranks s k (s[k]?.getD 0) := by
  refine ⟨?_, ?_, ?_⟩
  · rw [List.getElem?_eq_getElem hk]
    exact List.getElem_mem hk
  · have e : less s (s[k]?.getD 0) = less (s.take k) (s[k]?.getD 0) + less (s.drop k) (s[k]?.getD 0) := by
      unfold less
      rw [← List.countP_append, List.take_append_drop]
    have z : less (s.drop k) (s[k]?.getD 0) = 0 := by
      unfold less
      rw [List.countP_eq_zero]
      intro a ha
      obtain ⟨i, h1, h2, rfl⟩ := mem_drop_get ha
      have := sorted_get h h1 h2
      simp
      omega
    have b : less (s.take k) (s[k]?.getD 0) ≤ (s.take k).length := List.countP_le_length
    rw [List.length_take] at b
    omega
  · have e : upto s (s[k]?.getD 0) = upto (s.take (k + 1)) (s[k]?.getD 0) + upto (s.drop (k + 1)) (s[k]?.getD 0) := by
      unfold upto
      rw [← List.countP_append, List.take_append_drop]
    have z : upto (s.take (k + 1)) (s[k]?.getD 0) = (s.take (k + 1)).length := by
      unfold upto
      rw [List.countP_eq_length]
      intro a ha
      obtain ⟨i, h1, h2, rfl⟩ := mem_take_get ha
      have := sorted_get h (i := i) (j := k) (by omega) hk
      simp
      omega
    rw [List.length_take] at z
    omega
theorem ranks_kth (l : List Int) (k : Nat) (hk : k < l.length) : Ranks l k (kth l k) :=
  ranks_perm (srt_perm l) (ranks_sorted (srt_sorted l) (by rw [srt_len]; exact hk))
theorem kth_eq {l : List Int} {k : Nat} {x : Int} (h : Ranks l k x) : x = kth l k :=
  ranks_one h (ranks_kth l k (Nat.lt_of_lt_of_le h.2.2 (upto_le l x)))
theorem kth_perm {l m : List Int} (hp : l.Perm m) (k : Nat) : kth l k = kth m k := by
  rcases Nat.lt_or_ge k l.length with h | h
  · exact kth_eq (ranks_perm hp (ranks_kth l k h))
  · unfold kth
    rw [List.getElem?_eq_none (by rw [srt_len]; exact h), List.getElem?_eq_none (by rw [srt_len, ← hp.length_eq]; exact h)]
theorem kth_mem (l : List Int) (k : Nat) (hk : k < l.length) : kth l k ∈ l := (ranks_kth l k hk).1
/-! ### What the laws say -/
theorem kth_mono (l : List Int) (j k : Nat) (hjk : j ≤ k) (hk : k < l.length) : kth l j ≤ kth l k :=
  sorted_get (srt_sorted l) hjk (by rw [srt_len]; exact hk)
def near (l : List Int) (lo hi : Int) : Nat := l.countP (fun y => decide (lo ≤ y ∧ y ≤ hi))
theorem split_count (l : List Int) (p q : Int → Bool) (h : ∀ y, p y = true → q y = true → False) : l.countP p + l.countP q ≤ l.length := by
  induction l with
  | nil => simp
  | cons a l ih =>
    rw [List.countP_cons, List.countP_cons, List.length_cons]
    have := h a
    by_cases h1 : p a = true <;> by_cases h2 : q a = true <;> simp_all <;> omega
theorem near_median (l : List Int) (lo hi : Int) (h : l.length < 2 * near l lo hi) : lo ≤ kth l ((l.length - 1) / 2) ∧ kth l ((l.length - 1) / 2) ≤ hi := by
  have hl : near l lo hi ≤ l.length := List.countP_le_length
  obtain ⟨h1, h2, h3⟩ := ranks_kth l ((l.length - 1) / 2) (by omega)
  constructor
  · refine Decidable.by_contra fun hlt => ?_
    have e := split_count l (fun y => decide (lo ≤ y ∧ y ≤ hi)) (fun y => decide (y ≤ kth l ((l.length - 1) / 2))) (fun y p q => by simp at p q; omega)
    unfold near at h
    unfold upto at h3
    omega
  · refine Decidable.by_contra fun hlt => ?_
    have e : near l lo hi ≤ less l (kth l ((l.length - 1) / 2)) := List.countP_mono_left (fun z _ hz => by simp at hz ⊢; omega)
    omega
theorem map_ranks {l : List Int} {k : Nat} {x : Int} (f : Int → Int) (hf : ∀ a b, a < b ↔ f a < f b) (h : Ranks l k x) : Ranks (l.map f) k (f x) := by
  obtain ⟨h1, h2, h3⟩ := h
  refine ⟨List.mem_map_of_mem h1, ?_, ?_⟩
  · have e : less (l.map f) (f x) = less l x := by
      unfold less
      rw [List.countP_map]
      refine List.countP_congr fun z _ => ?_
      simp [Function.comp, ← hf]
    omega
  · have e : upto (l.map f) (f x) = upto l x := by
      unfold upto
      rw [List.countP_map]
      refine List.countP_congr fun z _ => ?_
      have := hf x z
      simp [Function.comp]
      omega
    omega
theorem kth_add (l : List Int) (b : Int) (k : Nat) (hk : k < l.length) : kth (l.map (· + b)) k = kth l k + b :=
  (kth_eq (map_ranks (· + b) (fun a c => by omega) (ranks_kth l k hk))).symm
theorem less_upto (l : List Int) (x : Int) : less l x ≤ upto l x := List.countP_mono_left (fun z _ hz => by simp at hz ⊢; omega)
theorem same_count (l : List Int) (x : Int) : less l x + l.countP (fun y => y == x) = upto l x := by
  unfold less upto
  induction l with
  | nil => simp
  | cons a l ih =>
    rw [List.countP_cons, List.countP_cons, List.countP_cons]
    by_cases h1 : a < x
    · have h2 : ¬ a = x := by omega
      have h3 : a ≤ x := by omega
      simp [h1, h2, h3]
      omega
    · by_cases h2 : a = x
      · subst h2
        simp
        omega
      · have h3 : ¬ a ≤ x := by omega
        simp [h1, h2, h3]
        omega
theorem neg_least (l : List Int) (hl : 0 < l.length) : kth (l.map (fun y => -y)) 0 = -kth l (l.length - 1) := by
  refine (kth_eq ?_).symm
  obtain ⟨h1, h2, h3⟩ := ranks_kth l (l.length - 1) (by omega)
  have hu := upto_le l (kth l (l.length - 1))
  have hall : upto l (kth l (l.length - 1)) = l.length := by omega
  unfold upto at hall
  rw [List.countP_eq_length] at hall
  refine ⟨List.mem_map.2 ⟨_, h1, rfl⟩, ?_, ?_⟩
  · have e : less (l.map (fun y => -y)) (-kth l (l.length - 1)) = 0 := by
      unfold less
      rw [List.countP_eq_zero]
      intro a ha
      obtain ⟨y, hy, rfl⟩ := List.mem_map.1 ha
      have := hall y hy
      simp at this ⊢
      omega
    omega
  · unfold upto
    exact List.countP_pos_iff.2 ⟨_, List.mem_map.2 ⟨_, h1, rfl⟩, by simp⟩
theorem least_eq (l : List Int) (x : Int) (h1 : x ∈ l) (h2 : ∀ y ∈ l, x ≤ y) : x = kth l 0 := by
  refine kth_eq ⟨h1, ?_, ?_⟩
  · have e : less l x = 0 := by
      unfold less
      rw [List.countP_eq_zero]
      intro a ha
      have := h2 a ha
      simp
      omega
    omega
  · unfold upto
    exact List.countP_pos_iff.2 ⟨x, h1, by simp⟩
/-- What is told of the place k (0 where there is no such place), and whether there is one. -/
def kv (l : List Int) (k : Int) : Int := if 0 ≤ k ∧ k < l.length then kth l k.toNat else 0
def kb (l : List Int) (k : Int) : Bool := decide (0 ≤ k ∧ k < l.length)
theorem kv_yes {l : List Int} {k : Int} (h : 0 ≤ k) (g : k < l.length) : kv l k = kth l k.toNat ∧ kb l k = true :=
  ⟨if_pos ⟨h, g⟩, decide_eq_true ⟨h, g⟩⟩
theorem kv_no {l : List Int} {k : Int} (h : k < 0 ∨ l.length ≤ k) : kv l k = 0 ∧ kb l k = false :=
  ⟨if_neg (by omega), decide_eq_false (by omega)⟩
theorem near_len (l : List Int) (lo hi : Int) (k : Nat) : near (l.take k) lo hi ≤ k :=
  Nat.le_trans List.countP_le_length (by simp; omega)
theorem near_next (l : List Int) (lo hi : Int) (k : Nat) (v : Int) (h : l[k]? = some v) : near (l.take (k + 1)) lo hi = near (l.take k) lo hi + (if lo ≤ v ∧ v ≤ hi then 1 else 0) := by
  obtain ⟨hk, e⟩ := List.getElem?_eq_some_iff.1 h
  unfold near
  rw [List.take_succ_eq_append_getElem hk, List.countP_append, e, List.countP_cons, List.countP_nil]
  simp
/-- What the walks ask: of the k-th, if it is told at all. -/
theorem near_median2 (l : List Int) (lo hi : Int) (h : (l.length : Int) < 2 * (near l lo hi : Int)) : kb l (((l.length : Int) - 1) / 2) = true ∧ lo ≤ kv l (((l.length : Int) - 1) / 2) ∧ kv l (((l.length : Int) - 1) / 2) ≤ hi := by
  have hl : near l lo hi ≤ l.length := List.countP_le_length
  have e := kv_yes (l := l) (k := ((l.length : Int) - 1) / 2) (by omega) (by omega)
  have t : (((l.length : Int) - 1) / 2).toNat = (l.length - 1) / 2 := by omega
  have m := near_median l lo hi (by omega)
  rw [e.1, e.2, t]
  exact ⟨rfl, m.1, m.2⟩
theorem kv_perm {l m : List Int} (hp : l.Perm m) (k : Int) : kv l k = kv m k ∧ kb l k = kb m k := by
  unfold kv kb
  rw [kth_perm hp, hp.length_eq]
  exact ⟨rfl, rfl⟩
theorem kv_in (l : List Int) (k : Int) (lo hi : Int) (h0 : lo ≤ 0) (h1 : 0 ≤ hi) (h : ∀ v ∈ l, lo ≤ v ∧ v ≤ hi) : lo ≤ kv l k ∧ kv l k ≤ hi := by
  unfold kv
  split
  · exact h _ (kth_mem l _ (by omega))
  · exact ⟨h0, h1⟩
/-! ### Numbers moved, and turned round -/
theorem moves (l : List Int) (b : Int) (hl : 0 < l.length) : kv (l.map (fun y => y + b)) ((((l.map (fun y => y + b)).length : Int) - 1) / 2) = kv l (((l.length : Int) - 1) / 2) + b ∧ kb (l.map (fun y => y + b)) ((((l.map (fun y => y + b)).length : Int) - 1) / 2) = true ∧ kb l (((l.length : Int) - 1) / 2) = true ∧
    kv (l.map (fun y => -y)) 0 = -kv l ((l.length : Int) - 1) ∧ kb (l.map (fun y => -y)) 0 = true ∧ kb l ((l.length : Int) - 1) = true := by
  obtain ⟨e1, e2⟩ := kv_yes (l := l.map (fun y => y + b)) (k := (((l.map (fun y => y + b)).length : Int) - 1) / 2) (by rw [List.length_map]; omega) (by rw [List.length_map]; omega)
  obtain ⟨e3, e4⟩ := kv_yes (l := l) (k := ((l.length : Int) - 1) / 2) (by omega) (by omega)
  obtain ⟨e5, e6⟩ := kv_yes (l := l.map (fun y => -y)) (k := 0) (by omega) (by rw [List.length_map]; omega)
  obtain ⟨e7, e8⟩ := kv_yes (l := l) (k := (l.length : Int) - 1) (by omega) (by omega)
  have a1 := kth_add l b ((((l.map (fun y => y + b)).length : Int) - 1) / 2).toNat (by rw [List.length_map]; omega)
  have a2 := neg_least l hl
  refine ⟨?_, e2, e4, ?_, e6, e8⟩
  · rw [e1, e3, a1, List.length_map]
  · rw [e5, e7, show (0 : Int).toNat = 0 from rfl, a2, show ((l.length : Int) - 1).toNat = l.length - 1 from by omega]
theorem map_next (f : Int → Int) (l : List Int) (k : Nat) (v : Int) (h : l[k]? = some v) : (l.take (k + 1)).map f = (l.take k).map f ++ [f v] := by
  obtain ⟨hk, e⟩ := List.getElem?_eq_some_iff.1 h
  rw [List.take_succ_eq_append_getElem hk, List.map_append, e]
  rfl
theorem take_next (l : List Int) (k : Nat) (v : Int) (h : l[k]? = some v) : l.take (k + 1) = l.take k ++ [v] := by
  obtain ⟨hk, e⟩ := List.getElem?_eq_some_iff.1 h
  rw [List.take_succ_eq_append_getElem hk, e]
/-! ### What the loops of the laws count -/
def same (l : List Int) (x : Int) : Nat := l.countP (fun y => y == x)
theorem less_len (l : List Int) (x : Int) (k : Nat) : less (l.take k) x ≤ k := Nat.le_trans List.countP_le_length (by simp; omega)
theorem same_len (l : List Int) (x : Int) (k : Nat) : same (l.take k) x ≤ k := Nat.le_trans List.countP_le_length (by simp; omega)
theorem less_next (l : List Int) (x : Int) (k : Nat) (v : Int) (h : l[k]? = some v) : less (l.take (k + 1)) x = less (l.take k) x + (if v < x then 1 else 0) := by
  obtain ⟨hk, e⟩ := List.getElem?_eq_some_iff.1 h
  unfold less
  rw [List.take_succ_eq_append_getElem hk, List.countP_append, e, List.countP_cons, List.countP_nil]
  simp
theorem same_next (l : List Int) (x : Int) (k : Nat) (v : Int) (h : l[k]? = some v) : same (l.take (k + 1)) x = same (l.take k) x + (if v = x then 1 else 0) := by
  obtain ⟨hk, e⟩ := List.getElem?_eq_some_iff.1 h
  unfold same
  rw [List.take_succ_eq_append_getElem hk, List.countP_append, e, List.countP_cons, List.countP_nil]
  simp
theorem ranks_same {l : List Int} {k : Nat} {x : Int} (h : Ranks l k x) : less l x ≤ k ∧ k < less l x + same l x ∧ 0 < same l x := by
  have e := same_count l x
  refine ⟨h.2.1, ?_, ?_⟩
  · have := h.2.2
    unfold same
    omega
  · exact List.countP_pos_iff.2 ⟨x, h.1, by simp⟩
/-- The number ahead of place k (that of place 0 ahead of place 0). -/
def prev (l : List Int) (k : Nat) : Int := if k = 0 then kv l 0 else kv l ((k : Int) - 1)
theorem prev_next (l : List Int) (k : Nat) : prev l (k + 1) = kv l k := by
  unfold prev
  rw [if_neg (by omega)]
  congr 1
  omega
theorem prev_le (l : List Int) (k : Nat) (h : k < l.length) : prev l k ≤ kv l k ∧ (k = 0 → kv l k = prev l k) := by
  unfold prev
  split
  · rename_i e
    subst e
    exact ⟨Int.le_refl _, fun _ => rfl⟩
  · rename_i e
    refine ⟨?_, fun h => absurd h e⟩
    rw [(kv_yes (l := l) (k := (k : Int)) (by omega) (by omega)).1, (kv_yes (l := l) (k := (k : Int) - 1) (by omega) (by omega)).1]
    exact kth_mono l _ _ (by omega) (by omega)
end Go.Proofs.Ytdhljlhecoclfaa.Ord
