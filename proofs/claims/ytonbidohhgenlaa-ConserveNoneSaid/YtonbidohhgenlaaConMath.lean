/- Many raises, in numbers: no cell is above what it would be if all had been added; Least of columns is not below what they were raised by. -/
import Derived.Test.YtonbidohhgenlaaConDef
import Derived.Test.YtonbidohhgenlaaLinLstM
import Derived.Test.YtonbidohhgenlaaGrdDef
namespace Go.Proofs.Ytonbidohhgenlaa.Con
open Go Go.RowKit Lw Grd Lin
set_option linter.unusedVariables false
def rsAll (L : List (List Int)) (ops : Ops) : List (List Int) := ops.foldl (fun L o => raised L o.1 (lea L o.1 + o.2)) L
theorem rsAll_one (L : List (List Int)) (ops : Ops) (o : List Int × Int) : rsAll L (ops ++ [o]) = raised (rsAll L ops) o.1 (lea (rsAll L ops) o.1 + o.2) := by
  unfold rsAll
  rw [List.foldl_append]
  rfl
theorem chAll_one (L : List (List Int)) (ops : Ops) (o : List Int × Int) : chAll L (ops ++ [o]) = changed (chAll L ops) o.1 o.2 := by
  unfold chAll
  rw [List.foldl_append]
  rfl
theorem sz_raised {m n : Nat} {L : List (List Int)} {cols : List Int} (h : Sz m n L) (hc : cols.length = m) (x : Int) : Sz m n (raised L cols x) := by
  refine ⟨by unfold raised; rw [List.length_zipWith, h.1, hc]; omega, fun r hr => ?_⟩
  obtain ⟨a, ha, b, hb, rfl⟩ := mem_zip hr
  rw [List.length_set]
  exact h.2 a ha
theorem cel_raised {m n : Nat} {L : List (List Int)} {cols : List Int} (h : Sz m n L) (hc : Meets m n cols) (x : Int) {r c : Nat} (hr : r < m) (hcn : c < n) : cel (raised L cols x) r c = if cols[r]? = some (c : Int) then max (cel L r c) x else cel L r c := by
  have hl : r < L.length := by rw [h.1]; exact hr
  obtain ⟨v, hv, hvn⟩ := meets_get hc hr
  have hrow := h.2 _ (List.getElem_mem hl)
  unfold cel raised
  rw [List.getElem?_zipWith, List.getElem?_eq_getElem hl, hv]
  simp only [Option.getD_some, Int.toNat_natCast]
  by_cases e : v = c
  · subst e
    rw [if_pos rfl, List.getElem?_set_self (by omega)]
    rfl
  · rw [if_neg (by simp; omega), List.getElem?_set_ne e]
theorem lea_mem {m n : Nat} {L : List (List Int)} {cols : List Int} (h : Sz m n L) (hc : Meets m n cols) : lea L cols ∈ named L cols ∧ ∀ y ∈ named L cols, lea L cols ≤ y := by
  have hl := named_len (L := L) (cols := cols) (by rw [hc.2.1, h.1])
  rw [h.1] at hl
  have hm := hc.1
  unfold lea
  rw [(Ord.kv_yes (k := 0) (by omega) (by rw [hl]; omega)).1]
  have hr := Ord.ranks_kth (named L cols) (0 : Int).toNat (by rw [hl]; simp; omega)
  refine ⟨hr.1, fun y hy => ?_⟩
  have h2 : Ord.less (named L cols) (Ord.kth (named L cols) (0 : Int).toNat) = 0 := by have := hr.2.1; simp at this ⊢; exact this
  unfold Ord.less at h2
  rw [List.countP_eq_zero] at h2
  have := h2 y hy
  simpa using this
theorem lea_le {m n : Nat} {L : List (List Int)} {cols : List Int} (h : Sz m n L) (hc : Meets m n cols) {r v : Nat} (hr : r < m) (hv : cols[r]? = some (v : Int)) : lea L cols ≤ cel L r v :=
  (lea_mem h hc).2 _ (List.mem_of_getElem? (named_cel h hc hr hv))
theorem lea_is {m n : Nat} {L : List (List Int)} {cols : List Int} (h : Sz m n L) (hc : Meets m n cols) : ∃ r v : Nat, r < m ∧ v < n ∧ cols[r]? = some (v : Int) ∧ lea L cols = cel L r v := by
  obtain ⟨r, hr, e⟩ := List.mem_iff_getElem.1 (lea_mem h hc).1
  have hl := named_len (L := L) (cols := cols) (by rw [hc.2.1, h.1])
  rw [h.1] at hl
  obtain ⟨v, hv, hvn⟩ := meets_get hc (show r < m by omega)
  have e2 := named_cel h hc (show r < m by omega) hv
  rw [List.getElem?_eq_getElem hr, e] at e2
  injection e2 with e2
  exact ⟨r, v, by omega, hvn, hv, e2⟩
theorem lea_ge {m n : Nat} {L : List (List Int)} {cols : List Int} (h : Sz m n L) (hc : Meets m n cols) {x : Int} (hx : ∀ r v : Nat, r < m → v < n → cols[r]? = some (v : Int) → x ≤ cel L r v) : x ≤ lea L cols := by
  obtain ⟨r, v, hr, hvn, hv, e⟩ := lea_is h hc
  rw [e]
  exact hx r v hr hvn hv
/-- Raised by columns, their least one is just the sum. -/
theorem lea_raised {m n : Nat} {L : List (List Int)} {cols : List Int} (h : Sz m n L) (hc : Meets m n cols) {x : Int} (hx : lea L cols ≤ x) : lea (raised L cols x) cols = x := by
  have hs := sz_raised h hc.2.1 x
  obtain ⟨r, v, hr, hvn, hv, e⟩ := lea_is h hc
  have h1 := lea_le hs hc hr hv
  rw [cel_raised h hc x hr hvn, if_pos hv] at h1
  have h2 : x ≤ lea (raised L cols x) cols := lea_ge hs hc fun r v hr hvn hv => by
    rw [cel_raised h hc x hr hvn, if_pos hv]
    omega
  omega
theorem lea_mono {m n : Nat} {L M : List (List Int)} {cols : List Int} (h : Sz m n L) (g : Sz m n M) (hc : Meets m n cols) (hle : ∀ r c : Nat, r < m → c < n → cel L r c ≤ cel M r c) : lea L cols ≤ lea M cols :=
  lea_ge g hc fun r v hr hvn hv => Int.le_trans (lea_le h hc hr hv) (hle r v hr hvn)
/-- What holds of a grid that rose, beside one to which the same was added. -/
structure Rose (m n : Nat) (G H : List (List Int)) (ops : Ops) : Prop where
  sg : Sz m n G
  sh : Sz m n H
  nn : ∀ r c : Nat, r < m → c < n → 0 ≤ cel G r c
  le : ∀ r c : Nat, r < m → c < n → cel G r c ≤ cel H r c
  ow : ∀ (cols : List Int), Meets m n cols → ∀ r v : Nat, r < m → v < n → cols[r]? = some (v : Int) → own cols ops ≤ cel G r v
theorem own_one (cols : List Int) (ops : Ops) (o : List Int × Int) : own cols (ops ++ [o]) = own cols ops + (if o.1 = cols then o.2 else 0) := by
  rw [own_app]
  simp [own]
theorem rose_zero (m n : Nat) : Rose m n (zerosL m n) (zerosL m n) [] :=
  ⟨sz_zeros m n, sz_zeros m n, fun r c _ _ => by rw [cel_zeros]; omega, fun _ _ _ _ => Int.le_refl _, fun cols _ r v _ _ _ => by rw [cel_zeros]; exact Int.le_refl _⟩
theorem rose_next {m n : Nat} {G H : List (List Int)} {ops : Ops} (h : Rose m n G H ops) {o : List Int × Int} (hm : Meets m n o.1) (hd : 0 ≤ o.2) : Rose m n (raised G o.1 (lea G o.1 + o.2)) (changed H o.1 o.2) (ops ++ [o]) := by
  refine ⟨sz_raised h.sg hm.2.1 _, sz_changed h.sh hm.2.1 _, fun r c hr hc => ?_, fun r c hr hc => ?_, fun cols hcm r v hr hvn hv => ?_⟩
  · rw [cel_raised h.sg hm _ hr hc]
    have := h.nn r c hr hc
    split <;> omega
  · rw [cel_raised h.sg hm _ hr hc, cel_changed h.sh hm _ hr hc]
    have h1 := h.le r c hr hc
    by_cases e : o.1[r]? = some (c : Int)
    · rw [if_pos e, if_pos e]
      have h2 := lea_le h.sg hm hr e
      omega
    · rw [if_neg e, if_neg e]
      omega
  · rw [cel_raised h.sg hm _ hr hvn, own_one]
    have h1 := h.ow cols hcm r v hr hvn hv
    by_cases e : o.1 = cols
    · rw [if_pos e]
      subst e
      rw [if_pos hv]
      have h2 : own o.1 ops ≤ lea G o.1 := lea_ge h.sg hm fun r v hr hvn hv => h.ow o.1 hm r v hr hvn hv
      omega
    · rw [if_neg e]
      split <;> omega
theorem rose_all {m n : Nat} {b : Int} : ∀ {ops : Ops} {pre : Ops} {G H : List (List Int)}, Rose m n G H pre → OpsOk m n b ops → Plus b ops → Rose m n (rsAll G ops) (chAll H ops) (pre ++ ops)
  | [], pre, G, H, h, _, _ => by simpa [rsAll, chAll] using h
  | o :: ops, pre, G, H, h, g, hp => by
    have ih := rose_all (ops := ops) (rose_next h (g o (by simp)).1 (hp o (by simp)).1) (fun p hq => g p (by simp [hq])) (fun p hq => hp p (by simp [hq]))
    rw [List.append_assoc] at ih
    exact ih
theorem Rose.lea_own {m n : Nat} {G H : List (List Int)} {ops : Ops} (h : Rose m n G H ops) {cols : List Int} (hc : Meets m n cols) : own cols ops ≤ lea G cols ∧ lea G cols ≤ lea H cols ∧ 0 ≤ lea G cols :=
  ⟨lea_ge h.sg hc (h.ow cols hc), lea_mono h.sg h.sh hc h.le, lea_ge h.sg hc (fun r v hr hvn _ => h.nn r v hr hvn)⟩
/-- Two pairs of grids, put together. -/
theorem Rose.join {m n : Nat} {G H G2 H2 : List (List Int)} {ops ops2 : Ops} (h : Rose m n G H ops) (g : Rose m n G2 H2 ops2) : Rose m n (gridS 1 G G2) (gridS 1 H H2) (ops ++ ops2) := by
  have key : ∀ {A B : List (List Int)}, Sz m n A → Sz m n B → Sz m n (gridS 1 A B) ∧ ∀ r c, r < m → c < n → cel (gridS 1 A B) r c = cel A r c + cel B r c := by
    intro A B ha hb
    refine ⟨⟨by unfold gridS; rw [List.length_zipWith, ha.1, hb.1]; omega, fun r hr => ?_⟩, fun r c hr hc => ?_⟩
    · obtain ⟨a, h1, b, h2, rfl⟩ := mem_zip hr
      unfold rowS
      rw [List.length_zipWith, ha.2 a h1, hb.2 b h2]
      omega
    · have h1 : r < A.length := by rw [ha.1]; exact hr
      have h2 : r < B.length := by rw [hb.1]; exact hr
      have h3 := ha.2 _ (List.getElem_mem h1)
      have h4 := hb.2 _ (List.getElem_mem h2)
      unfold cel gridS
      rw [List.getElem?_zipWith, List.getElem?_eq_getElem h1, List.getElem?_eq_getElem h2]
      simp only [Option.getD_some]
      unfold rowS
      rw [List.getElem?_zipWith, List.getElem?_eq_getElem (by omega), List.getElem?_eq_getElem (by omega)]
      simp
  obtain ⟨s1, c1⟩ := key h.sg g.sg
  obtain ⟨s2, c2⟩ := key h.sh g.sh
  refine ⟨s1, s2, fun r c hr hc => ?_, fun r c hr hc => ?_, fun cols hcm r v hr hvn hv => ?_⟩
  · rw [c1 r c hr hc]; have := h.nn r c hr hc; have := g.nn r c hr hc; omega
  · rw [c1 r c hr hc, c2 r c hr hc]; have := h.le r c hr hc; have := g.le r c hr hc; omega
  · rw [c1 r v hr hvn, own_app]; have := h.ow cols hcm r v hr hvn hv; have := g.ow cols hcm r v hr hvn hv; omega
theorem cel_within {m n : Nat} {b : Int} {H : List (List Int)} (hs : Sz m n H) (hw : Within b H) {r c : Nat} (hr : r < m) (hc : c < n) : cel H r c ≤ b := by
  have h1 : r < H.length := by rw [hs.1]; exact hr
  have h2 := hs.2 _ (List.getElem_mem h1)
  unfold cel
  rw [List.getElem?_eq_getElem h1]
  simp only [Option.getD_some]
  rw [List.getElem?_eq_getElem (by omega)]
  exact (hw _ (List.getElem_mem h1) _ (List.getElem_mem _)).2
/-- In the midst of sixty raises: the next one is done, and so is the change. -/
theorem both_ok {m n : Nat} {ops : Ops} (hok : OpsOk m n 1099511627776 ops) (hp : Plus 1099511627776 ops) (hl : ops.length ≤ 60) (m8 : m ≤ 8) (n128 : n ≤ 128) {o : List Int × Int} (hm : Meets m n o.1) (hd : 0 ≤ o.2 ∧ o.2 ≤ 1099511627776) :
    (rsCode m n (rsAll (zerosL m n) ops) o.1 o.2 = 0 ∧ rsRes m n (rsAll (zerosL m n) ops) o.1 o.2 = rsAll (zerosL m n) (ops ++ [o])) ∧ (chCode m n (chAll (zerosL m n) ops) o.1 o.2 = 0 ∧ chRes m n (chAll (zerosL m n) ops) o.1 o.2 = chAll (zerosL m n) (ops ++ [o])) := by
  have hr := rose_all (rose_zero m n) hok hp
  have hw := within_mono (chAll_within (c := 1099511627776) (by omega) (b := 0) (Int.le_refl _) (within_zeros m n) hok) (c := 65970697666560) (by omega)
  have h2 := (hr.lea_own hm)
  have h3 : lea (chAll (zerosL m n) ops) o.1 ≤ 65970697666560 := by
    obtain ⟨r, v, hrm, hvn, hv, e⟩ := lea_is hr.sh hm
    rw [e]
    exact cel_within hr.sh hw hrm hvn
  have hf := fits_within (cols := o.1) (d := o.2) (c := 1099511627776) hw (by omega) (by omega) (by omega)
  have hf2 : Wid.fit64 (lea (rsAll (zerosL m n) ops) o.1 + o.2) = true := (Wid.fit64_yes (by omega) (by omega)).1
  rw [rsAll_one, chAll_one]
  exact ⟨rs_yes hm hd.1 hf2, ch_ok hm hf⟩
theorem rose_dims {m n : Nat} {ops : Ops} (hok : OpsOk m n 1099511627776 ops) (hp : Plus 1099511627776 ops) (hl : ops.length ≤ 60) : Within 65970697666560 (chAll (zerosL m n) ops) ∧ Within 65970697666560 (rsAll (zerosL m n) ops) := by
  have hr := rose_all (rose_zero m n) hok hp
  have hw := within_mono (chAll_within (c := 1099511627776) (by omega) (b := 0) (Int.le_refl _) (within_zeros m n) hok) (c := 65970697666560) (by omega)
  refine ⟨hw, fun row hrow v hv => ?_⟩
  obtain ⟨r, h1, rfl⟩ := List.mem_iff_getElem.1 hrow
  obtain ⟨c, h2, rfl⟩ := List.mem_iff_getElem.1 hv
  have h3 := hr.sg.2 _ (List.getElem_mem h1)
  have hrm : r < m := by rw [← hr.sg.1]; exact h1
  have hcn : c < n := by omega
  have e : cel (rsAll (zerosL m n) ops) r c = ((rsAll (zerosL m n) ops)[r])[c] := by
    unfold cel
    rw [List.getElem?_eq_getElem h1]
    simp only [Option.getD_some]
    rw [List.getElem?_eq_getElem h2]
    rfl
  have h4 := hr.nn r c hrm hcn
  have h5 := hr.le r c hrm hcn
  have h6 := cel_within hr.sh hw hrm hcn
  rw [← e]
  omega
theorem join_fits {m n : Nat} {A B : List (List Int)} (ha : Within 65970697666560 A) (hb : Within 65970697666560 B) : fitsAll (gridS 1 A B) = true := by
  unfold fitsAll
  refine List.all_eq_true.2 fun r hr => List.all_eq_true.2 fun x hx => ?_
  obtain ⟨a, h1, b, h2, rfl⟩ := mem_zip hr
  obtain ⟨u, h3, v, h4, rfl⟩ := mem_zip hx
  have := ha a h1 u h3
  have := hb b h2 v h4
  exact (Wid.fit64_yes (by omega) (by omega)).1
/-- Of one row: raised is added. -/
theorem one_row {n : Nat} {ops : Ops} {b : Int} (hok : OpsOk 1 n b ops) (hp : Plus b ops) : ∀ {L : List (List Int)}, Sz 1 n L → rsAll L ops = chAll L ops := by
  induction ops with
  | nil => intro L _; rfl
  | cons o ops ih =>
    intro L hL
    have hm := (hok o (by simp)).1
    have hd := (hp o (by simp)).1
    have e : raised L o.1 (lea L o.1 + o.2) = changed L o.1 o.2 := by
      refine sz_ext (sz_raised hL hm.2.1 _) (sz_changed hL hm.2.1 _) fun r c hr hc => ?_
      rw [cel_raised hL hm _ hr hc, cel_changed hL hm _ hr hc]
      by_cases e : o.1[r]? = some (c : Int)
      · rw [if_pos e, if_pos e]
        obtain ⟨r2, v, hr2, hvn, hv, e2⟩ := lea_is hL hm
        have : r2 = r := by omega
        subst this
        rw [e] at hv
        injection hv with hv
        have : c = v := by omega
        subst this
        omega
      · rw [if_neg e, if_neg e]
        omega
    have h2 := ih (fun p hq => hok p (by simp [hq])) (fun p hq => hp p (by simp [hq])) (sz_changed hL hm.2.1 o.2)
    show rsAll (raised L o.1 (lea L o.1 + o.2)) ops = chAll (changed L o.1 o.2) ops
    rw [e]
    exact h2
theorem zero_row {n : Nat} {L : List (List Int)} {cols : List Int} (hL : Sz 1 n L) (hm : Meets 1 n cols) : raised L cols (lea L cols + 0) = L := by
  refine sz_ext (sz_raised hL hm.2.1 _) hL fun r c hr hc => ?_
  rw [cel_raised hL hm _ hr hc]
  by_cases e : cols[r]? = some (c : Int)
  · rw [if_pos e]
    obtain ⟨r2, v, hr2, hvn, hv, e2⟩ := lea_is hL hm
    have : r2 = r := by omega
    subst this
    rw [e] at hv
    injection hv with hv
    have : c = v := by omega
    subst this
    omega
  · rw [if_neg e]
end Go.Proofs.Ytonbidohhgenlaa.Con
