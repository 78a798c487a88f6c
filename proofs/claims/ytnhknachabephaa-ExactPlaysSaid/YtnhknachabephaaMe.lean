/- Texts that the statements of this seat lean on, put together: SkDef, SkNum, SkCode, SkLawA, SkMath, SkOth, SkFed, SkShown, SkPtA, SkOne, ExaDef. -/
import Derived.Test.YtnhknachabephaaMa
import Derived.Test.YtnhknachabephaaMc
import Derived.Test.YtnhknachabephaaMd
import Derived.Laws.EntriesVeiled
import Derived.Deep.LoopGhost
import Derived.Deep.RegionHeld3
import Derived.Deep.DeepCutAuto
import Derived.Deep.QuietTactic
import Derived.BigQuiet
/- What a sketch has, in numbers: its cells by what was added to keys; what keys have; what others have in a column. For stages from 10 on. -/
namespace Go.Proofs.Ytnhknachabephaa.Sk
open Go Go.RowKit Lw Grd Lin Con Shp
set_option linter.unusedVariables false
/-- Rows and columns of a config. -/
def rws (c : Cfg) : Nat := c.rw.toNat
def wds (c : Cfg) : Nat := c.wd.toNat
theorem rws_bd {c : Cfg} (h : IsRight c) : 1 ≤ rws c ∧ rws c ≤ 8 ∧ ((rws c : Nat) : Int) = c.rw := by
  have h1 := h.2.2.1
  have h2 := h.2.2.2.1
  unfold rws
  omega
theorem wds_bd {c : Cfg} (h : IsRight c) : 1 ≤ wds c ∧ wds c ≤ 128 ∧ ((wds c : Nat) : Int) = c.wd := by
  have h1 := h.2.2.2.2.1
  have h2 := h.2.2.2.2.2.1
  unfold wds
  omega
theorem keys_right {c : Cfg} {l k : Int} (h0 : 0 ≤ k) (hk : k < keys c l) : IsRight c ∧ 0 ≤ l ∧ l ≤ c.bt := keys_pos.1 (by omega)
theorem cols_meet {c : Cfg} {l k : Int} (h0 : 0 ≤ k) (hk : k < keys c l) : Meets (rws c) (wds c) (cols c l k) := by
  have hr := (keys_right h0 hk).1
  have h1 := rws_bd hr
  have h2 := wds_bd hr
  refine ⟨h1.1, by rw [cols_len, if_pos hk]; rfl, fun v hv => ?_⟩
  rw [cols_yes hk] at hv
  obtain ⟨r, _, rfl⟩ := List.mem_map.1 hv
  have := col_range hr l k r
  omega
theorem cols_at {c : Cfg} {l k : Int} (hk : k < keys c l) {r : Nat} (hr : r < rws c) : (cols c l k)[r]? = some (col c l k r) := by
  rw [cols_yes hk, List.getElem?_map]
  have : (List.range c.rw.toNat)[r]? = some r := List.getElem?_range hr
  rw [this]
  rfl
/-- Updates: keys and what is added. -/
abbrev Ups := List (Int × Int)
def opsU (c : Cfg) (l : Int) (us : Ups) : Ops := us.map (fun u => (cols c l u.1, u.2))
def UpsOk (c : Cfg) (l : Int) (b : Int) (us : Ups) : Prop := ∀ u ∈ us, 0 ≤ u.1 ∧ u.1 < keys c l ∧ -b ≤ u.2 ∧ u.2 ≤ b
theorem opsU_ok {c : Cfg} {l b : Int} {us : Ups} (h : UpsOk c l b us) : OpsOk (rws c) (wds c) b (opsU c l us) := by
  intro o ho
  unfold opsU at ho
  obtain ⟨u, hu, rfl⟩ := List.mem_map.1 ho
  have h2 := h u hu
  exact ⟨cols_meet h2.1 h2.2.1, h2.2.2⟩
theorem opsU_len (c : Cfg) (l : Int) (us : Ups) : (opsU c l us).length = us.length := by simp [opsU]
theorem opsU_app (c : Cfg) (l : Int) (us vs : Ups) : opsU c l (us ++ vs) = opsU c l us ++ opsU c l vs := by simp [opsU]
/-- What a key has. -/
def hasK (k : Int) : Ups → Int
  | [] => 0
  | u :: us => (if u.1 = k then u.2 else 0) + hasK k us
/-- What others have in its column of a row. -/
def othK (c : Cfg) (l k : Int) (r : Nat) : Ups → Int
  | [] => 0
  | u :: us => (if u.1 ≠ k ∧ col c l u.1 r = col c l k r then u.2 else 0) + othK c l k r us
theorem hasK_app (k : Int) : ∀ a b : Ups, hasK k (a ++ b) = hasK k a + hasK k b
  | [], b => by simp [hasK]
  | u :: a, b => by simp only [List.cons_append, hasK, hasK_app k a b]; omega
theorem othK_app (c : Cfg) (l k : Int) (r : Nat) : ∀ a b : Ups, othK c l k r (a ++ b) = othK c l k r a + othK c l k r b
  | [], b => by simp [othK]
  | u :: a, b => by simp only [List.cons_append, othK, othK_app c l k r a b]; omega
theorem hit_key {c : Cfg} {l k b : Int} {r v : Nat} (hr : r < rws c) (hv : col c l k r = v) : ∀ {us : Ups}, UpsOk c l b us → hit (opsU c l us) r v = hasK k us + othK c l k r us
  | [], _ => by simp [hit, opsU, hasK, othK]
  | u :: us, h => by
    have ih := hit_key hr hv (us := us) (fun p hp => h p (by simp [hp]))
    have hu := h u (by simp)
    have e : opsU c l (u :: us) = (cols c l u.1, u.2) :: opsU c l us := rfl
    rw [e]
    simp only [hit, hasK, othK, ih, cols_at hu.2.1 hr, ← hv]
    by_cases h1 : u.1 = k
    · rw [h1]
      simp
      omega
    · by_cases h2 : col c l u.1 r = col c l k r
      · simp [h1, h2]
        omega
      · simp [h1, h2]
/-- The numbers of a key's cells: what it has, and what others have there. -/
theorem named_key {c : Cfg} {l k b : Int} {us : Ups} (h : UpsOk c l b us) (k0 : 0 ≤ k) (hk : k < keys c l) {r : Nat} (hr : r < rws c) :
    (named (chAll (zerosL (rws c) (wds c)) (opsU c l us)) (cols c l k))[r]? = some (hasK k us + othK c l k r us) := by
  have hok := opsU_ok h
  have hm := cols_meet k0 hk
  have hsz := chAll_sz (sz_zeros (rws c) (wds c)) hok
  have hrt := (keys_right k0 hk).1
  have h2 := col_range hrt l k r
  have h3 := wds_bd hrt
  obtain ⟨v, hv⟩ : ∃ v : Nat, col c l k r = v := ⟨(col c l k r).toNat, by omega⟩
  have hvn : v < wds c := by omega
  rw [named_cel hsz hm hr (by rw [cols_at hk hr, hv]), chAll_cel hr hvn (sz_zeros _ _) hok, cel_zeros, hit_key hr hv h]
  congr 1
  omega
theorem named_klen {c : Cfg} {l k : Int} {L : List (List Int)} (hL : L.length = rws c) (k0 : 0 ≤ k) (hk : k < keys c l) : (named L (cols c l k)).length = rws c := by
  rw [named_len (by rw [(cols_meet k0 hk).2.1, hL]), hL]
/-- The least sum of what others have in a row. -/
theorem lea_key {c : Cfg} {l k b x : Int} {us : Ups} (h : UpsOk c l b us) (k0 : 0 ≤ k) (hk : k < keys c l) {r0 : Nat} (hr0 : r0 < rws c) (hx : othK c l k r0 us = x) (hl : ∀ r, r < rws c → x ≤ othK c l k r us) :
    lea (chAll (zerosL (rws c) (wds c)) (opsU c l us)) (cols c l k) = hasK k us + x := by
  have hsz := chAll_sz (sz_zeros (rws c) (wds c)) (opsU_ok h)
  have hlen := named_klen hsz.1 k0 hk
  unfold lea
  rw [(Ord.kv_yes (k := 0) (by omega) (by rw [hlen]; omega)).1]
  refine (Ord.least_eq _ _ ?_ ?_).symm
  · rw [← hx]
    exact List.mem_of_getElem? (named_key h k0 hk hr0)
  · intro y hy
    obtain ⟨r, hr, e⟩ := List.mem_iff_getElem.1 hy
    have e2 := named_key h k0 hk (r := r) (by omega)
    rw [List.getElem?_eq_getElem hr, e] at e2
    injection e2 with e2
    have := hl r (by omega)
    omega
/-! ### Where no key has less than 0 -/
theorem hasK_filter (k q : Int) (hkq : k ≠ q) : ∀ us : Ups, hasK k (us.filter (fun u => u.1 ≠ q)) = hasK k us
  | [] => rfl
  | u :: us => by
    have ih := hasK_filter k q hkq us
    by_cases h : u.1 = q
    · rw [List.filter_cons_of_neg (by simp [h]), ih]
      simp only [hasK]
      rw [if_neg (by omega)]
      omega
    · rw [List.filter_cons_of_pos (by simp [h])]
      simp only [hasK, ih]
theorem othK_filter (c : Cfg) (l k : Int) (r : Nat) (q : Int) (hq : q ≠ k) (hc : col c l q r = col c l k r) : ∀ us : Ups, othK c l k r us = hasK q us + othK c l k r (us.filter (fun u => u.1 ≠ q))
  | [] => rfl
  | u :: us => by
    have ih := othK_filter c l k r q hq hc us
    by_cases h : u.1 = q
    · rw [List.filter_cons_of_neg (by simp [h])]
      simp only [othK, hasK, ih]
      rw [if_pos ⟨by rw [h]; exact hq, by rw [h]; exact hc⟩, if_pos h]
      omega
    · rw [List.filter_cons_of_pos (by simp [h])]
      simp only [othK, hasK, ih]
      rw [if_neg h]
      omega
theorem othK_skip (c : Cfg) (l k : Int) (r : Nat) (q : Int) (hq : ¬ (q ≠ k ∧ col c l q r = col c l k r)) : ∀ us : Ups, othK c l k r us = othK c l k r (us.filter (fun u => u.1 ≠ q))
  | [] => rfl
  | u :: us => by
    have ih := othK_skip c l k r q hq us
    by_cases h : u.1 = q
    · rw [List.filter_cons_of_neg (by simp [h])]
      simp only [othK, ih]
      rw [if_neg (by rw [h]; exact hq)]
      omega
    · rw [List.filter_cons_of_pos (by simp [h])]
      simp only [othK, ih]
theorem othK_nn (c : Cfg) (l k : Int) (r : Nat) : ∀ (n : Nat) (us : Ups), us.length ≤ n → (∀ u ∈ us, 0 ≤ hasK u.1 us) → 0 ≤ othK c l k r us
  | _, [], _, _ => by simp [othK]
  | 0, u :: us, h, _ => by simp at h
  | n + 1, u :: us, h, hn => by
    have hlen : ((u :: us).filter (fun v => v.1 ≠ u.1)).length ≤ n := by
      rw [List.filter_cons_of_neg (by simp)]
      have := List.length_filter_le (fun v : Int × Int => decide (v.1 ≠ u.1)) us
      simp at h
      omega
    have hf : ∀ v ∈ (u :: us).filter (fun v => v.1 ≠ u.1), 0 ≤ hasK v.1 ((u :: us).filter (fun v => v.1 ≠ u.1)) := by
      intro v hv
      obtain ⟨h1, h2⟩ := List.mem_filter.1 hv
      rw [hasK_filter v.1 u.1 (by simpa using h2)]
      exact hn v h1
    have ih := othK_nn c l k r n _ hlen hf
    by_cases hq : u.1 ≠ k ∧ col c l u.1 r = col c l k r
    · rw [othK_filter c l k r u.1 hq.1 hq.2]
      have := hn u (by simp)
      omega
    · rw [othK_skip c l k r u.1 hq]
      exact ih
/-- By key, or by columns. -/
theorem hasK_own {c : Cfg} {l k b : Int} : ∀ {us : Ups}, UpsOk c l b us → (∀ u ∈ us, 0 ≤ u.2) → hasK k us ≤ Lin.own (cols c l k) (opsU c l us)
  | [], _, _ => by simp [hasK, opsU, Lin.own]
  | u :: us, h, hp => by
    have ih := hasK_own (k := k) (us := us) (fun p hq => h p (by simp [hq])) (fun p hq => hp p (by simp [hq]))
    have e : opsU c l (u :: us) = (cols c l u.1, u.2) :: opsU c l us := rfl
    have hu := hp u (by simp)
    rw [e]
    simp only [hasK, Lin.own]
    by_cases h1 : u.1 = k
    · rw [if_pos h1, if_pos (by rw [h1])]
      omega
    · rw [if_neg h1]
      split <;> omega
theorem hasK_bd {k b : Int} (hb : 0 ≤ b) : ∀ {us : Ups}, (∀ u ∈ us, -b ≤ u.2 ∧ u.2 ≤ b) → -(us.length * b) ≤ hasK k us ∧ hasK k us ≤ us.length * b
  | [], _ => by simp [hasK]
  | u :: us, h => by
    have ih := hasK_bd hb (k := k) (us := us) (fun p hp => h p (by simp [hp]))
    have h1 := h u (by simp)
    have e1 : ((u :: us).length : Int) * b = (us.length : Int) * b + b := by
      have e1 : ((u :: us).length : Int) = (us.length : Int) + 1 := by simp
      rw [e1, Int.add_mul, Int.one_mul]
    rw [e1]
    simp only [hasK]
    split <;> omega
theorem othK_bd {c : Cfg} {l k b : Int} {r : Nat} (hb : 0 ≤ b) : ∀ {us : Ups}, (∀ u ∈ us, -b ≤ u.2 ∧ u.2 ≤ b) → -(us.length * b) ≤ othK c l k r us ∧ othK c l k r us ≤ us.length * b
  | [], _ => by simp [othK]
  | u :: us, h => by
    have ih := othK_bd hb (c := c) (l := l) (k := k) (r := r) (us := us) (fun p hp => h p (by simp [hp]))
    have h1 := h u (by simp)
    have e1 : ((u :: us).length : Int) * b = (us.length : Int) * b + b := by
      have e1 : ((u :: us).length : Int) = (us.length : Int) + 1 := by simp
      rw [e1, Int.add_mul, Int.one_mul]
    rw [e1]
    simp only [othK]
    split <;> omega
theorem hasK_next {k : Int} {us : Ups} {j : Nat} {u : Int × Int} (h : us[j]? = some u) : hasK k (us.take (j + 1)) = hasK k (us.take j) + (if u.1 = k then u.2 else 0) := by
  obtain ⟨h1, h2⟩ := List.getElem?_eq_some_iff.1 h
  rw [List.take_succ_eq_append_getElem h1, hasK_app, h2]
  simp [hasK]
theorem othK_next {c : Cfg} {l k : Int} {r : Nat} {us : Ups} {j : Nat} {u : Int × Int} (h : us[j]? = some u) : othK c l k r (us.take (j + 1)) = othK c l k r (us.take j) + (if u.1 ≠ k ∧ col c l u.1 r = col c l k r then u.2 else 0) := by
  obtain ⟨h1, h2⟩ := List.getElem?_eq_some_iff.1 h
  rw [List.take_succ_eq_append_getElem h1, othK_app, h2]
  simp [othK]
end Go.Proofs.Ytnhknachabephaa.Sk
/- What a sketch's calls answer, in numbers. For stages from 10 on. -/
namespace Go.Proofs.Ytnhknachabephaa.Sk
open Go Go.RowKit Lw Grd Lin Con Shp
set_option linter.unusedVariables false
def upCode (c : Cfg) (l : Int) (L : List (List Int)) (k d : Int) : Int :=
  if keys c l ≤ k then 2 else if c.md = 2 then rsCode (rws c) (wds c) L (cols c l k) d else chCode (rws c) (wds c) L (cols c l k) d
def upRes (c : Cfg) (l : Int) (L : List (List Int)) (k d : Int) : List (List Int) :=
  if keys c l ≤ k then L else if c.md = 2 then rsRes (rws c) (wds c) L (cols c l k) d else chRes (rws c) (wds c) L (cols c l k) d
def ptVal (c : Cfg) (l : Int) (L : List (List Int)) (k : Int) : Int :=
  if keys c l ≤ k then 0 else if c.md = 3 then Ord.kv (named L (cols c l k)) ((((named L (cols c l k)).length : Int) - 1) / 2) else lea L (cols c l k)
def ptCode (c : Cfg) (l k : Int) : Int := if keys c l ≤ k then 2 else 0
def cfgE (c d : Cfg) : Bool := decide (c.bt = d.bt ∧ c.rw = d.rw ∧ c.wd = d.wd ∧ c.md = d.md ∧ c.sd = d.sd)
/-- s: 1 for Merge, -1 for Subtract. -/
def mgCode (s : Int) (c d : Cfg) (l l' : Int) (L M : List (List Int)) : Int :=
  if cfgE c d = true ∧ l = l' then (if s = -1 ∧ c.md = 2 then 3 else jcode s (rws c) (wds c) (rws c) (wds c) L M) else 5
def mgRes (s : Int) (c d : Cfg) (l l' : Int) (L M : List (List Int)) : List (List Int) :=
  if cfgE c d = true ∧ l = l' then (if s = -1 ∧ c.md = 2 then L else jres s (rws c) (wds c) (rws c) (wds c) L M) else L
/-- An update, cut. -/
def cutU (c : Cfg) (l : Int) (u : Int × Int) : Int × Int := (u.1 % keys c l, dv (decide (c.md = 2)) u.2)
theorem cutU_ok {c : Cfg} {l : Int} (hk : 1 ≤ keys c l) (u : Int × Int) : 0 ≤ (cutU c l u).1 ∧ (cutU c l u).1 < keys c l ∧ -1099511627776 ≤ (cutU c l u).2 ∧ (cutU c l u).2 ≤ 1099511627776 ∧ (c.md = 2 → 0 ≤ (cutU c l u).2) := by
  refine ⟨Int.emod_nonneg _ (by omega), Int.emod_lt_of_pos _ (by omega), (dv_bd _ _).1, (dv_bd _ _).2, fun h => ?_⟩
  unfold cutU
  simp only [h, decide_true]
  exact dv_plain _
/-- The cells behind updates, from noughts on. -/
def cells (c : Cfg) (l : Int) (us : Ups) : List (List Int) := if c.md = 2 then rsAll (zerosL (rws c) (wds c)) (opsU c l us) else chAll (zerosL (rws c) (wds c)) (opsU c l us)
def UpsIn (c : Cfg) (l : Int) (us : Ups) : Prop := UpsOk c l 1099511627776 us ∧ (c.md = 2 → ∀ u ∈ us, 0 ≤ u.2)
theorem upsIn_cut {c : Cfg} {l : Int} (hk : 1 ≤ keys c l) (us : Ups) : UpsIn c l (us.map (cutU c l)) := by
  refine ⟨fun u hu => ?_, fun hm u hu => ?_⟩
  · obtain ⟨v, _, rfl⟩ := List.mem_map.1 hu
    have := cutU_ok hk v
    exact ⟨this.1, this.2.1, this.2.2.1, this.2.2.2.1⟩
  · obtain ⟨v, _, rfl⟩ := List.mem_map.1 hu
    exact (cutU_ok hk v).2.2.2.2 hm
theorem cells_nil (c : Cfg) (l : Int) : cells c l [] = zerosL (rws c) (wds c) := by unfold cells opsU; split <;> rfl
theorem plus_of {c : Cfg} {l : Int} {us : Ups} (h : UpsIn c l us) (hm : c.md = 2) : Plus 1099511627776 (opsU c l us) := by
  intro o ho
  unfold opsU at ho
  obtain ⟨u, hu, rfl⟩ := List.mem_map.1 ho
  exact ⟨h.2 hm u hu, (h.1 u hu).2.2.2⟩
/-- In the midst of sixty updates: the next one is done. -/
theorem up_ok {c : Cfg} {l : Int} (hr : IsRight c) {us : Ups} (h : UpsIn c l us) (hl : us.length ≤ 60) {u : Int × Int} (hu : UpsIn c l [u]) :
    upCode c l (cells c l us) u.1 u.2 = 0 ∧ upRes c l (cells c l us) u.1 u.2 = cells c l (us ++ [u]) := by
  have h1 := hu.1 u (by simp)
  have hm := cols_meet h1.1 h1.2.1
  have hok := opsU_ok h.1
  have hlen := opsU_len c l us
  have hw := rws_bd hr
  have hv := wds_bd hr
  unfold upCode upRes cells
  have hk : ¬ keys c l ≤ u.1 := by omega
  simp only [if_neg hk, opsU_app]
  by_cases h2 : c.md = 2
  · simp only [if_pos h2]
    exact (both_ok hok (plus_of h h2) (by omega) (by omega) (by omega) (o := (cols c l u.1, u.2)) hm ⟨hu.2 h2 u (by simp), h1.2.2.2⟩).1
  · simp only [if_neg h2]
    have hwi := chAll_within (c := 1099511627776) (by omega) (b := 0) (Int.le_refl _) (within_zeros (rws c) (wds c)) hok
    have hf := fits_within (cols := cols c l u.1) (d := u.2) (within_mono hwi (c := 65970697666560) (by omega)) (by omega) h1.2.2 (by omega)
    have e : opsU c l [u] = [(cols c l u.1, u.2)] := rfl
    rw [e, chAll_one]
    exact ch_ok hm hf
end Go.Proofs.Ytnhknachabephaa.Sk
/- The walks of package sketch (the code's): a sketch is a block of its grid, its config and its level. Printed by wip/gen/skcode.py. -/
namespace Go.Proofs.Ytnhknachabephaa.Sk
open Go Go.RowKit Lw Grd Lin Con Shp
set_option linter.unusedVariables false
set_option linter.unusedSimpArgs false
theorem cl_of {n : Int} {m : Nat} (h0 : 0 ≤ n) (h1 : n ≤ m) : cl n m = n.toNat := by unfold cl; omega
theorem in64_cols (c : Cfg) (l k : Int) : In64 (cols c l k) := fun v hv => cols_in c l k v hv
theorem div_at {j m n : Nat} (hn : 1 ≤ n) (hj : j < m * n) : (j / n) < m ∧ j % n < n ∧ (j / n) * n + j % n = j := by
  refine ⟨Nat.div_lt_of_lt_mul (by rw [Nat.mul_comm]; exact hj), Nat.mod_lt _ (by omega), ?_⟩
  rw [Nat.mul_comm]
  exact Nat.div_add_mod j n
end Go.Proofs.Ytnhknachabephaa.Sk
/- What the statements of layer 10 lean on. Printed by wip/gen/sklaws.py. -/
namespace Go.Proofs.Ytnhknachabephaa.Sk
open Go Go.RowKit Lw Grd Lin Con Shp
set_option linter.unusedVariables false
set_option linter.unusedSimpArgs false
theorem ret_bs {a b : Bool} (h : a = b) : Ending.returned (.bool a) = Ending.returned (.bool b) := by rw [h]
theorem ret_is {k : IntKind} {a b : Int} (h : a = b) : Ending.returned (.int k a) = .returned (.int k b) := by rw [h]
set_option maxRecDepth 100000 in
theorem open_cfg_c : Try.prog.cellsOf 24 = 5 := by kernel_rfl
set_option maxRecDepth 100000 in
theorem open_cfg {H : Type} {enc : TypeId × Value → H} {w : World} {v : Value} {d : DataW H} {p : List MemPlace} {base : Nat} (hv : Value.okWide Try.prog w .any base 24 v)
    (h : DataW.Trod enc Try.prog w 0 (fun _ => true) true 24 v d p) :
    ∃ (x0 : Int) (x1 : Int) (x2 : Int) (x3 : Int) (x4 : Int), v = .agg #[.int .i64 x0, .int .i64 x1, .int .i64 x2, .int .i64 x3, .int .u64 x4] ∧ (-9223372036854775808 ≤ x0 ∧ x0 ≤ 9223372036854775807) ∧ (-9223372036854775808 ≤ x1 ∧ x1 ≤ 9223372036854775807) ∧ (-9223372036854775808 ≤ x2 ∧ x2 ≤ 9223372036854775807) ∧ (-9223372036854775808 ≤ x3 ∧ x3 ≤ 9223372036854775807) ∧ (0 ≤ x4 ∧ x4 ≤ 18446744073709551615) := by
  have hcs : ∃ cs : Array Value, v = .agg cs ∧ cs.size = Try.prog.cellsOf 24 := by
    simp only [Value.okWide, Try.underlying24] at hv
    obtain ⟨cs, h1, h2, _⟩ := hv
    exact ⟨cs, h1, h2⟩
  obtain ⟨⟨l⟩, rfl, hsz⟩ := hcs
  rw [open_cfg_c] at hsz
  obtain ⟨fuel, hf0⟩ := h
  obtain ⟨xs, k, _, _, _, hxl, hf⟩ := DataW.trod_struct Try.underlying24 hf0
  match xs, hxl, l, hsz with
  | [y0, y1, y2, y3, y4], _, [v0, v1, v2, v3, v4], _ =>
    have g0 := hf 0 _ rfl
    have g1 := hf 1 _ rfl
    have g2 := hf 2 _ rfl
    have g3 := hf 3 _ rfl
    have g4 := hf 4 _ rfl
    simp [Value.cells, show Try.prog.cellsOf 3 = 1 from by kernel_rfl, show Try.prog.cellsOf 22 = 1 from by kernel_rfl] at g0 g1 g2 g3 g4
    obtain ⟨x0, f0, _, w0⟩ := DataW.trod_int (show Try.prog.underlying 3 = some (.int .i64) by kernel_rfl) g0
    simp at f0
    subst f0
    obtain ⟨x1, f1, _, w1⟩ := DataW.trod_int (show Try.prog.underlying 3 = some (.int .i64) by kernel_rfl) g1
    simp at f1
    subst f1
    obtain ⟨x2, f2, _, w2⟩ := DataW.trod_int (show Try.prog.underlying 3 = some (.int .i64) by kernel_rfl) g2
    simp at f2
    subst f2
    obtain ⟨x3, f3, _, w3⟩ := DataW.trod_int (show Try.prog.underlying 3 = some (.int .i64) by kernel_rfl) g3
    simp at f3
    subst f3
    obtain ⟨x4, f4, _, w4⟩ := DataW.trod_int (show Try.prog.underlying 22 = some (.int .u64) by kernel_rfl) g4
    simp at f4
    subst f4
    exact ⟨x0, x1, x2, x3, x4, rfl, Lw.wf_i64 w0, Lw.wf_i64 w1, Lw.wf_i64 w2, Lw.wf_i64 w3, Lw.wf_u64 w4⟩
theorem open_upds_u : Try.prog.underlying 55 = some (.slice 59) := by kernel_rfl
theorem open_upds_c : Try.prog.cellsOf 59 = 2 := by kernel_rfl
set_option maxRecDepth 100000 in
theorem open_upds {H : Type} {enc : TypeId × Value → H} {w : World} {base fuel : Nat} {spare : Nat → Bool} {held : Bool} {cs : List Value} {x : DataW H × List MemPlace} (h : DataW.trod enc Try.prog w base spare held fuel 55 cs = some x) :
    ∃ (A : Option Addr) (len cap : Nat) (qs : List (Int × Int)), cs = [.slice A len cap] ∧ (A = none → len = 0 ∧ cap = 0) ∧ len ≤ cap ∧ cap ≤ maxLen ∧ qs.length = len ∧ ∀ (i : Nat) q, qs[i]? = some q → ∃ a, A = some a ∧ w.cell? (a.add (i * 2)) = some (.int .u64 (q.1)) ∧ w.cell? (a.add (i * 2 + 1)) = some (.int .i64 (q.2)) ∧ (0 ≤ (q.1) ∧ (q.1) ≤ 18446744073709551615) ∧ (-9223372036854775808 ≤ (q.2) ∧ (q.2) ≤ 9223372036854775807) := by
  rcases Go.Deep.open_slice open_upds_u h with ⟨rfl, _⟩ | ⟨a, len, cap, m, n, D, Pl, rfl, hb, hl, hm, hmm, _, hx⟩
  · exact ⟨none, 0, 0, [], rfl, fun _ => ⟨rfl, rfl⟩, Nat.le_refl _, by simp, rfl, fun i q hq => by simp at hq⟩
  have hlm : len ≤ m := by rw [hmm]; split <;> omega
  have each : ∀ i, i < len → ∃ q : Int × Int, w.cell? (a.add (i * 2)) = some (.int .u64 (q.1)) ∧ w.cell? (a.add (i * 2 + 1)) = some (.int .i64 (q.2)) ∧ (0 ≤ (q.1) ∧ (q.1) ≤ 18446744073709551615) ∧ (-9223372036854775808 ≤ (q.2) ∧ (q.2) ≤ 9223372036854775807) := by
    intro i hi
    obtain ⟨cs', h1, h2⟩ := hx i (by omega)
    rw [open_upds_c] at h1
    obtain ⟨_, hlen, hcell⟩ := World.cells?_some h1
    obtain ⟨xs, k, _, _, _, hxl, hf⟩ := DataW.trod_struct Try.underlying59 h2
    match xs, hxl, cs', hlen with
    | [y0, y1], _, [v0, v1], _ =>
      have g0 := hf 0 _ rfl
      have g1 := hf 1 _ rfl
      have e0 := hcell 0 (by omega)
      have e1 := hcell 1 (by omega)
      rw [add_add'] at e0 e1
      simp [show Try.prog.cellsOf 22 = 1 from by kernel_rfl, show Try.prog.cellsOf 2 = 1 from by kernel_rfl] at g0 g1
      obtain ⟨x0, f0, _, w0⟩ := DataW.trod_int (show Try.prog.underlying 22 = some (.int .u64) by kernel_rfl) g0
      obtain ⟨x1, f1, _, w1⟩ := DataW.trod_int (show Try.prog.underlying 2 = some (.int .i64) by kernel_rfl) g1
      simp at f0 f1
      subst f0 f1
      exact ⟨(x0, x1), by simpa using e0, by simpa using e1, Lw.wf_u64 w0, Lw.wf_i64 w1⟩
  have each2 : ∀ i, ∃ q : Int × Int, i < len → (w.cell? (a.add (i * 2)) = some (.int .u64 (q.1)) ∧ w.cell? (a.add (i * 2 + 1)) = some (.int .i64 (q.2)) ∧ (0 ≤ (q.1) ∧ (q.1) ≤ 18446744073709551615) ∧ (-9223372036854775808 ≤ (q.2) ∧ (q.2) ≤ 9223372036854775807)) := fun i => by
    by_cases hi : i < len
    · obtain ⟨q, hq⟩ := each i hi
      exact ⟨q, fun _ => hq⟩
    · exact ⟨(0, 0), fun h => absurd h hi⟩
  refine ⟨some a, len, cap, (List.range len).map fun i => Classical.choose (each2 i), rfl, (fun h => by cases h), hl, hm, by simp, ?_⟩
  intro i q hq
  rw [List.getElem?_map] at hq
  obtain ⟨j, hj, rfl⟩ := Option.map_eq_some_iff.1 hq
  have hj2 := List.getElem?_eq_some_iff.1 hj
  obtain ⟨hj3, hj4⟩ := hj2
  simp at hj3 hj4
  subst hj4
  exact ⟨a, rfl, Classical.choose_spec (each2 i) hj3⟩
/-- A row of updates, handed in. -/
structure UpdV (w : World) (A : Option Addr) (n c : Nat) (qs : Ups) : Prop where
  nil : A = none → n = 0 ∧ c = 0
  nc : n ≤ c
  cm : c ≤ maxLen
  len : qs.length = n
  each : ∀ (i : Nat) q, qs[i]? = some q → ∃ a, A = some a ∧ w.cell? (a.add (i * 2)) = some (.int .u64 (q.1)) ∧ w.cell? (a.add (i * 2 + 1)) = some (.int .i64 (q.2)) ∧ (0 ≤ (q.1) ∧ (q.1) ≤ 18446744073709551615) ∧ (-9223372036854775808 ≤ (q.2) ∧ (q.2) ≤ 9223372036854775807)
theorem UpdV.up {w w' : World} {A : Option Addr} {n c : Nat} {qs : Ups} (h : UpdV w A n c qs) (hb : Below w.heap.size w w') : UpdV w' A n c qs :=
  ⟨h.nil, h.nc, h.cm, h.len, fun i q hq => by
    obtain ⟨a, e, h1, h2, h3⟩ := h.each i q hq
    exact ⟨a, e, cell_up h1 hb, cell_up h2 hb, h3⟩⟩
theorem UpdV.at {w : World} {A : Option Addr} {n c : Nat} {qs : Ups} (h : UpdV w A n c qs) {i : Nat} {q : Int × Int} (hq : qs[i]? = some q) : ∃ (a : Addr) (g o : Nat), A = some a ∧ a.add (i * 2) = ⟨g, o, none⟩ ∧ w.cell? ⟨g, o, none⟩ = some (.int .u64 q.1) ∧ w.cell? ⟨g, o + 1, none⟩ = some (.int .i64 q.2) ∧ (0 ≤ q.1 ∧ q.1 ≤ 18446744073709551615) ∧ (-9223372036854775808 ≤ q.2 ∧ q.2 ≤ 9223372036854775807) := by
  obtain ⟨a, e, h1, h2, h3, h4⟩ := h.each i q hq
  rw [← add_add'] at h2
  have hs : (a.add (i * 2)).spot = none := by
    unfold World.cell? at h1
    split at h1
    · split at h1
      · cases h1
      · rename_i hs; simpa using hs
    · cases h1
  obtain ⟨ad, had⟩ : ∃ ad, a.add (i * 2) = ad := ⟨_, rfl⟩
  rw [had] at h1 h2 hs
  obtain ⟨g, o, sp⟩ := ad
  simp only at hs
  subst hs
  rw [Ord.add_at] at h2
  exact ⟨a, g, o, e, had, h1, h2, h3, h4⟩
theorem rem_key (k K : Int) (k0 : 0 ≤ k) (k1 : k ≤ 18446744073709551615) (hK : 1 ≤ K) : Int.tmod k K = k % K ∧ 0 ≤ k % K ∧ k % K ≤ 18446744073709551615 := by
  have h1 := Int.emod_nonneg k (show K ≠ 0 by omega)
  have h2 : k % K ≤ k := by
    have h3 := Int.mul_ediv_add_emod k K
    have h4 := Int.mul_nonneg (show (0 : Int) ≤ K by omega) (Int.ediv_nonneg k0 (show (0 : Int) ≤ K by omega))
    omega
  exact ⟨Int.tmod_eq_emod_of_nonneg k0, h1, by omega⟩
/-- The updates, cut: sixty of them. -/
def upsA (c : Cfg) (l : Int) (qs : Ups) : Ups := (qs.take 60).map (cutU c l)
theorem upsA_get {c : Cfg} {l : Int} {qs : Ups} {k : Nat} {q : Int × Int} (hk : k < 60) (hq : qs[k]? = some q) : (upsA c l qs)[k]? = some (cutU c l q) := by
  unfold upsA
  rw [List.getElem?_map, List.getElem?_take, if_pos hk, hq]
  rfl
theorem upsA_all {c : Cfg} {l : Int} {qs : Ups} {k : Nat} (h : k = qs.length ∨ k = 60) (hk : k ≤ 60) : (upsA c l qs).take k = upsA c l qs := by
  refine List.take_of_length_le ?_
  unfold upsA
  rw [List.length_map, List.length_take]
  omega
theorem upsA_bd {c : Cfg} {l : Int} (qs : Ups) (hK : 1 ≤ keys c l) (k : Nat) : ∀ u ∈ (upsA c l qs).take k, -1099511627776 ≤ u.2 ∧ u.2 ≤ 1099511627776 := by
  intro u hu
  have h1 := List.mem_of_mem_take hu
  unfold upsA at h1
  obtain ⟨v, _, rfl⟩ := List.mem_map.1 h1
  have := cutU_ok hK v
  exact ⟨this.2.2.1, this.2.2.2.1⟩
end Go.Proofs.Ytnhknachabephaa.Sk
/- What sketches tell, in numbers: Point, the middle one, two that are merged. For stages from 10 on. -/
namespace Go.Proofs.Ytnhknachabephaa.Sk
open Go Go.RowKit Lw Grd Lin Con Shp
set_option linter.unusedVariables false
theorem pt_ok {c : Cfg} {l k : Int} (hk : k < keys c l) : ptCode c l k = 0 := if_neg (by omega)
theorem pt_least {c : Cfg} {l k : Int} {L : List (List Int)} (hk : k < keys c l) (hm : c.md ≠ 3) : ptVal c l L k = lea L (cols c l k) := by
  unfold ptVal
  rw [if_neg (by omega), if_neg hm]
theorem pt_middle {c : Cfg} {l k : Int} {L : List (List Int)} (hk : k < keys c l) (hm : c.md = 3) : ptVal c l L k = Ord.kv (named L (cols c l k)) ((((named L (cols c l k)).length : Int) - 1) / 2) := by
  unfold ptVal
  rw [if_neg (by omega), if_pos hm]
theorem cells_lin {c : Cfg} {l : Int} {us : Ups} (hm : c.md ≠ 2) : cells c l us = chAll (zerosL (rws c) (wds c)) (opsU c l us) := if_neg hm
theorem cells_con {c : Cfg} {l : Int} {us : Ups} (hm : c.md = 2) : cells c l us = rsAll (zerosL (rws c) (wds c)) (opsU c l us) := if_pos hm
/-- What others have in a key's column, row by row. -/
def othR (c : Cfg) (l k : Int) (us : Ups) : List Int := (List.range (rws c)).map (fun r => othK c l k r us)
theorem othR_get {c : Cfg} {l k : Int} {us : Ups} {r : Nat} (hr : r < rws c) : (othR c l k us)[r]? = some (othK c l k r us) := by
  unfold othR
  rw [List.getElem?_map, List.getElem?_range hr]
  rfl
theorem othR_len (c : Cfg) (l k : Int) (us : Ups) : (othR c l k us).length = rws c := by simp [othR]
theorem named_oth {c : Cfg} {l k b : Int} {us : Ups} (h : UpsOk c l b us) (k0 : 0 ≤ k) (hk : k < keys c l) :
    named (chAll (zerosL (rws c) (wds c)) (opsU c l us)) (cols c l k) = (othR c l k us).map (fun v => v + hasK k us) := by
  have hsz := chAll_sz (sz_zeros (rws c) (wds c)) (opsU_ok h)
  have hlen := named_klen hsz.1 k0 hk
  apply List.ext_getElem?
  intro r
  rw [List.getElem?_map]
  by_cases hr : r < rws c
  · rw [named_key h k0 hk hr, othR_get hr]
    simp
    omega
  · rw [List.getElem?_eq_none (by rw [hlen]; omega), List.getElem?_eq_none (by rw [othR_len]; omega)]
    rfl
/-- If more than half of the rows are not farther than so much from 0, Point is not from what the key has. -/
theorem median_near {c : Cfg} {l k b far : Int} {us : Ups} (hr : IsRight c) (h : UpsOk c l b us) (k0 : 0 ≤ k) (hk : k < keys c l) (hm : c.md = 3) (hn : (rws c : Int) < 2 * (Ord.near (othR c l k us) (-far) far : Int)) :
    hasK k us - far ≤ ptVal c l (cells c l us) k ∧ ptVal c l (cells c l us) k ≤ hasK k us + far := by
  rw [pt_middle hk hm, cells_lin (by omega), named_oth h k0 hk]
  have hl : 0 < (othR c l k us).length := by rw [othR_len]; exact (rws_bd hr).1
  have h1 := (Ord.moves (othR c l k us) (hasK k us) hl).1
  rw [h1]
  have h2 := Ord.near_median2 (othR c l k us) (-far) far (by rw [othR_len]; exact hn)
  omega
/-- Merged, two sketches of the modes Linear and Median are one that was fed all. -/
theorem merge_lin {c : Cfg} {l : Int} {us vs : Ups} (hr : IsRight c) (hm : c.md ≠ 2) (hu : UpsOk c l 1099511627776 us) (hv : UpsOk c l 1099511627776 vs) (hlu : us.length ≤ 60) (hlv : vs.length ≤ 60) :
    mgCode 1 c c l l (cells c l us) (cells c l vs) = 0 ∧ mgRes 1 c c l l (cells c l us) (cells c l vs) = cells c l (us ++ vs) := by
  have h1 := opsU_ok hu
  have h2 := opsU_ok hv
  have w1 := within_mono (chAll_within (c := 1099511627776) (by omega) (b := 0) (Int.le_refl _) (within_zeros (rws c) (wds c)) h1) (c := 65970697666560) (by rw [opsU_len]; omega)
  have w2 := within_mono (chAll_within (c := 1099511627776) (by omega) (b := 0) (Int.le_refl _) (within_zeros (rws c) (wds c)) h2) (c := 65970697666560) (by rw [opsU_len]; omega)
  have hj := jcode_yes (s := 1) (m := rws c) (n := wds c) (join_fits (m := rws c) (n := wds c) w1 w2)
  have hs1 := chAll_sz (sz_zeros (rws c) (wds c)) h1
  have hs2 := chAll_sz (sz_zeros (rws c) (wds c)) h2
  have h3 : OpsOk (rws c) (wds c) 1099511627776 (opsU c l (us ++ vs)) := opsU_ok (fun u hq => (List.mem_append.1 hq).elim (hu u) (hv u))
  have hs3 := chAll_sz (sz_zeros (rws c) (wds c)) h3
  have hce : cfgE c c = true := decide_eq_true ⟨rfl, rfl, rfl, rfl, rfl⟩
  have e : gridS 1 (chAll (zerosL (rws c) (wds c)) (opsU c l us)) (chAll (zerosL (rws c) (wds c)) (opsU c l vs)) = chAll (zerosL (rws c) (wds c)) (opsU c l (us ++ vs)) := by
    have key : Sz (rws c) (wds c) (gridS 1 (chAll (zerosL (rws c) (wds c)) (opsU c l us)) (chAll (zerosL (rws c) (wds c)) (opsU c l vs))) := by
      refine ⟨by unfold gridS; rw [List.length_zipWith, hs1.1, hs2.1]; omega, fun r hr => ?_⟩
      obtain ⟨a, g1, b, g2, rfl⟩ := mem_zip hr
      unfold rowS
      rw [List.length_zipWith, hs1.2 a g1, hs2.2 b g2]
      omega
    refine sz_ext key hs3 fun r q hrm hqn => ?_
    rw [chAll_cel hrm hqn (sz_zeros _ _) h3, opsU_app, hit_app, cel_zeros]
    have c1 := chAll_cel hrm hqn (sz_zeros (rws c) (wds c)) h1
    have c2 := chAll_cel hrm hqn (sz_zeros (rws c) (wds c)) h2
    rw [cel_zeros] at c1 c2
    have g1 : r < (chAll (zerosL (rws c) (wds c)) (opsU c l us)).length := by rw [hs1.1]; exact hrm
    have g2 : r < (chAll (zerosL (rws c) (wds c)) (opsU c l vs)).length := by rw [hs2.1]; exact hrm
    have g3 := hs1.2 _ (List.getElem_mem g1)
    have g4 := hs2.2 _ (List.getElem_mem g2)
    have c3 : cel (gridS 1 (chAll (zerosL (rws c) (wds c)) (opsU c l us)) (chAll (zerosL (rws c) (wds c)) (opsU c l vs))) r q = cel (chAll (zerosL (rws c) (wds c)) (opsU c l us)) r q + cel (chAll (zerosL (rws c) (wds c)) (opsU c l vs)) r q := by
      unfold cel gridS
      rw [List.getElem?_zipWith, List.getElem?_eq_getElem g1, List.getElem?_eq_getElem g2]
      simp only [Option.getD_some]
      unfold rowS
      rw [List.getElem?_zipWith, List.getElem?_eq_getElem (by omega), List.getElem?_eq_getElem (by omega)]
      simp
    rw [c3, c1, c2]
    omega
  unfold mgCode mgRes
  have hs1x : ¬ ((1 : Int) = -1 ∧ c.md = 2) := by omega
  rw [if_pos (show cfgE c c = true ∧ l = l from ⟨hce, rfl⟩), if_pos (show cfgE c c = true ∧ l = l from ⟨hce, rfl⟩), if_neg hs1x, if_neg hs1x]
  simp only [cells_lin hm]
  rw [← e]
  exact hj
/-- In the mode Conservative, parted and merged: Point is between what the key has and what it would be told in the mode Linear. -/
theorem merge_con {c d : Cfg} {l k : Int} {us vs : Ups} (hr : IsRight c) (hm : c.md = 2) (hd : d.md = 1) (hrd : rws d = rws c) (hwd : wds d = wds c) (hcols : ∀ q, cols d l q = cols c l q) (hkd : keys d l = keys c l)
    (hu : UpsIn c l us) (hv : UpsIn c l vs) (hlu : us.length ≤ 60) (hlv : vs.length ≤ 60) (k0 : 0 ≤ k) (hk : k < keys c l) :
    mgCode 1 c c l l (cells c l us) (cells c l vs) = 0 ∧ hasK k (us ++ vs) ≤ ptVal c l (mgRes 1 c c l l (cells c l us) (cells c l vs)) k ∧ ptVal c l (mgRes 1 c c l l (cells c l us) (cells c l vs)) k ≤ ptVal d l (cells d l (us ++ vs)) k := by
  have h1 := opsU_ok hu.1
  have h2 := opsU_ok hv.1
  have r1 := rose_all (rose_zero (rws c) (wds c)) h1 (plus_of hu hm)
  have r2 := rose_all (rose_zero (rws c) (wds c)) h2 (plus_of hv hm)
  have d1 := rose_dims h1 (plus_of hu hm) (by rw [opsU_len]; exact hlu)
  have d2 := rose_dims h2 (plus_of hv hm) (by rw [opsU_len]; exact hlv)
  have hj := jcode_yes (s := 1) (m := rws c) (n := wds c) (join_fits (m := rws c) (n := wds c) d1.2 d2.2)
  have hce : cfgE c c = true := decide_eq_true ⟨rfl, rfl, rfl, rfl, rfl⟩
  have hrj := r1.join r2
  rw [List.nil_append, List.nil_append, ← opsU_app] at hrj
  have hlo := hrj.lea_own (cols_meet k0 hk)
  have hall : UpsOk c l 1099511627776 (us ++ vs) := fun u hq => (List.mem_append.1 hq).elim (hu.1 u) (hv.1 u)
  have hpl : ∀ u ∈ us ++ vs, 0 ≤ u.2 := fun u hq => (List.mem_append.1 hq).elim (hu.2 hm u) (hv.2 hm u)
  have hown := hasK_own (k := k) hall hpl
  have hops : opsU d l (us ++ vs) = opsU c l (us ++ vs) := by unfold opsU; simp only [hcols]
  have hmg : mgCode 1 c c l l (cells c l us) (cells c l vs) = 0 ∧ mgRes 1 c c l l (cells c l us) (cells c l vs) = gridS 1 (cells c l us) (cells c l vs) := by
    unfold mgCode mgRes
    have hs1x : ¬ ((1 : Int) = -1 ∧ c.md = 2) := by omega
    rw [if_pos (show cfgE c c = true ∧ l = l from ⟨hce, rfl⟩), if_pos (show cfgE c c = true ∧ l = l from ⟨hce, rfl⟩), if_neg hs1x, if_neg hs1x]
    simp only [cells_con hm]
    exact hj
  refine ⟨hmg.1, ?_, ?_⟩
  · rw [hmg.2, pt_least hk (by omega), cells_con hm, cells_con hm]
    omega
  · rw [hmg.2, pt_least hk (by omega), pt_least (by rw [hkd]; exact hk) (by omega), cells_con hm, cells_con hm, cells_lin (by omega), hrd, hwd, hops, hcols]
    have hlin : gridS 1 (chAll (zerosL (rws c) (wds c)) (opsU c l us)) (chAll (zerosL (rws c) (wds c)) (opsU c l vs)) = chAll (zerosL (rws c) (wds c)) (opsU c l (us ++ vs)) := by
      have hx : ({ c with md := 1 } : Cfg).md ≠ 2 := by simp
      have hrx : IsRight { c with md := 1 } := ⟨hr.1, hr.2.1, hr.2.2.1, hr.2.2.2.1, hr.2.2.2.2.1, hr.2.2.2.2.2.1, by simp, by simp⟩
      have hkx : keys { c with md := 1 } l = keys c l := by
        unfold keys
        by_cases hl : 0 ≤ l ∧ l ≤ c.bt
        · rw [if_pos ⟨hrx, hl⟩, if_pos ⟨hr, hl⟩]
        · rw [if_neg (fun g => hl g.2), if_neg (fun g => hl g.2)]
      have hox : ∀ ws : Ups, opsU { c with md := 1 } l ws = opsU c l ws := fun ws => by
        unfold opsU cols
        rw [hkx]
        rfl
      have hux : UpsOk { c with md := 1 } l 1099511627776 us := fun u hq => by have := hu.1 u hq; rw [hkx]; exact this
      have hvx : UpsOk { c with md := 1 } l 1099511627776 vs := fun u hq => by have := hv.1 u hq; rw [hkx]; exact this
      have hmx := merge_lin hrx hx hux hvx hlu hlv
      rw [cells_lin hx, cells_lin hx, cells_lin hx, hox, hox, hox] at hmx
      have hw1 := join_fits (m := rws c) (n := wds c) d1.1 d2.1
      have e2 : mgRes 1 { c with md := 1 } { c with md := 1 } l l (chAll (zerosL (rws c) (wds c)) (opsU c l us)) (chAll (zerosL (rws c) (wds c)) (opsU c l vs)) = gridS 1 (chAll (zerosL (rws c) (wds c)) (opsU c l us)) (chAll (zerosL (rws c) (wds c)) (opsU c l vs)) := by
        unfold mgRes
        have hcx : cfgE { c with md := 1 } { c with md := 1 } = true := decide_eq_true ⟨rfl, rfl, rfl, rfl, rfl⟩
        rw [if_pos (show cfgE { c with md := 1 } { c with md := 1 } = true ∧ l = l from ⟨hcx, rfl⟩), if_neg (show ¬ ((1 : Int) = -1 ∧ ({ c with md := 1 } : Cfg).md = 2) from fun h => by have := h.1; omega)]
        exact (jcode_yes hw1).2
      exact e2.symm.trans hmx.2
    rw [← hlin]
    exact hlo.2.1
end Go.Proofs.Ytnhknachabephaa.Sk
/- others of layer 10's laws. Printed by wip/gen/skfed.py. -/
namespace Go.Proofs.Ytnhknachabephaa.Sk
open Go Go.RowKit Lw Grd Lin Con Shp
set_option linter.unusedVariables false
set_option linter.unusedSimpArgs false
end Go.Proofs.Ytnhknachabephaa.Sk
/- fed of layer 10's laws. Printed by wip/gen/skfed2.py. -/
namespace Go.Proofs.Ytnhknachabephaa.Sk
open Go Go.RowKit Lw Grd Lin Con Shp
set_option linter.unusedVariables false
set_option linter.unusedSimpArgs false
/-- The updates from the one place to the other, cut. -/
def upsR (c : Cfg) (l : Int) (qs : Ups) (f t : Nat) : Ups := ((qs.take t).drop f).map (cutU c l)
theorem upsR_zero (c : Cfg) (l : Int) (qs : Ups) (f : Nat) : upsR c l qs f f = [] := by
  unfold upsR
  rw [List.drop_of_length_le (by rw [List.length_take]; omega)]
  rfl
theorem upsR_next {c : Cfg} {l : Int} {qs : Ups} {f k : Nat} {q : Int × Int} (hq : qs[k]? = some q) (hf : f ≤ k) : upsR c l qs f (k + 1) = upsR c l qs f k ++ [cutU c l q] := by
  obtain ⟨h1, h2⟩ := List.getElem?_eq_some_iff.1 hq
  unfold upsR
  rw [List.take_succ_eq_append_getElem h1, List.drop_append_of_le_length (by rw [List.length_take]; omega), List.map_append, h2]
  rfl
theorem upsR_len (c : Cfg) (l : Int) (qs : Ups) (f t : Nat) : (upsR c l qs f t).length ≤ t := by
  unfold upsR
  rw [List.length_map, List.length_drop, List.length_take]
  omega
theorem upsR_in {c : Cfg} {l : Int} (hk : 1 ≤ keys c l) (qs : Ups) (f t : Nat) : UpsIn c l (upsR c l qs f t) := upsIn_cut hk _
theorem upsR_end {c : Cfg} {l : Int} {qs : Ups} {f k t : Nat} (hk : k ≤ t) (h : k = t ∨ qs.length ≤ k) : upsR c l qs f k = upsR c l qs f t := by
  unfold upsR
  rcases h with rfl | h
  · rfl
  · rw [List.take_of_length_le h, List.take_of_length_le (by omega)]
theorem two_boxs (w : World) (e1 e2 : TypeId) (v1 v2 : Array Value) : Have w ((w.alloc (.cells v1 e1)).alloc (.cells v2 e2)) [boxT (w.heap.size + 1) e2 v2, boxT w.heap.size e1 v1] := by
  refine (box_new w e1 v1).push (boxT (w.heap.size + 1) e2 v2) (Lw.below_alloc (Below.refl _ _) _) ?_ (fun k hk => ?_)
  · have h := heap_alloc_new (w.alloc (.cells v1 e1)) (.cells v2 e2)
    rw [World.size_alloc] at h
    exact h
  · rw [World.size_alloc]
    exact Nat.le_of_eq hk.symm
theorem box5 {w : World} {b : Nat} {e : TypeId} {v0 v1 v2 v3 v4 : Value} (h : (boxT b e #[v0, v1, v2, v3, v4]).I w) : w.cell? ⟨b, 0, none⟩ = some v0 ∧ w.cell? ⟨b, 1, none⟩ = some v1 ∧ w.cell? ⟨b, 2, none⟩ = some v2 ∧ w.cell? ⟨b, 3, none⟩ = some v3 ∧ w.cell? ⟨b, 4, none⟩ = some v4 :=
  ⟨box_cell h rfl, box_cell h rfl, box_cell h rfl, box_cell h rfl, box_cell h rfl⟩
theorem box7 {w : World} {b : Nat} {e : TypeId} {v0 v1 v2 v3 v4 v5 v6 : Value} (h : (boxT b e #[v0, v1, v2, v3, v4, v5, v6]).I w) : w.cell? ⟨b, 0, none⟩ = some v0 ∧ w.cell? ⟨b, 1, none⟩ = some v1 ∧ w.cell? ⟨b, 2, none⟩ = some v2 ∧ w.cell? ⟨b, 3, none⟩ = some v3 ∧ w.cell? ⟨b, 4, none⟩ = some v4 ∧ w.cell? ⟨b, 5, none⟩ = some v5 ∧ w.cell? ⟨b, 6, none⟩ = some v6 :=
  ⟨box_cell h rfl, box_cell h rfl, box_cell h rfl, box_cell h rfl, box_cell h rfl, box_cell h rfl, box_cell h rfl⟩
theorem boxs_frozen {w : World} {b : Nat} {e : TypeId} {vs : Array Value} (h : (boxT b e vs).I w) (i : Nat) : w.frozen? ⟨b, i, none⟩ = false := by
  have h1 : w.heap[b]? = some (.cells vs e (0, 0)) := h
  simp [World.frozen?, h1]
theorem boxs_set {w : World} {b : Nat} {e : TypeId} {vs : Array Value} (h : (boxT b e vs).I w) (i : Nat) (v : Value) : (boxT b e (vs.setIfInBounds i v)).I (w.setCell ⟨b, i, none⟩ v) := by
  have h1 : w.heap[b]? = some (.cells vs e (0, 0)) := h
  show (w.setCell ⟨b, i, none⟩ v).heap[b]? = _
  simp [World.setCell, Array.getElem?_modify, h1]
theorem store5 {w : World} {b : Nat} {e : TypeId} {u0 u1 u2 u3 u4 : Value} (h : (boxT b e #[u0, u1, u2, u3, u4]).I w) (v0 v1 v2 v3 v4 : Value) :
    (boxT b e #[v0, v1, v2, v3, v4]).I ((((((w.setCell ⟨b, 0, none⟩ v0).setCell ⟨b, 1, none⟩ v1).setCell ⟨b, 2, none⟩ v2).setCell ⟨b, 3, none⟩ v3).setCell ⟨b, 4, none⟩ v4).drew) := by
  have q := boxs_set (boxs_set (boxs_set (boxs_set (boxs_set h 0 v0) 1 v1) 2 v2) 3 v3) 4 v4
  exact (boxT b e #[v0, v1, v2, v3, v4]).keep _ _ (fun _ => False) q (Kept.of_below (Below.drew (Below.refl _ _))) (fun _ _ h => h)
theorem store_have {w0 w w' : World} {t0 t1 : Thing} {b : Nat} {e : TypeId} {vs : Array Value} {ts : List Thing} (h : Have w0 w (t0 :: t1 :: boxT b e vs :: ts)) (hk : Kept (fun k => k = b) w w') : Have w0 w' [t0] := by
  have hb : Below w0.heap.size w0 w' := hk.low h.below h.below.size (fun q hq => by subst hq; exact h.f2 q rfl)
  have h2 : Have w0 w [t0] := ⟨h.i0, h.f0, fun u hu => by simp at hu, h.below⟩
  exact Have.keep hk hb h2 (fun t ht k h3 h4 => by simp at ht; subst ht; exact h.ap02 k h3 h4)
/-- The config of a Play of layer 10, of a mode. -/
def cfgP (x : Cfg) (md : Int) : Cfg := { anyC x 8 9 with md := md }
theorem cfgP_right (x : Cfg) (md : Int) (h0 : 1 ≤ md) (h1 : md ≤ 3) : IsRight (cfgP x md) ∧ (cfgP x md).bt ≤ 8 := by
  have h := any_right x 8 9 (by omega) (by omega) (by omega) (by omega)
  refine ⟨⟨h.1, h.2.1, h.2.2.1, h.2.2.2.1, h.2.2.2.2.1, h.2.2.2.2.2.1, h0, h1⟩, ?_⟩
  show 1 + x.bt % 65536 % 8 ≤ 8
  omega
theorem cfgP_ok (x : Cfg) (hx : x.Ok) (md : Int) (h0 : 1 ≤ md) (h1 : md ≤ 3) : (cfgP x md).Ok := by
  have h := any_ok x hx 8 9 (by omega) (by omega) (by omega) (by omega)
  exact ⟨h.b0, h.b1, h.r0, h.r1, h.w0, h.w1, by show -9223372036854775808 ≤ md; omega, by show md ≤ 9223372036854775807; omega, h.s0, h.s1⟩
end Go.Proofs.Ytnhknachabephaa.Sk
/- shown of layer 10's laws. Printed by wip/gen/skshown.py. -/
namespace Go.Proofs.Ytnhknachabephaa.Sk
open Go Go.RowKit Lw Grd Lin Con Shp
set_option linter.unusedVariables false
set_option linter.unusedSimpArgs false
def sA : Cfg := ⟨3, 2, 1, 1, 0⟩
theorem sA_ok : sA.Ok := by constructor <;> decide
theorem sA_r : IsRight sA := by decide
theorem sA_rw : rws sA = 2 := rfl
theorem sA_wd : wds sA = 1 := rfl
theorem sA_k0 : keys sA 0 = 8 := by decide
theorem sA_k4 : keys sA 4 = 0 := by decide
theorem sA_cols {k : Int} (h1 : k < 8) : cols sA 0 k = [0, 0] := by
  have h : ∀ r, col sA 0 k r = 0 := fun r => by
    have h2 := col_range sA_r 0 k r
    have e : sA.wd = 1 := rfl
    omega
  rw [cols_yes (by rw [sA_k0]; exact h1)]
  show (List.range 2).map (col sA 0 k) = [0, 0]
  simp [List.range, List.range.loop, h]
def sB : List (List Int) := [[5], [5]]
def sD : List (List Int) := [[7], [7]]
theorem u1 : upCode sA 0 (zerosL 2 1) 0 5 = 0 ∧ upRes sA 0 (zerosL 2 1) 0 5 = sB := by
  unfold upCode upRes
  rw [sA_cols (by omega), sA_k0, if_neg (by omega), if_neg (by decide), if_neg (by omega), if_neg (by decide)]
  decide
theorem u2 : upCode sA 0 sB 1 2 = 0 ∧ upRes sA 0 sB 1 2 = sD := by
  unfold upCode upRes
  rw [sA_cols (by omega), sA_k0, if_neg (by omega), if_neg (by decide), if_neg (by omega), if_neg (by decide)]
  decide
theorem u3 : upCode sA 0 sD 8 2 = 2 ∧ upRes sA 0 sD 8 2 = sD := by
  unfold upCode upRes
  rw [sA_k0, if_pos (by omega), if_pos (by omega)]
  exact ⟨rfl, rfl⟩
theorem p1 : ptVal sA 0 sD 0 = 7 ∧ ptCode sA 0 0 = 0 := by
  unfold ptVal ptCode
  rw [sA_cols (by omega), sA_k0, if_neg (by omega), if_neg (by decide), if_neg (by omega)]
  refine ⟨?_, rfl⟩
  unfold lea
  rw [(Ord.kv_yes (k := 0) (by omega) (by decide)).1]
  exact (Ord.least_eq _ 7 (by decide) (by decide)).symm
end Go.Proofs.Ytnhknachabephaa.Sk
/- What SketchPoint and SketchMedian lean on. Printed by wip/gen/skpoint.py. -/
namespace Go.Proofs.Ytnhknachabephaa.Sk
open Go Go.RowKit Lw Grd Lin Con Shp
set_option linter.unusedVariables false
set_option linter.unusedSimpArgs false
theorem upsA_R (c : Cfg) (l : Int) (qs : Ups) : upsA c l qs = upsR c l qs 0 60 := by unfold upsA upsR; rw [List.drop_zero]
end Go.Proofs.Ytnhknachabephaa.Sk
/- One update of a fresh sketch; what it is merged into changes; rows of numbers as things. Printed by wip/gen/skunl.py. -/
namespace Go.Proofs.Ytnhknachabephaa.Sk
open Go Go.RowKit Lw Grd Lin Con Shp
set_option linter.unusedVariables false
set_option linter.unusedSimpArgs false
/-- A row of numbers in a block of its own. -/
def midT (g : Nat) (zs : List Int) : Thing where
  I := fun w => Ord.Mid w g 0 zs
  F := fun k => k = g
  keep := fun w w' H h hk hf => h.keep hk (hf g rfl)
  lt := fun w h k hk => by subst hk; exact h.lt
theorem midI {w : World} {g : Nat} {zs : List Int} (h : (midT g zs).I w) : Ord.Mid w g 0 zs := h
theorem one_in {c : Cfg} {l d : Int} (hk : 1 ≤ keys c l) (d0 : 0 ≤ d) (d1 : d ≤ 1099511627776) : UpsIn c l [(0, d)] := by
  refine ⟨fun u hu => ?_, fun _ u hu => ?_⟩
  · simp at hu
    subst hu
    exact ⟨by omega, by show (0 : Int) < keys c l; omega, by show -1099511627776 ≤ d; omega, d1⟩
  · simp at hu
    subst hu
    exact d0
theorem one_up {c : Cfg} {l d : Int} (hr : IsRight c) (hk : 1 ≤ keys c l) (d0 : 0 ≤ d) (d1 : d ≤ 1099511627776) : upCode c l (zerosL (rws c) (wds c)) 0 d = 0 ∧ upRes c l (zerosL (rws c) (wds c)) 0 d = cells c l [(0, d)] := by
  have hn : UpsIn c l [] := ⟨fun u hu => by simp at hu, fun _ u hu => by simp at hu⟩
  have h := up_ok hr hn (by simp) (one_in hk d0 d1)
  rw [cells_nil] at h
  exact h
theorem one_least {c : Cfg} {l d : Int} (hk : 1 ≤ keys c l) (d0 : 0 ≤ d) (d1 : d ≤ 1099511627776) {q : Nat} (hq : col c l 0 0 = q) : d ≤ cel (cells c l [(0, d)]) 0 q := by
  have hin := one_in hk d0 d1
  have hr := (keys_pos.1 hk).1
  have h0 := (rws_bd hr).1
  have hkk : (0 : Int) < keys c l := by omega
  have hok := opsU_ok hin.1
  have hm := cols_meet (c := c) (l := l) (k := 0) (Int.le_refl _) hkk
  by_cases h2 : c.md = 2
  · have hro := rose_all (rose_zero (rws c) (wds c)) hok (plus_of hin h2)
    rw [List.nil_append] at hro
    have hown : Lin.own (cols c l 0) (opsU c l [(0, d)]) = d := by simp [opsU, Lin.own]
    have hcr := col_range hr l 0 0
    have hwd := wds_bd hr
    have ho := hro.ow (cols c l 0) hm 0 q (by omega) (by omega) (by rw [cols_at hkk (by omega), hq])
    rw [cells_con h2]
    omega
  · rw [cells_lin h2]
    have hsz := chAll_sz (sz_zeros (rws c) (wds c)) hok
    have hn := named_cel hsz hm (r := 0) (v := q) (by omega) (by rw [cols_at hkk (by omega), hq])
    have hk2 := named_key hin.1 (Int.le_refl _) hkk (r := 0) (by omega)
    rw [hn] at hk2
    injection hk2 with hk2
    rw [hk2]
    simp [hasK, othK]
theorem cel_sum {m n : Nat} {L M : List (List Int)} (hL : Sz m n L) (hM : Sz m n M) {r q : Nat} (hr : r < m) (hq : q < n) : cel (gridS 1 L M) r q = cel L r q + cel M r q := by
  have g1 : r < L.length := by rw [hL.1]; exact hr
  have g2 : r < M.length := by rw [hM.1]; exact hr
  have g3 := hL.2 _ (List.getElem_mem g1)
  have g4 := hM.2 _ (List.getElem_mem g2)
  unfold cel gridS
  rw [List.getElem?_zipWith, List.getElem?_eq_getElem g1, List.getElem?_eq_getElem g2]
  simp only [Option.getD_some]
  unfold rowS
  rw [List.getElem?_zipWith, List.getElem?_eq_getElem (by omega), List.getElem?_eq_getElem (by omega)]
  simp
theorem sz_of_dims {m n : Nat} {L : List (List Int)} (h : Dims m n L) : Sz m n L := ⟨h.len, fun r hr => (h.rows r hr).1⟩
theorem cel_flat {m n : Nat} {L : List (List Int)} (h : Sz m n L) {r q : Nat} (hr : r < m) (hq : q < n) : cel L r q = (L.flatten[r * n + q]?).getD 0 := by
  rw [flat_get r q h.2 (by rw [h.1]; exact hr) hq]
  rfl
theorem cells_sz {c : Cfg} {l : Int} {us : Ups} (h : UpsIn c l us) : Sz (rws c) (wds c) (cells c l us) := by
  have hok := opsU_ok h.1
  by_cases h2 : c.md = 2
  · rw [cells_con h2]
    have hro := rose_all (rose_zero (rws c) (wds c)) hok (plus_of h h2)
    exact hro.sg
  · rw [cells_lin h2]
    exact chAll_sz (sz_zeros (rws c) (wds c)) hok
/-- What has something is merged in: some cell is another one. -/
theorem one_merge {c : Cfg} {l a b : Int} (hk : 1 ≤ keys c l) (a0 : 0 ≤ a) (a1 : a ≤ 1099511627776) (b0 : 1 ≤ b) (b1 : b ≤ 1099511627776) :
    mgCode 1 c c l l (cells c l [(0, a)]) (cells c l [(0, b)]) = 0 ∧ (mgRes 1 c c l l (cells c l [(0, a)]) (cells c l [(0, b)])).flatten ≠ (cells c l [(0, a)]).flatten := by
  have hia := one_in hk a0 a1
  have hib := one_in (d := b) hk (by omega) b1
  have hr := (keys_pos.1 hk).1
  have hs1 := cells_sz hia
  have hs2 := cells_sz hib
  have hf : fitsAll (gridS 1 (cells c l [(0, a)]) (cells c l [(0, b)])) = true := by
    have h1 := opsU_ok hia.1
    have h2 := opsU_ok hib.1
    by_cases hm : c.md = 2
    · rw [cells_con hm, cells_con hm]
      exact join_fits (m := rws c) (n := wds c) (rose_dims h1 (plus_of hia hm) (by rw [opsU_len]; simp)).2 (rose_dims h2 (plus_of hib hm) (by rw [opsU_len]; simp)).2
    · rw [cells_lin hm, cells_lin hm]
      exact join_fits (m := rws c) (n := wds c) (within_mono (chAll_within (c := 1099511627776) (by omega) (b := 0) (Int.le_refl _) (within_zeros (rws c) (wds c)) h1) (c := 65970697666560) (by rw [opsU_len]; simp)) (within_mono (chAll_within (c := 1099511627776) (by omega) (b := 0) (Int.le_refl _) (within_zeros (rws c) (wds c)) h2) (c := 65970697666560) (by rw [opsU_len]; simp))
  have hj := jcode_yes (s := 1) (m := rws c) (n := wds c) hf
  have hce : cfgE c c = true := decide_eq_true ⟨rfl, rfl, rfl, rfl, rfl⟩
  have hs1x : ¬ ((1 : Int) = -1 ∧ c.md = 2) := by omega
  unfold mgCode mgRes
  rw [if_pos (show cfgE c c = true ∧ l = l from ⟨hce, rfl⟩), if_pos (show cfgE c c = true ∧ l = l from ⟨hce, rfl⟩), if_neg hs1x, if_neg hs1x]
  refine ⟨hj.1, ?_⟩
  rw [hj.2]
  intro he
  have hw := rws_bd hr
  have hv := wds_bd hr
  have hcr := col_range hr l 0 0
  obtain ⟨q, hq⟩ : ∃ q : Nat, col c l 0 0 = q := ⟨(col c l 0 0).toNat, by omega⟩
  have hqn : q < wds c := by omega
  have hsg : Sz (rws c) (wds c) (gridS 1 (cells c l [(0, a)]) (cells c l [(0, b)])) := by
    refine ⟨by unfold gridS; rw [List.length_zipWith, hs1.1, hs2.1]; omega, fun r hr => ?_⟩
    obtain ⟨x, g1, y, g2, rfl⟩ := mem_zip hr
    unfold rowS
    rw [List.length_zipWith, hs1.2 x g1, hs2.2 y g2]
    omega
  have e1 := cel_sum hs1 hs2 (r := 0) (q := q) (by omega) hqn
  have e2 := cel_flat hsg (r := 0) (q := q) (by omega) hqn
  have e3 := cel_flat hs1 (r := 0) (q := q) (by omega) hqn
  rw [he] at e2
  have e4 := one_least (c := c) (l := l) (d := b) hk (by omega) b1 hq
  omega
end Go.Proofs.Ytnhknachabephaa.Sk
/- What an array of numbers does, in numbers. For stage 12. -/
namespace Go.Proofs.Ytnhknachabephaa.Exa
open Go Go.RowKit Lw Grd Lin Con Shp Sk
set_option linter.unusedVariables false
set_option linter.unusedSimpArgs false
/-- The number of a key; 0 where there is none. -/
def num (L : List Int) (k : Int) : Int := (L[k.toNat]?).getD 0
def exCode (md : Int) (L : List Int) (k d : Int) : Int := if (L.length : Int) ≤ k then 2 else if md = 2 ∧ d < 0 then 3 else if Wid.fit64 (num L k + d) = true then 0 else 4
def exRes (md : Int) (L : List Int) (k d : Int) : List Int := if exCode md L k d = 0 then L.set k.toNat (num L k + d) else L
theorem ex_key {md : Int} {L : List Int} {k d : Int} (h : (L.length : Int) ≤ k) : exCode md L k d = 2 ∧ exRes md L k d = L := by
  have e : exCode md L k d = 2 := if_pos h
  exact ⟨e, by unfold exRes; rw [e]; rfl⟩
theorem ex_mode {md : Int} {L : List Int} {k d : Int} (h : k < (L.length : Int)) (hm : md = 2 ∧ d < 0) : exCode md L k d = 3 ∧ exRes md L k d = L := by
  have e : exCode md L k d = 3 := by unfold exCode; rw [if_neg (by omega), if_pos hm]
  exact ⟨e, by unfold exRes; rw [e]; rfl⟩
theorem ex_yes {md : Int} {L : List Int} {k d : Int} (h : k < (L.length : Int)) (hm : ¬ (md = 2 ∧ d < 0)) (hf : Wid.fit64 (num L k + d) = true) : exCode md L k d = 0 ∧ exRes md L k d = L.set k.toNat (num L k + d) := by
  have e : exCode md L k d = 0 := by unfold exCode; rw [if_neg (by omega), if_neg hm, if_pos hf]
  exact ⟨e, by unfold exRes; rw [if_pos e]⟩
theorem ex_over {md : Int} {L : List Int} {k d : Int} (h : k < (L.length : Int)) (hm : ¬ (md = 2 ∧ d < 0)) (hf : Wid.fit64 (num L k + d) = false) : exCode md L k d = 4 ∧ exRes md L k d = L := by
  have e : exCode md L k d = 4 := by unfold exCode; rw [if_neg (by omega), if_neg hm, if_neg (by rw [hf]; decide)]
  exact ⟨e, by unfold exRes; rw [e]; rfl⟩
theorem ex_len (md : Int) (L : List Int) (k d : Int) : (exRes md L k d).length = L.length := by
  unfold exRes
  split
  · exact List.length_set
  · rfl
theorem in64_fit {z : Int} (h : Wid.fit64 z = true) : -9223372036854775808 ≤ z ∧ z ≤ 9223372036854775807 := by
  have h1 : -9223372036854775808 ≤ z ∧ z < 9223372036854775808 := of_decide_eq_true h
  omega
theorem ex_in64 {md : Int} {L : List Int} {k d : Int} (h : In64 L) : In64 (exRes md L k d) := by
  unfold exRes
  split
  · rename_i h0
    have hf : Wid.fit64 (num L k + d) = true := by
      unfold exCode at h0
      split at h0
      · cases h0
      · split at h0
        · cases h0
        · split at h0
          · assumption
          · cases h0
    have := in64_fit hf
    exact in64_set h k.toNat this.1 this.2
  · exact h
theorem ex_zero {md : Int} {L : List Int} {k d : Int} (h : exCode md L k d = 0) : k < (L.length : Int) ∧ Wid.fit64 (num L k + d) = true := by
  unfold exCode at h
  split at h
  · cases h
  · split at h
    · cases h
    · split at h
      · rename_i h1 _ h2
        exact ⟨by omega, h2⟩
      · cases h
/-! ### What each key has -/
def sums (K : Nat) (us : Ups) : List Int := (List.range K).map (fun k : Nat => hasK (k : Int) us)
theorem sums_len (K : Nat) (us : Ups) : (sums K us).length = K := by unfold sums; simp
theorem sums_get {K : Nat} {us : Ups} {k : Nat} (h : k < K) : (sums K us)[k]? = some (hasK (k : Int) us) := by
  unfold sums
  rw [List.getElem?_map, List.getElem?_range h]
  rfl
theorem sums_nil (K : Nat) : sums K [] = List.replicate K 0 := by
  apply List.ext_getElem?
  intro j
  by_cases h : j < K
  · rw [sums_get h, List.getElem?_replicate, if_pos h]
    rfl
  · rw [List.getElem?_eq_none (by rw [sums_len]; omega), List.getElem?_eq_none (by simp; omega)]
theorem has_one (k : Int) (u : Int × Int) : hasK k [u] = if u.1 = k then u.2 else 0 := by
  unfold hasK hasK
  omega
theorem sums_snoc {K : Nat} {us : Ups} {u : Int × Int} (h0 : 0 ≤ u.1) (h1 : u.1 < K) : sums K (us ++ [u]) = (sums K us).set u.1.toNat (num (sums K us) u.1 + u.2) := by
  apply List.ext_getElem?
  intro j
  rw [List.getElem?_set]
  by_cases h : j < K
  · rw [sums_get h, hasK_app, has_one]
    by_cases hj : u.1.toNat = j
    · have e : u.1 = (j : Int) := by omega
      rw [if_pos hj, if_pos (show u.1.toNat < (sums K us).length by rw [sums_len]; omega), if_pos e]
      unfold num
      rw [hj, sums_get h]
      rfl
    · rw [if_neg hj, if_neg (show ¬ u.1 = (j : Int) by omega), sums_get h, Int.add_zero]
  · rw [List.getElem?_eq_none (by rw [sums_len]; omega)]
    have h2 : ¬ u.1.toNat = j := by omega
    rw [if_neg h2, List.getElem?_eq_none (by rw [sums_len]; omega)]
theorem has_rev (k : Int) : ∀ us : Ups, hasK k us.reverse = hasK k us
  | [] => rfl
  | u :: us => by
    rw [List.reverse_cons, hasK_app, has_rev k us, has_one]
    simp only [hasK]
    omega
theorem sums_rev (K : Nat) (us : Ups) : sums K us.reverse = sums K us := by
  unfold sums
  exact List.map_congr_left fun k _ => has_rev _ us
/-- An update of small numbers is never refused. -/
theorem sums_step {md : Int} {K : Nat} {us : Ups} {u : Int × Int} (h0 : 0 ≤ u.1) (h1 : u.1 < K) (hl : us.length ≤ 60) (hb : ∀ v ∈ us ++ [u], -1099511627776 ≤ v.2 ∧ v.2 ≤ 1099511627776) (hm : md = 2 → 0 ≤ u.2) : exCode md (sums K us) u.1 u.2 = 0 ∧ exRes md (sums K us) u.1 u.2 = sums K (us ++ [u]) := by
  have hn : num (sums K us) u.1 = hasK u.1 us := by
    unfold num
    rw [sums_get (show u.1.toNat < K by omega)]
    show hasK ((u.1.toNat : Nat) : Int) us = _
    rw [Int.toNat_of_nonneg h0]
  have h2 := hasK_bd (k := u.1) (b := 1099511627776) (by omega) (us := us) (fun v hv => hb v (by simp [hv]))
  have h3 := hb u (by simp)
  have hf : Wid.fit64 (num (sums K us) u.1 + u.2) = true := by
    rw [hn]
    exact (Wid.fit64_yes (by omega) (by omega)).1
  have hy := ex_yes (md := md) (k := u.1) (d := u.2) (L := sums K us) (by rw [sums_len]; exact h1) (fun h => by have := hm h.1; omega) hf
  exact ⟨hy.1, by rw [hy.2, sums_snoc h0 h1]⟩
/-! ### A grid of one row -/
theorem set_one (L : List Int) {k : Int} (h0 : 0 ≤ k) (h1 : k < (L.length : Int)) (x : Int) : setL [L] 0 k x = [L.set k.toNat x] := by
  have hin : in2 [L] 0 k = true := by
    unfold in2
    simp
    omega
  unfold setL
  rw [if_pos hin]
  rfl
theorem at_one (L : List Int) {k : Int} (h0 : 0 ≤ k) : at2 [L] 0 k = num L k := by
  unfold at2 num
  rw [if_neg (by omega)]
  rfl
/-- Two arrays put together, with a sign. -/
def exJ (s : Int) (L M : List Int) : Int := if (rowS s L M).all Wid.fit64 = true then 0 else 4
def exM (s : Int) (L M : List Int) : List Int := if (rowS s L M).all Wid.fit64 = true then rowS s L M else L
theorem join_one (s : Int) (n : Nat) (L M : List Int) : jcode s 1 n 1 n [L] [M] = exJ s L M ∧ jres s 1 n 1 n [L] [M] = [exM s L M] := by
  have e : fitsAll (gridS s [L] [M]) = (rowS s L M).all Wid.fit64 := by
    unfold fitsAll gridS
    simp
  unfold jcode jres exJ exM
  rw [e]
  by_cases h : (rowS s L M).all Wid.fit64 = true
  · rw [if_pos ⟨rfl, rfl⟩, if_pos h, if_pos ⟨rfl, rfl, h⟩, if_pos h]
    exact ⟨rfl, rfl⟩
  · rw [if_pos ⟨rfl, rfl⟩, if_neg h, if_neg (fun g => h g.2.2), if_neg h]
    exact ⟨rfl, rfl⟩
theorem exM_len {s : Int} {L M : List Int} (h : M.length = L.length) : (exM s L M).length = L.length := by
  unfold exM
  split
  · unfold rowS
    rw [List.length_zipWith, h]
    omega
  · rfl
theorem rowS_next {s : Int} {L M : List Int} {k : Nat} {x y : Int} (hx : L[k]? = some x) (hy : M[k]? = some y) : rowS s (L.take (k + 1)) (M.take (k + 1)) = rowS s (L.take k) (M.take k) ++ [x + s * y] := by
  obtain ⟨h1, e1⟩ := List.getElem?_eq_some_iff.1 hx
  obtain ⟨h2, e2⟩ := List.getElem?_eq_some_iff.1 hy
  unfold rowS
  rw [List.take_succ_eq_append_getElem h1, List.take_succ_eq_append_getElem h2, List.zipWith_append (by simp; omega), e1, e2]
  rfl
theorem exJ_no {s : Int} {L M : List Int} {k : Nat} {x y : Int} (hx : L[k]? = some x) (hy : M[k]? = some y) (h : Wid.fit64 (x + s * y) = false) : exJ s L M = 4 ∧ exM s L M = L := by
  have hm : x + s * y ∈ rowS s L M := List.mem_of_getElem? (i := k) (by unfold rowS; rw [List.getElem?_zipWith, hx, hy])
  have hn : ¬ (rowS s L M).all Wid.fit64 = true := fun g => by
    rw [List.all_eq_true] at g
    rw [g _ hm] at h
    cases h
  exact ⟨if_neg hn, if_neg hn⟩
theorem exJ_yes {s : Int} {L M : List Int} (h : ∀ (k : Nat) x y, L[k]? = some x → M[k]? = some y → Wid.fit64 (x + s * y) = true) : exJ s L M = 0 ∧ exM s L M = rowS s L M := by
  have hn : (rowS s L M).all Wid.fit64 = true := by
    rw [List.all_eq_true]
    intro z hz
    obtain ⟨k, hk⟩ := List.getElem?_of_mem hz
    unfold rowS at hk
    rw [List.getElem?_zipWith] at hk
    split at hk
    · rename_i x y h1 h2
      injection hk with hk
      rw [← hk]
      exact h k x y h1 h2
    · cases hk
  exact ⟨if_pos hn, if_pos hn⟩
end Go.Proofs.Ytnhknachabephaa.Exa
