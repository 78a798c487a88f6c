/- Texts that the statements of this seat lean on, put together: SkMath, SkOth, SkFed, SkShown, SkPtA, SkOne, SkTrial, SkCopy, InnDef, InnDot. -/
import Derived.Test.YtkannodfamnmcaaGreatMa
import Derived.Test.YtkannodfamnmcaaGreatMb
import Derived.Test.YtkannodfamnmcaaGreatMc
import Derived.Test.YtkannodfamnmcaaGreatMf
import Derived.Test.YtkannodfamnmcaaGreatMg
import Derived.Test.YtkannodfamnmcaaGreatMh
import Derived.Deep.LoopGhost
import Derived.Deep.RegionHeld3
import Derived.Deep.DeepCutAuto
import Derived.Deep.QuietTactic
import Derived.BigQuiet
import Derived.Laws.EntriesVeiled
/- What sketches tell, in numbers: Point, the middle one, two that are merged. For stages from 10 on. -/
namespace Go.Proofs.YtkannodfamnmcaaGreat.Sk
open Go Go.RowKit Lw Grd Lin Con Shp
set_option linter.unusedVariables false
theorem pt_ok {c : Cfg} {l k : Int} (hk : k < keys c l) : ptCode c l k = 0 := if_neg (by omega)
theorem pt_least {c : Cfg} {l k : Int} {L : List (List Int)} (hk : k < keys c l) (hm : c.md ≠ 3) : ptVal c l L k = lea L (cols c l k) := by
  unfold ptVal
  rw [if_neg (by omega), if_neg hm]
theorem pt_middle {c : Cfg} {l k : Int} {L : List (List Int)} (hk : k < keys c l) (hm : c.md = 3) : ptVal c l L k = Ord.kv (named L (cols c l k)) ((((named L (cols c l k)).length : Int) - 1) / 2) := by
  unfold ptVal
  rw [if_neg (by omega), if_pos hm]
theorem cells_lin {c : Cfg} {l : Int} {us : Ups} (hm : c.md ≠ 2) : cells c l us = chAll (zerosL (rws c) (wds c)) (opsU c l us) := if_neg hm
theorem cells_con {c : Cfg} {l : Int} {us : Ups} (hm : c.md = 2) : cells c l us = rsAll (zerosL (rws c) (wds c)) (opsU c l us) := if_pos hm
/-- What others have in a key's column, row by row. -/
def othR (c : Cfg) (l k : Int) (us : Ups) : List Int := (List.range (rws c)).map (fun r => othK c l k r us)
theorem othR_get {c : Cfg} {l k : Int} {us : Ups} {r : Nat} (hr : r < rws c) : (othR c l k us)[r]? = some (othK c l k r us) := by
  unfold othR
  rw [List.getElem?_map, List.getElem?_range hr]
  rfl
theorem othR_len (c : Cfg) (l k : Int) (us : Ups) : (othR c l k us).length = rws c := by simp [othR]
theorem named_oth {c : Cfg} {l k b : Int} {us : Ups} (h : UpsOk c l b us) (k0 : 0 ≤ k) (hk : k < keys c l) :
    named (chAll (zerosL (rws c) (wds c)) (opsU c l us)) (cols c l k) = (othR c l k us).map (fun v => v + hasK k us) := by
  have hsz := chAll_sz (sz_zeros (rws c) (wds c)) (opsU_ok h)
  have hlen := named_klen hsz.1 k0 hk
  apply List.ext_getElem?
  intro r
  rw [List.getElem?_map]
  by_cases hr : r < rws c
  · rw [named_key h k0 hk hr, othR_get hr]
    simp
    omega
  · rw [List.getElem?_eq_none (by rw [hlen]; omega), List.getElem?_eq_none (by rw [othR_len]; omega)]
    rfl
/-- If more than half of the rows are not farther than so much from 0, Point is not from what the key has. -/
theorem median_near {c : Cfg} {l k b far : Int} {us : Ups} (hr : IsRight c) (h : UpsOk c l b us) (k0 : 0 ≤ k) (hk : k < keys c l) (hm : c.md = 3) (hn : (rws c : Int) < 2 * (Ord.near (othR c l k us) (-far) far : Int)) :
    hasK k us - far ≤ ptVal c l (cells c l us) k ∧ ptVal c l (cells c l us) k ≤ hasK k us + far := by
  rw [pt_middle hk hm, cells_lin (by omega), named_oth h k0 hk]
  have hl : 0 < (othR c l k us).length := by rw [othR_len]; exact (rws_bd hr).1
  have h1 := (Ord.moves (othR c l k us) (hasK k us) hl).1
  rw [h1]
  have h2 := Ord.near_median2 (othR c l k us) (-far) far (by rw [othR_len]; exact hn)
  omega
/-- Merged, two sketches of the modes Linear and Median are one that was fed all. -/
theorem merge_lin {c : Cfg} {l : Int} {us vs : Ups} (hr : IsRight c) (hm : c.md ≠ 2) (hu : UpsOk c l 1099511627776 us) (hv : UpsOk c l 1099511627776 vs) (hlu : us.length ≤ 60) (hlv : vs.length ≤ 60) :
    mgCode 1 c c l l (cells c l us) (cells c l vs) = 0 ∧ mgRes 1 c c l l (cells c l us) (cells c l vs) = cells c l (us ++ vs) := by
  have h1 := opsU_ok hu
  have h2 := opsU_ok hv
  have w1 := within_mono (chAll_within (c := 1099511627776) (by omega) (b := 0) (Int.le_refl _) (within_zeros (rws c) (wds c)) h1) (c := 65970697666560) (by rw [opsU_len]; omega)
  have w2 := within_mono (chAll_within (c := 1099511627776) (by omega) (b := 0) (Int.le_refl _) (within_zeros (rws c) (wds c)) h2) (c := 65970697666560) (by rw [opsU_len]; omega)
  have hj := jcode_yes (s := 1) (m := rws c) (n := wds c) (join_fits (m := rws c) (n := wds c) w1 w2)
  have hs1 := chAll_sz (sz_zeros (rws c) (wds c)) h1
  have hs2 := chAll_sz (sz_zeros (rws c) (wds c)) h2
  have h3 : OpsOk (rws c) (wds c) 1099511627776 (opsU c l (us ++ vs)) := opsU_ok (fun u hq => (List.mem_append.1 hq).elim (hu u) (hv u))
  have hs3 := chAll_sz (sz_zeros (rws c) (wds c)) h3
  have hce : cfgE c c = true := decide_eq_true ⟨rfl, rfl, rfl, rfl, rfl⟩
  have e : gridS 1 (chAll (zerosL (rws c) (wds c)) (opsU c l us)) (chAll (zerosL (rws c) (wds c)) (opsU c l vs)) = chAll (zerosL (rws c) (wds c)) (opsU c l (us ++ vs)) := by
    have key : Sz (rws c) (wds c) (gridS 1 (chAll (zerosL (rws c) (wds c)) (opsU c l us)) (chAll (zerosL (rws c) (wds c)) (opsU c l vs))) := by
      refine ⟨by unfold gridS; rw [List.length_zipWith, hs1.1, hs2.1]; omega, fun r hr => ?_⟩
      obtain ⟨a, g1, b, g2, rfl⟩ := mem_zip hr
      unfold rowS
      rw [List.length_zipWith, hs1.2 a g1, hs2.2 b g2]
      omega
    refine sz_ext key hs3 fun r q hrm hqn => ?_
    rw [chAll_cel hrm hqn (sz_zeros _ _) h3, opsU_app, hit_app, cel_zeros]
    have c1 := chAll_cel hrm hqn (sz_zeros (rws c) (wds c)) h1
    have c2 := chAll_cel hrm hqn (sz_zeros (rws c) (wds c)) h2
    rw [cel_zeros] at c1 c2
    have g1 : r < (chAll (zerosL (rws c) (wds c)) (opsU c l us)).length := by rw [hs1.1]; exact hrm
    have g2 : r < (chAll (zerosL (rws c) (wds c)) (opsU c l vs)).length := by rw [hs2.1]; exact hrm
    have g3 := hs1.2 _ (List.getElem_mem g1)
    have g4 := hs2.2 _ (List.getElem_mem g2)
    have c3 : cel (gridS 1 (chAll (zerosL (rws c) (wds c)) (opsU c l us)) (chAll (zerosL (rws c) (wds c)) (opsU c l vs))) r q = cel (chAll (zerosL (rws c) (wds c)) (opsU c l us)) r q + cel (chAll (zerosL (rws c) (wds c)) (opsU c l vs)) r q := by
      unfold cel gridS
      rw [List.getElem?_zipWith, List.getElem?_eq_getElem g1, List.getElem?_eq_getElem g2]
      simp only [Option.getD_some]
      unfold rowS
      rw [List.getElem?_zipWith, List.getElem?_eq_getElem (by omega), List.getElem?_eq_getElem (by omega)]
      simp
    rw [c3, c1, c2]
    omega
  unfold mgCode mgRes
  have hs1x : ¬ ((1 : Int) = -1 ∧ c.md = 2) := by omega
  rw [if_pos (show cfgE c c = true ∧ l = l from ⟨hce, rfl⟩), if_pos (show cfgE c c = true ∧ l = l from ⟨hce, rfl⟩), if_neg hs1x, if_neg hs1x]
  simp only [cells_lin hm]
  rw [← e]
  exact hj
/-- In the mode Conservative, parted and merged: Point is between what the key has and what it would be told in the mode Linear. -/
theorem merge_con {c d : Cfg} {l k : Int} {us vs : Ups} (hr : IsRight c) (hm : c.md = 2) (hd : d.md = 1) (hrd : rws d = rws c) (hwd : wds d = wds c) (hcols : ∀ q, cols d l q = cols c l q) (hkd : keys d l = keys c l)
    (hu : UpsIn c l us) (hv : UpsIn c l vs) (hlu : us.length ≤ 60) (hlv : vs.length ≤ 60) (k0 : 0 ≤ k) (hk : k < keys c l) :
    mgCode 1 c c l l (cells c l us) (cells c l vs) = 0 ∧ hasK k (us ++ vs) ≤ ptVal c l (mgRes 1 c c l l (cells c l us) (cells c l vs)) k ∧ ptVal c l (mgRes 1 c c l l (cells c l us) (cells c l vs)) k ≤ ptVal d l (cells d l (us ++ vs)) k := by
  have h1 := opsU_ok hu.1
  have h2 := opsU_ok hv.1
  have r1 := rose_all (rose_zero (rws c) (wds c)) h1 (plus_of hu hm)
  have r2 := rose_all (rose_zero (rws c) (wds c)) h2 (plus_of hv hm)
  have d1 := rose_dims h1 (plus_of hu hm) (by rw [opsU_len]; exact hlu)
  have d2 := rose_dims h2 (plus_of hv hm) (by rw [opsU_len]; exact hlv)
  have hj := jcode_yes (s := 1) (m := rws c) (n := wds c) (join_fits (m := rws c) (n := wds c) d1.2 d2.2)
  have hce : cfgE c c = true := decide_eq_true ⟨rfl, rfl, rfl, rfl, rfl⟩
  have hrj := r1.join r2
  rw [List.nil_append, List.nil_append, ← opsU_app] at hrj
  have hlo := hrj.lea_own (cols_meet k0 hk)
  have hall : UpsOk c l 1099511627776 (us ++ vs) := fun u hq => (List.mem_append.1 hq).elim (hu.1 u) (hv.1 u)
  have hpl : ∀ u ∈ us ++ vs, 0 ≤ u.2 := fun u hq => (List.mem_append.1 hq).elim (hu.2 hm u) (hv.2 hm u)
  have hown := hasK_own (k := k) hall hpl
  have hops : opsU d l (us ++ vs) = opsU c l (us ++ vs) := by unfold opsU; simp only [hcols]
  have hmg : mgCode 1 c c l l (cells c l us) (cells c l vs) = 0 ∧ mgRes 1 c c l l (cells c l us) (cells c l vs) = gridS 1 (cells c l us) (cells c l vs) := by
    unfold mgCode mgRes
    have hs1x : ¬ ((1 : Int) = -1 ∧ c.md = 2) := by omega
    rw [if_pos (show cfgE c c = true ∧ l = l from ⟨hce, rfl⟩), if_pos (show cfgE c c = true ∧ l = l from ⟨hce, rfl⟩), if_neg hs1x, if_neg hs1x]
    simp only [cells_con hm]
    exact hj
  refine ⟨hmg.1, ?_, ?_⟩
  · rw [hmg.2, pt_least hk (by omega), cells_con hm, cells_con hm]
    omega
  · rw [hmg.2, pt_least hk (by omega), pt_least (by rw [hkd]; exact hk) (by omega), cells_con hm, cells_con hm, cells_lin (by omega), hrd, hwd, hops, hcols]
    have hlin : gridS 1 (chAll (zerosL (rws c) (wds c)) (opsU c l us)) (chAll (zerosL (rws c) (wds c)) (opsU c l vs)) = chAll (zerosL (rws c) (wds c)) (opsU c l (us ++ vs)) := by
      have hx : ({ c with md := 1 } : Cfg).md ≠ 2 := by simp
      have hrx : IsRight { c with md := 1 } := ⟨hr.1, hr.2.1, hr.2.2.1, hr.2.2.2.1, hr.2.2.2.2.1, hr.2.2.2.2.2.1, by simp, by simp⟩
      have hkx : keys { c with md := 1 } l = keys c l := by
        unfold keys
        by_cases hl : 0 ≤ l ∧ l ≤ c.bt
        · rw [if_pos ⟨hrx, hl⟩, if_pos ⟨hr, hl⟩]
        · rw [if_neg (fun g => hl g.2), if_neg (fun g => hl g.2)]
      have hox : ∀ ws : Ups, opsU { c with md := 1 } l ws = opsU c l ws := fun ws => by
        unfold opsU cols
        rw [hkx]
        rfl
      have hux : UpsOk { c with md := 1 } l 1099511627776 us := fun u hq => by have := hu.1 u hq; rw [hkx]; exact this
      have hvx : UpsOk { c with md := 1 } l 1099511627776 vs := fun u hq => by have := hv.1 u hq; rw [hkx]; exact this
      have hmx := merge_lin hrx hx hux hvx hlu hlv
      rw [cells_lin hx, cells_lin hx, cells_lin hx, hox, hox, hox] at hmx
      have hw1 := join_fits (m := rws c) (n := wds c) d1.1 d2.1
      have e2 : mgRes 1 { c with md := 1 } { c with md := 1 } l l (chAll (zerosL (rws c) (wds c)) (opsU c l us)) (chAll (zerosL (rws c) (wds c)) (opsU c l vs)) = gridS 1 (chAll (zerosL (rws c) (wds c)) (opsU c l us)) (chAll (zerosL (rws c) (wds c)) (opsU c l vs)) := by
        unfold mgRes
        have hcx : cfgE { c with md := 1 } { c with md := 1 } = true := decide_eq_true ⟨rfl, rfl, rfl, rfl, rfl⟩
        rw [if_pos (show cfgE { c with md := 1 } { c with md := 1 } = true ∧ l = l from ⟨hcx, rfl⟩), if_neg (show ¬ ((1 : Int) = -1 ∧ ({ c with md := 1 } : Cfg).md = 2) from fun h => by have := h.1; omega)]
        exact (jcode_yes hw1).2
      exact e2.symm.trans hmx.2
    rw [← hlin]
    exact hlo.2.1
end Go.Proofs.YtkannodfamnmcaaGreat.Sk
/- others of layer 10's laws. Printed by wip/gen/skfed.py. -/
namespace Go.Proofs.YtkannodfamnmcaaGreat.Sk
open Go Go.RowKit Lw Grd Lin Con Shp
set_option linter.unusedVariables false
set_option linter.unusedSimpArgs false
theorem scols_any (c : Cfg) (l k : Int) (m : Nat) (w : World) (h : c.Ok) (l0 : -9223372036854775808 ≤ l) (l1 : l ≤ 9223372036854775807) (k0 : 0 ≤ k) (k1 : k ≤ 18446744073709551615) (hk : k < keys c l) (hm : rws c = m) :
    Calls Tryz.prog 168 #[.agg #[.int .i64 c.bt, .int .i64 c.rw, .int .i64 c.wd, .int .i64 c.md, .int .u64 c.sd], .int .i64 l, .int .u64 k] w fun e w' => ∃ (A : Addr) (cap : Nat), e = .returned (.slice (some A) m cap) ∧ Rd .i64 w' (some A) (cols c l k) ∧ Below w.heap.size w w' := by
  subst hm
  have hl : (cols c l k).length = rws c := by rw [cols_len, if_pos hk]; rfl
  refine (columns_any c l k w h l0 l1 k0 k1).mono fun e w' ⟨A, cap, he, hr, _, _, hb⟩ => ?_
  obtain ⟨a, rfl⟩ := hr.some_of (by rw [hl]; exact (rws_bd (keys_right k0 hk).1).1)
  rw [hl] at he
  exact ⟨a, cap, he, hr, hb⟩
end Go.Proofs.YtkannodfamnmcaaGreat.Sk
/- fed of layer 10's laws. Printed by wip/gen/skfed2.py. -/
namespace Go.Proofs.YtkannodfamnmcaaGreat.Sk
open Go Go.RowKit Lw Grd Lin Con Shp
set_option linter.unusedVariables false
set_option linter.unusedSimpArgs false
/-- The updates from the one place to the other, cut. -/
def upsR (c : Cfg) (l : Int) (qs : Ups) (f t : Nat) : Ups := ((qs.take t).drop f).map (cutU c l)
theorem upsR_zero (c : Cfg) (l : Int) (qs : Ups) (f : Nat) : upsR c l qs f f = [] := by
  unfold upsR
  rw [List.drop_of_length_le (by rw [List.length_take]; omega)]
  rfl
theorem upsR_next {c : Cfg} {l : Int} {qs : Ups} {f k : Nat} {q : Int × Int} (hq : qs[k]? = some q) (hf : f ≤ k) : upsR c l qs f (k + 1) = upsR c l qs f k ++ [cutU c l q] := by
  obtain ⟨h1, h2⟩ := List.getElem?_eq_some_iff.1 hq
  unfold upsR
  rw [List.take_succ_eq_append_getElem h1, List.drop_append_of_le_length (by rw [List.length_take]; omega), List.map_append, h2]
  rfl
theorem upsR_len (c : Cfg) (l : Int) (qs : Ups) (f t : Nat) : (upsR c l qs f t).length ≤ t := by
  unfold upsR
  rw [List.length_map, List.length_drop, List.length_take]
  omega
theorem upsR_in {c : Cfg} {l : Int} (hk : 1 ≤ keys c l) (qs : Ups) (f t : Nat) : UpsIn c l (upsR c l qs f t) := upsIn_cut hk _
theorem upsR_end {c : Cfg} {l : Int} {qs : Ups} {f k t : Nat} (hk : k ≤ t) (h : k = t ∨ qs.length ≤ k) : upsR c l qs f k = upsR c l qs f t := by
  unfold upsR
  rcases h with rfl | h
  · rfl
  · rw [List.take_of_length_le h, List.take_of_length_le (by omega)]
theorem skI {w : World} {p : Addr} {F : Nat → Prop} {c : Cfg} {l : Int} {L : List (List Int)} (h : (skT p F c l L).I w) : SK w p F c l L := h
theorem two_boxs (w : World) (e1 e2 : TypeId) (v1 v2 : Array Value) : Have w ((w.alloc (.cells v1 e1)).alloc (.cells v2 e2)) [boxT (w.heap.size + 1) e2 v2, boxT w.heap.size e1 v1] := by
  refine (box_new w e1 v1).push (boxT (w.heap.size + 1) e2 v2) (Lw.below_alloc (Below.refl _ _) _) ?_ (fun k hk => ?_)
  · have h := heap_alloc_new (w.alloc (.cells v1 e1)) (.cells v2 e2)
    rw [World.size_alloc] at h
    exact h
  · rw [World.size_alloc]
    exact Nat.le_of_eq hk.symm
theorem box5 {w : World} {b : Nat} {e : TypeId} {v0 v1 v2 v3 v4 : Value} (h : (boxT b e #[v0, v1, v2, v3, v4]).I w) : w.cell? ⟨b, 0, none⟩ = some v0 ∧ w.cell? ⟨b, 1, none⟩ = some v1 ∧ w.cell? ⟨b, 2, none⟩ = some v2 ∧ w.cell? ⟨b, 3, none⟩ = some v3 ∧ w.cell? ⟨b, 4, none⟩ = some v4 :=
  ⟨box_cell h rfl, box_cell h rfl, box_cell h rfl, box_cell h rfl, box_cell h rfl⟩
theorem box7 {w : World} {b : Nat} {e : TypeId} {v0 v1 v2 v3 v4 v5 v6 : Value} (h : (boxT b e #[v0, v1, v2, v3, v4, v5, v6]).I w) : w.cell? ⟨b, 0, none⟩ = some v0 ∧ w.cell? ⟨b, 1, none⟩ = some v1 ∧ w.cell? ⟨b, 2, none⟩ = some v2 ∧ w.cell? ⟨b, 3, none⟩ = some v3 ∧ w.cell? ⟨b, 4, none⟩ = some v4 ∧ w.cell? ⟨b, 5, none⟩ = some v5 ∧ w.cell? ⟨b, 6, none⟩ = some v6 :=
  ⟨box_cell h rfl, box_cell h rfl, box_cell h rfl, box_cell h rfl, box_cell h rfl, box_cell h rfl, box_cell h rfl⟩
theorem boxs_frozen {w : World} {b : Nat} {e : TypeId} {vs : Array Value} (h : (boxT b e vs).I w) (i : Nat) : w.frozen? ⟨b, i, none⟩ = false := by
  have h1 : w.heap[b]? = some (.cells vs e (0, 0)) := h
  simp [World.frozen?, h1]
theorem boxs_set {w : World} {b : Nat} {e : TypeId} {vs : Array Value} (h : (boxT b e vs).I w) (i : Nat) (v : Value) : (boxT b e (vs.setIfInBounds i v)).I (w.setCell ⟨b, i, none⟩ v) := by
  have h1 : w.heap[b]? = some (.cells vs e (0, 0)) := h
  show (w.setCell ⟨b, i, none⟩ v).heap[b]? = _
  simp [World.setCell, Array.getElem?_modify, h1]
theorem store5 {w : World} {b : Nat} {e : TypeId} {u0 u1 u2 u3 u4 : Value} (h : (boxT b e #[u0, u1, u2, u3, u4]).I w) (v0 v1 v2 v3 v4 : Value) :
    (boxT b e #[v0, v1, v2, v3, v4]).I ((((((w.setCell ⟨b, 0, none⟩ v0).setCell ⟨b, 1, none⟩ v1).setCell ⟨b, 2, none⟩ v2).setCell ⟨b, 3, none⟩ v3).setCell ⟨b, 4, none⟩ v4).drew) := by
  have q := boxs_set (boxs_set (boxs_set (boxs_set (boxs_set h 0 v0) 1 v1) 2 v2) 3 v3) 4 v4
  exact (boxT b e #[v0, v1, v2, v3, v4]).keep _ _ (fun _ => False) q (Kept.of_below (Below.drew (Below.refl _ _))) (fun _ _ h => h)
theorem store_have {w0 w w' : World} {t0 t1 : Thing} {b : Nat} {e : TypeId} {vs : Array Value} {ts : List Thing} (h : Have w0 w (t0 :: t1 :: boxT b e vs :: ts)) (hk : Kept (fun k => k = b) w w') : Have w0 w' [t0] := by
  have hb : Below w0.heap.size w0 w' := hk.low h.below h.below.size (fun q hq => by subst hq; exact h.f2 q rfl)
  have h2 : Have w0 w [t0] := ⟨h.i0, h.f0, fun u hu => by simp at hu, h.below⟩
  exact Have.keep hk hb h2 (fun t ht k h3 h4 => by simp at ht; subst ht; exact h.ap02 k h3 h4)
/-- The config of a Play of layer 10, of a mode. -/
def cfgP (x : Cfg) (md : Int) : Cfg := { anyC x 8 9 with md := md }
theorem cfgP_right (x : Cfg) (md : Int) (h0 : 1 ≤ md) (h1 : md ≤ 3) : IsRight (cfgP x md) ∧ (cfgP x md).bt ≤ 8 := by
  have h := any_right x 8 9 (by omega) (by omega) (by omega) (by omega)
  refine ⟨⟨h.1, h.2.1, h.2.2.1, h.2.2.2.1, h.2.2.2.2.1, h.2.2.2.2.2.1, h0, h1⟩, ?_⟩
  show 1 + x.bt % 65536 % 8 ≤ 8
  omega
theorem cfgP_ok (x : Cfg) (hx : x.Ok) (md : Int) (h0 : 1 ≤ md) (h1 : md ≤ 3) : (cfgP x md).Ok := by
  have h := any_ok x hx 8 9 (by omega) (by omega) (by omega) (by omega)
  exact ⟨h.b0, h.b1, h.r0, h.r1, h.w0, h.w1, by show -9223372036854775808 ≤ md; omega, by show md ≤ 9223372036854775807; omega, h.s0, h.s1⟩
end Go.Proofs.YtkannodfamnmcaaGreat.Sk
/- shown of layer 10's laws. Printed by wip/gen/skshown.py. -/
namespace Go.Proofs.YtkannodfamnmcaaGreat.Sk
open Go Go.RowKit Lw Grd Lin Con Shp
set_option linter.unusedVariables false
set_option linter.unusedSimpArgs false
def sA : Cfg := ⟨3, 2, 1, 1, 0⟩
theorem sA_ok : sA.Ok := by constructor <;> decide
theorem sA_r : IsRight sA := by decide
theorem sA_rw : rws sA = 2 := rfl
theorem sA_wd : wds sA = 1 := rfl
theorem sA_k0 : keys sA 0 = 8 := by decide
theorem sA_k4 : keys sA 4 = 0 := by decide
theorem sA_cols {k : Int} (h1 : k < 8) : cols sA 0 k = [0, 0] := by
  have h : ∀ r, col sA 0 k r = 0 := fun r => by
    have h2 := col_range sA_r 0 k r
    have e : sA.wd = 1 := rfl
    omega
  rw [cols_yes (by rw [sA_k0]; exact h1)]
  show (List.range 2).map (col sA 0 k) = [0, 0]
  simp [List.range, List.range.loop, h]
def sB : List (List Int) := [[5], [5]]
def sD : List (List Int) := [[7], [7]]
theorem u1 : upCode sA 0 (zerosL 2 1) 0 5 = 0 ∧ upRes sA 0 (zerosL 2 1) 0 5 = sB := by
  unfold upCode upRes
  rw [sA_cols (by omega), sA_k0, if_neg (by omega), if_neg (by decide), if_neg (by omega), if_neg (by decide)]
  decide
theorem u2 : upCode sA 0 sB 1 2 = 0 ∧ upRes sA 0 sB 1 2 = sD := by
  unfold upCode upRes
  rw [sA_cols (by omega), sA_k0, if_neg (by omega), if_neg (by decide), if_neg (by omega), if_neg (by decide)]
  decide
theorem u3 : upCode sA 0 sD 8 2 = 2 ∧ upRes sA 0 sD 8 2 = sD := by
  unfold upCode upRes
  rw [sA_k0, if_pos (by omega), if_pos (by omega)]
  exact ⟨rfl, rfl⟩
theorem p1 : ptVal sA 0 sD 0 = 7 ∧ ptCode sA 0 0 = 0 := by
  unfold ptVal ptCode
  rw [sA_cols (by omega), sA_k0, if_neg (by omega), if_neg (by decide), if_neg (by omega)]
  refine ⟨?_, rfl⟩
  unfold lea
  rw [(Ord.kv_yes (k := 0) (by omega) (by decide)).1]
  exact (Ord.least_eq _ 7 (by decide) (by decide)).symm
theorem n_yes (w : World) : Calls Tryz.prog 31 #[.agg #[.int .i64 3, .int .i64 2, .int .i64 1, .int .i64 1, .int .u64 0], .int .i64 0] w fun e w' => ∃ (p : Addr) (F : Nat → Prop), e = .returned (.tuple #[.pointer (some p), .int .i64 0]) ∧ SK w' p F sA 0 (zerosL 2 1) ∧ (∀ k, F k → w.heap.size ≤ k) ∧ Below w.heap.size w w' := snew_yes sA 0 w sA_ok (by omega) (by omega) (by rw [sA_k0]; omega)
theorem n_no (w : World) : Calls Tryz.prog 31 #[.agg #[.int .i64 3, .int .i64 2, .int .i64 1, .int .i64 1, .int .u64 0], .int .i64 4] w fun e w' => e = .returned (.tuple #[.pointer none, .int .i64 1]) ∧ Below w.heap.size w w' := snew_no sA 4 w sA_ok (by omega) (by omega) sA_k4
theorem c_any (p : Addr) (F : Nat → Prop) (w : World) (h : SK w p F sA 0 sD) : Calls Tryz.prog 80 #[.pointer (some p)] w fun e w' => e = .returned (.agg #[.int .i64 3, .int .i64 2, .int .i64 1, .int .i64 1, .int .u64 0]) ∧ Below w.heap.size w w' := sconfig_any p F sA 0 sD w h
theorem l_any (p : Addr) (F : Nat → Prop) (w : World) (h : SK w p F sA 0 sD) : Calls Tryz.prog 81 #[.pointer (some p)] w fun e w' => ∃ (g : Nat) (cap : Nat), e = .returned (.slice (some ⟨g, 0, none⟩) 2 cap) ∧ w'.cell? ⟨g, 1, none⟩ = some (.int .i64 7) ∧ (2 : Int) ≤ cap ∧ Below w.heap.size w w' :=
  (scells_mid p F sA 0 sD w h).mono fun e w' ⟨g, cap, e1, h1, _, h2, _, h5⟩ => ⟨g, cap, e1, (h1.cell (j := 1) (v := 7) rfl), by have : 2 ≤ cap := h2; omega, h5⟩
theorem up_any (p : Addr) (F : Nat → Prop) (L M : List (List Int)) (k d x : Int) (w : World) (h : SK w p F sA 0 L) (k0 : 0 ≤ k) (k1 : k ≤ 18446744073709551615) (d0 : -9223372036854775808 ≤ d) (d1 : d ≤ 9223372036854775807) (hu : upCode sA 0 L k d = x ∧ upRes sA 0 L k d = M) :
    Calls Tryz.prog 166 #[.pointer (some p), .int .u64 k, .int .i64 d] w fun e w' => e = .returned (.int .i64 x) ∧ ∃ F', SK w' p F' sA 0 M ∧ Kept F w w' ∧ (∀ q, F' q → F q ∨ w.heap.size ≤ q) := by
  have C := supd_any p F sA 0 L k d w h k0 k1 d0 d1
  rw [hu.1, hu.2] at C
  exact C
theorem pt_any (p : Addr) (F : Nat → Prop) (w : World) (h : SK w p F sA 0 sD) : Calls Tryz.prog 165 #[.pointer (some p), .int .u64 0] w fun e w' => e = .returned (.tuple #[.int .i64 7, .int .i64 0]) ∧ Below w.heap.size w w' := by
  have C := spoint_any p F sA 0 sD 0 w h (by omega) (by omega)
  rw [p1.1, p1.2] at C
  exact C
end Go.Proofs.YtkannodfamnmcaaGreat.Sk
/- What SketchPoint and SketchMedian lean on. Printed by wip/gen/skpoint.py. -/
namespace Go.Proofs.YtkannodfamnmcaaGreat.Sk
open Go Go.RowKit Lw Grd Lin Con Shp
set_option linter.unusedVariables false
set_option linter.unusedSimpArgs false
theorem upsA_R (c : Cfg) (l : Int) (qs : Ups) : upsA c l qs = upsR c l qs 0 60 := by unfold upsA upsR; rw [List.drop_zero]
end Go.Proofs.YtkannodfamnmcaaGreat.Sk
/- One update of a fresh sketch; what it is merged into changes; rows of numbers as things. Printed by wip/gen/skunl.py. -/
namespace Go.Proofs.YtkannodfamnmcaaGreat.Sk
open Go Go.RowKit Lw Grd Lin Con Shp
set_option linter.unusedVariables false
set_option linter.unusedSimpArgs false
/-- A row of numbers in a block of its own. -/
def midT (g : Nat) (zs : List Int) : Thing where
  I := fun w => Ord.Mid w g 0 zs
  F := fun k => k = g
  keep := fun w w' H h hk hf => h.keep hk (hf g rfl)
  lt := fun w h k hk => by subst hk; exact h.lt
theorem midI {w : World} {g : Nat} {zs : List Int} (h : (midT g zs).I w) : Ord.Mid w g 0 zs := h
theorem one_in {c : Cfg} {l d : Int} (hk : 1 ≤ keys c l) (d0 : 0 ≤ d) (d1 : d ≤ 1099511627776) : UpsIn c l [(0, d)] := by
  refine ⟨fun u hu => ?_, fun _ u hu => ?_⟩
  · simp at hu
    subst hu
    exact ⟨by omega, by show (0 : Int) < keys c l; omega, by show -1099511627776 ≤ d; omega, d1⟩
  · simp at hu
    subst hu
    exact d0
theorem one_up {c : Cfg} {l d : Int} (hr : IsRight c) (hk : 1 ≤ keys c l) (d0 : 0 ≤ d) (d1 : d ≤ 1099511627776) : upCode c l (zerosL (rws c) (wds c)) 0 d = 0 ∧ upRes c l (zerosL (rws c) (wds c)) 0 d = cells c l [(0, d)] := by
  have hn : UpsIn c l [] := ⟨fun u hu => by simp at hu, fun _ u hu => by simp at hu⟩
  have h := up_ok hr hn (by simp) (one_in hk d0 d1)
  rw [cells_nil] at h
  exact h
theorem one_least {c : Cfg} {l d : Int} (hk : 1 ≤ keys c l) (d0 : 0 ≤ d) (d1 : d ≤ 1099511627776) {q : Nat} (hq : col c l 0 0 = q) : d ≤ cel (cells c l [(0, d)]) 0 q := by
  have hin := one_in hk d0 d1
  have hr := (keys_pos.1 hk).1
  have h0 := (rws_bd hr).1
  have hkk : (0 : Int) < keys c l := by omega
  have hok := opsU_ok hin.1
  have hm := cols_meet (c := c) (l := l) (k := 0) (Int.le_refl _) hkk
  by_cases h2 : c.md = 2
  · have hro := rose_all (rose_zero (rws c) (wds c)) hok (plus_of hin h2)
    rw [List.nil_append] at hro
    have hown : Lin.own (cols c l 0) (opsU c l [(0, d)]) = d := by simp [opsU, Lin.own]
    have hcr := col_range hr l 0 0
    have hwd := wds_bd hr
    have ho := hro.ow (cols c l 0) hm 0 q (by omega) (by omega) (by rw [cols_at hkk (by omega), hq])
    rw [cells_con h2]
    omega
  · rw [cells_lin h2]
    have hsz := chAll_sz (sz_zeros (rws c) (wds c)) hok
    have hn := named_cel hsz hm (r := 0) (v := q) (by omega) (by rw [cols_at hkk (by omega), hq])
    have hk2 := named_key hin.1 (Int.le_refl _) hkk (r := 0) (by omega)
    rw [hn] at hk2
    injection hk2 with hk2
    rw [hk2]
    simp [hasK, othK]
theorem cel_sum {m n : Nat} {L M : List (List Int)} (hL : Sz m n L) (hM : Sz m n M) {r q : Nat} (hr : r < m) (hq : q < n) : cel (gridS 1 L M) r q = cel L r q + cel M r q := by
  have g1 : r < L.length := by rw [hL.1]; exact hr
  have g2 : r < M.length := by rw [hM.1]; exact hr
  have g3 := hL.2 _ (List.getElem_mem g1)
  have g4 := hM.2 _ (List.getElem_mem g2)
  unfold cel gridS
  rw [List.getElem?_zipWith, List.getElem?_eq_getElem g1, List.getElem?_eq_getElem g2]
  simp only [Option.getD_some]
  unfold rowS
  rw [List.getElem?_zipWith, List.getElem?_eq_getElem (by omega), List.getElem?_eq_getElem (by omega)]
  simp
theorem sz_of_dims {m n : Nat} {L : List (List Int)} (h : Dims m n L) : Sz m n L := ⟨h.len, fun r hr => (h.rows r hr).1⟩
theorem cel_flat {m n : Nat} {L : List (List Int)} (h : Sz m n L) {r q : Nat} (hr : r < m) (hq : q < n) : cel L r q = (L.flatten[r * n + q]?).getD 0 := by
  rw [flat_get r q h.2 (by rw [h.1]; exact hr) hq]
  rfl
theorem cells_sz {c : Cfg} {l : Int} {us : Ups} (h : UpsIn c l us) : Sz (rws c) (wds c) (cells c l us) := by
  have hok := opsU_ok h.1
  by_cases h2 : c.md = 2
  · rw [cells_con h2]
    have hro := rose_all (rose_zero (rws c) (wds c)) hok (plus_of h h2)
    exact hro.sg
  · rw [cells_lin h2]
    exact chAll_sz (sz_zeros (rws c) (wds c)) hok
/-- What has something is merged in: some cell is another one. -/
theorem one_merge {c : Cfg} {l a b : Int} (hk : 1 ≤ keys c l) (a0 : 0 ≤ a) (a1 : a ≤ 1099511627776) (b0 : 1 ≤ b) (b1 : b ≤ 1099511627776) :
    mgCode 1 c c l l (cells c l [(0, a)]) (cells c l [(0, b)]) = 0 ∧ (mgRes 1 c c l l (cells c l [(0, a)]) (cells c l [(0, b)])).flatten ≠ (cells c l [(0, a)]).flatten := by
  have hia := one_in hk a0 a1
  have hib := one_in (d := b) hk (by omega) b1
  have hr := (keys_pos.1 hk).1
  have hs1 := cells_sz hia
  have hs2 := cells_sz hib
  have hf : fitsAll (gridS 1 (cells c l [(0, a)]) (cells c l [(0, b)])) = true := by
    have h1 := opsU_ok hia.1
    have h2 := opsU_ok hib.1
    by_cases hm : c.md = 2
    · rw [cells_con hm, cells_con hm]
      exact join_fits (m := rws c) (n := wds c) (rose_dims h1 (plus_of hia hm) (by rw [opsU_len]; simp)).2 (rose_dims h2 (plus_of hib hm) (by rw [opsU_len]; simp)).2
    · rw [cells_lin hm, cells_lin hm]
      exact join_fits (m := rws c) (n := wds c) (within_mono (chAll_within (c := 1099511627776) (by omega) (b := 0) (Int.le_refl _) (within_zeros (rws c) (wds c)) h1) (c := 65970697666560) (by rw [opsU_len]; simp)) (within_mono (chAll_within (c := 1099511627776) (by omega) (b := 0) (Int.le_refl _) (within_zeros (rws c) (wds c)) h2) (c := 65970697666560) (by rw [opsU_len]; simp))
  have hj := jcode_yes (s := 1) (m := rws c) (n := wds c) hf
  have hce : cfgE c c = true := decide_eq_true ⟨rfl, rfl, rfl, rfl, rfl⟩
  have hs1x : ¬ ((1 : Int) = -1 ∧ c.md = 2) := by omega
  unfold mgCode mgRes
  rw [if_pos (show cfgE c c = true ∧ l = l from ⟨hce, rfl⟩), if_pos (show cfgE c c = true ∧ l = l from ⟨hce, rfl⟩), if_neg hs1x, if_neg hs1x]
  refine ⟨hj.1, ?_⟩
  rw [hj.2]
  intro he
  have hw := rws_bd hr
  have hv := wds_bd hr
  have hcr := col_range hr l 0 0
  obtain ⟨q, hq⟩ : ∃ q : Nat, col c l 0 0 = q := ⟨(col c l 0 0).toNat, by omega⟩
  have hqn : q < wds c := by omega
  have hsg : Sz (rws c) (wds c) (gridS 1 (cells c l [(0, a)]) (cells c l [(0, b)])) := by
    refine ⟨by unfold gridS; rw [List.length_zipWith, hs1.1, hs2.1]; omega, fun r hr => ?_⟩
    obtain ⟨x, g1, y, g2, rfl⟩ := mem_zip hr
    unfold rowS
    rw [List.length_zipWith, hs1.2 x g1, hs2.2 y g2]
    omega
  have e1 := cel_sum hs1 hs2 (r := 0) (q := q) (by omega) hqn
  have e2 := cel_flat hsg (r := 0) (q := q) (by omega) hqn
  have e3 := cel_flat hs1 (r := 0) (q := q) (by omega) hqn
  rw [he] at e2
  have e4 := one_least (c := c) (l := l) (d := b) hk (by omega) b1 hq
  omega
end Go.Proofs.YtkannodfamnmcaaGreat.Sk
/- A grid of one column, on which an update is tried, in numbers. Printed by wip/gen/skcopy.py. -/
namespace Go.Proofs.YtkannodfamnmcaaGreat.Sk
open Go Go.RowKit Lw Grd Lin Con Shp
set_option linter.unusedVariables false
def trialL (L : List (List Int)) (cols : List Int) (m k : Nat) : List (List Int) := (List.range m).map (fun j => [if j < k then ((named L cols)[j]?).getD 0 else 0])
theorem trial_len (L : List (List Int)) (cols : List Int) (m k : Nat) : (trialL L cols m k).length = m := by unfold trialL; simp
theorem trial_get {L : List (List Int)} {cols : List Int} {m k j : Nat} (h : j < m) : (trialL L cols m k)[j]? = some [if j < k then ((named L cols)[j]?).getD 0 else 0] := by
  unfold trialL
  rw [List.getElem?_map, List.getElem?_range h]
  rfl
theorem trial_zero (L : List (List Int)) (cols : List Int) (m : Nat) : trialL L cols m 0 = zerosL m 1 := by
  apply List.ext_getElem?
  intro j
  by_cases h : j < m
  · rw [trial_get h, if_neg (by omega)]
    unfold zerosL
    rw [List.getElem?_replicate, if_pos h]
    rfl
  · rw [List.getElem?_eq_none (by rw [trial_len]; omega), List.getElem?_eq_none (by unfold zerosL; simp; omega)]
theorem trial_put {L : List (List Int)} {cols : List Int} {m k : Nat} {x : Int} (hk : k < m) (hx : (named L cols)[k]? = some x) : setL (trialL L cols m k) (k : Int) 0 x = trialL L cols m (k + 1) := by
  have hin : in2 (trialL L cols m k) (k : Int) 0 = true := by
    unfold in2
    rw [Int.toNat_natCast, trial_get hk, trial_len]
    simp
    omega
  unfold setL
  rw [if_pos hin, Int.toNat_natCast]
  apply List.ext_getElem?
  intro j
  rw [List.getElem?_modify]
  by_cases h : j < m
  · rw [trial_get h, trial_get h]
    simp only [Option.map_eq_map, Option.map_some]
    by_cases hj : k = j
    · subst hj
      simp [hx]
    · rw [if_neg hj]
      by_cases h1 : j < k
      · rw [if_pos h1, if_pos (show j < k + 1 by omega)]
      · rw [if_neg h1, if_neg (show ¬ j < k + 1 by omega)]
  · rw [List.getElem?_eq_none (by rw [trial_len]; omega), List.getElem?_eq_none (by rw [trial_len]; omega)]
    rfl
theorem trial_named {L : List (List Int)} {cols : List Int} {m : Nat} (hl : (named L cols).length = m) : named (trialL L cols m m) (List.replicate m 0) = named L cols := by
  apply List.ext_getElem?
  intro j
  by_cases h : j < m
  · have h2 : j < (named L cols).length := by omega
    unfold named
    rw [List.getElem?_zipWith, trial_get h, List.getElem?_replicate, if_pos h, if_pos h]
    have e : (named L cols)[j]? = some ((named L cols)[j]) := List.getElem?_eq_getElem h2
    have e2 : (List.zipWith (fun r c => r[c.toNat]?.getD 0) L cols)[j]? = some ((named L cols)[j]) := e
    rw [e2, e]
    rfl
  · rw [List.getElem?_eq_none (by unfold named; rw [List.length_zipWith, trial_len]; omega), List.getElem?_eq_none (by omega)]
theorem trial_meets {m : Nat} (h : 1 ≤ m) : Meets m 1 (List.replicate m 0) := ⟨h, by simp, fun v hv => by
  have := (List.mem_replicate.1 hv).2
  omega⟩
theorem named_size {m n : Nat} {L : List (List Int)} {cols : List Int} (hd : Dims m n L) (h : Meets m n cols) : (named L cols).length = m := by
  unfold named
  rw [List.length_zipWith, hd.len, h.2.1]
  omega
theorem trial_ch {m n : Nat} {L : List (List Int)} {cols : List Int} {d : Int} (hd : Dims m n L) (h : Meets m n cols) : chCode m 1 (trialL L cols m m) (List.replicate m 0) d = chCode m n L cols d := by
  unfold chCode
  rw [if_pos (trial_meets h.1), if_pos h]
  unfold chFits
  rw [trial_named (named_size hd h)]
theorem trial_rs {m n : Nat} {L : List (List Int)} {cols : List Int} {d : Int} (hd : Dims m n L) (h : Meets m n cols) : rsCode m 1 (trialL L cols m m) (List.replicate m 0) d = rsCode m n L cols d := by
  unfold rsCode
  rw [if_pos (trial_meets h.1), if_pos h]
  unfold lea
  rw [trial_named (named_size hd h)]
theorem in64_zero (m : Nat) : In64 (List.replicate m 0) := fun v hv => by
  have := (List.mem_replicate.1 hv).2
  omega
end Go.Proofs.YtkannodfamnmcaaGreat.Sk
/- The code's sketch: Copy and Check. Printed by wip/gen/skcopy.py. -/
namespace Go.Proofs.YtkannodfamnmcaaGreat.Sk
open Go Go.RowKit Lw Grd Lin Con Shp
set_option linter.unusedVariables false
set_option linter.unusedSimpArgs false
theorem pgI {w : World} {p : Addr} {F : Nat → Prop} {m n : Nat} {L : List (List Int)} (h : (pgT p F m n L).I w) : PG w p F m n L := h
theorem made_rd {X : World} {n g : Nat} {T : TypeId} (h : X.heap.size = g) : Rd .i64 (X.alloc (.cells (madeCells #[.int .i64 0] n) T)) (some ⟨g, 0, none⟩) (List.replicate n 0) := by
  subst h
  exact (Grd.mid_made X n T).rd
theorem at2_in64 {m n : Nat} {L : List (List Int)} (hd : Dims m n L) {r c : Int} : -9223372036854775808 ≤ at2 L r c ∧ at2 L r c ≤ 9223372036854775807 := by
  unfold at2
  split
  · omega
  · cases h1 : L[r.toNat]? with
    | none => simp
    | some row =>
      simp only [Option.getD_some]
      cases h2 : row[c.toNat]? with
      | none => simp
      | some v => exact (hd.rows row (List.mem_of_getElem? h1)).2 v (List.mem_of_getElem? h2)
theorem int_info : (Tryz.prog.info? 3).map (fun i => (i.zero, i.size, i.bytes)) = some (some (.int .i64 0), 1, 8) := by kernel_rfl
theorem ints_u : Tryz.prog.underlying 122 = some (.slice 3) := by kernel_rfl
set_option maxRecDepth 100000 in
set_option maxHeartbeats 4000000 in
theorem scopy_any (p : Addr) (F : Nat → Prop) (c : Cfg) (l : Int) (L : List (List Int)) (w : World) (h : SK w p F c l L) :
    Calls Tryz.prog 50 #[.pointer (some p)] w fun e w' => ∃ (q : Addr) (G : Nat → Prop), e = .returned (.pointer (some q)) ∧ SK w' q G c l L ∧ (∀ k, G k → w.heap.size ≤ k) ∧ Below w.heap.size w w' := by
  obtain ⟨hr, hok, hl0, hl1, b, gp, G, rfl, hb, hg, hGb, rfl⟩ := h
  have hbl := size_of_heap hb
  have c0 := grd_cell hb 0 (v := .pointer (some gp)) rfl
  have c1 := grd_cell hb 1 (v := .int .i64 c.bt) rfl
  have c2 := grd_cell hb 2 (v := .int .i64 c.rw) rfl
  have c3 := grd_cell hb 3 (v := .int .i64 c.wd) rfl
  have c4 := grd_cell hb 4 (v := .int .i64 c.md) rfl
  have c5 := grd_cell hb 5 (v := .int .u64 c.sd) rfl
  have c6 := grd_cell hb 6 (v := .int .i64 l) rfl
  have HR := Lib.hid (And.intro hr (And.intro hok (And.intro hl0 hl1)))
  have CP := Lib.hid (fun w' hd => copy_any gp G (rws c) (wds c) L w' hd)
  have HG := Lib.hid hg
  clear hb hg hr hok hl0 hl1
  go_enter Tryz.func50, Tryz.ntmps50
  go_upto_region 1 with fail
  go_region_held3 (fun w' => w'.cell? ⟨b, 0, none⟩ = some (.pointer (some gp)) ∧ w'.cell? ⟨b, 1, none⟩ = some (.int .i64 c.bt) ∧ w'.cell? ⟨b, 2, none⟩ = some (.int .i64 c.rw) ∧ w'.cell? ⟨b, 3, none⟩ = some (.int .i64 c.wd) ∧ w'.cell? ⟨b, 4, none⟩ = some (.int .i64 c.md) ∧ w'.cell? ⟨b, 5, none⟩ = some (.int .u64 c.sd) ∧ w'.cell? ⟨b, 6, none⟩ = some (.int .i64 l)) (first | (refine ⟨?_, ?_, ?_, ?_, ?_, ?_, ?_⟩ <;> (first | (with_reducible assumption) | (with_reducible refine cell_up c0 ?_) | (with_reducible refine cell_up c1 ?_) | (with_reducible refine cell_up c2 ?_) | (with_reducible refine cell_up c3 ?_) | (with_reducible refine cell_up c4 ?_) | (with_reducible refine cell_up c5 ?_) | (with_reducible refine cell_up c6 ?_)) <;> repeat' (first | (with_reducible exact Below.refl _ _) | (with_reducible assumption) | (with_reducible refine below_over ?_ _ _) | (with_reducible refine Lw.below_alloc ?_ _) | (with_reducible refine Below.drew ?_) | (with_reducible refine below_drewN ?_ _) | (with_reducible refine Below.setCell ?_ ?_ _) | go_size))) (first
    | (go_at_call 78; (with_reducible refine (CP.out _ (pg_up HG.out (by repeat' (first | (with_reducible exact Below.refl _ _) | (with_reducible assumption) | (with_reducible refine below_over ?_ _ _) | (with_reducible refine Lw.below_alloc ?_ _) | (with_reducible refine Below.drew ?_) | (with_reducible refine below_drewN ?_ _) | (with_reducible refine Below.setCell ?_ ?_ _) | go_size)))).mono ?_); rintro e w2 ⟨gq, Gq, rfl, hq1, hq2, hb2⟩; have HB2 : Hid (Below w.heap.size w w2) := Lib.hid (below_call (show Below w.heap.size w _ from (by repeat' (first | (with_reducible exact Below.refl _ _) | (with_reducible assumption) | (with_reducible refine below_over ?_ _ _) | (with_reducible refine Lw.below_alloc ?_ _) | (with_reducible refine Below.drew ?_) | (with_reducible refine below_drewN ?_ _) | (with_reducible refine Below.setCell ?_ ?_ _) | go_size))) hb2 (Nat.le_refl _)); have HQ := Lib.hid hq1; have HF : Hid (∀ k, Gq k → w.heap.size ≤ k) := Lib.hid (fun k hk => Nat.le_trans (Below.size (show Below w.heap.size w _ from (by repeat' (first | (with_reducible exact Below.refl _ _) | (with_reducible assumption) | (with_reducible refine below_over ?_ _ _) | (with_reducible refine Lw.below_alloc ?_ _) | (with_reducible refine Below.drew ?_) | (with_reducible refine below_drewN ?_ _) | (with_reducible refine Below.setCell ?_ ?_ _) | go_size)))) (hq2 k hk)); have hbw2 := HB2.out; clear hq1 hq2 hb2))
  all_goals go_wp2
  all_goals go_ret
  have hgl := fun k (hk : Gq k) => (pgT gq Gq _ _ _).lt _ HQ.out k hk
  have hn := heap_alloc_new w2 (.cells #[.pointer (some gq), .int .i64 c.bt, .int .i64 c.rw, .int .i64 c.wd, .int .i64 c.md, .int .u64 c.sd, .int .i64 l] 119)
  have hs := HB2.out.size
  refine ⟨⟨w2.heap.size, 0, none⟩, fun k => k = w2.heap.size ∨ Gq k, rfl, ⟨HR.out.1, HR.out.2.1, HR.out.2.2.1, HR.out.2.2.2, _, gq, Gq, rfl, hn, pg_alloc HQ.out _, fun hk => by have := hgl _ hk; omega, rfl⟩, fun k hk => ?_, ?_⟩
  · rcases hk with rfl | hk
    · exact hs
    · exact HF.out k hk
  · exact HB2.out.alloc hs _
set_option maxRecDepth 100000 in
theorem scheck_no (p : Addr) (F : Nat → Prop) (c : Cfg) (l : Int) (L : List (List Int)) (k d : Int) (w : World) (h : SK w p F c l L) (k0 : 0 ≤ k) (k1 : k ≤ 18446744073709551615) (hk : keys c l ≤ k) :
    Calls Tryz.prog 163 #[.pointer (some p), .int .u64 k, .int .i64 d] w fun e w' => e = .returned (.int .i64 2) ∧ Below w.heap.size w w' := by
  have CN := Lib.hid (scolumns_no p F c l L k w h k0 k1 hk)
  clear h
  go_enter Tryz.func163, Tryz.ntmps163
  go_wp2_with (go_at_call 167; (with_reducible refine CN.out.mono ?_); rintro e w1 ⟨rfl, hb1⟩; have HB1 := Lib.hid hb1; clear hb1)
  go_ret
  exact ⟨rfl, HB1.out⟩
set_option maxRecDepth 100000 in
set_option maxHeartbeats 4000000 in
theorem scheck_lin (p : Addr) (F : Nat → Prop) (c : Cfg) (l : Int) (L : List (List Int)) (k d : Int) (w : World) (h : SK w p F c l L) (k0 : 0 ≤ k) (k1 : k ≤ 18446744073709551615) (d0 : -9223372036854775808 ≤ d) (d1 : d ≤ 9223372036854775807) (hk : k < keys c l) (hm : c.md = 1) :
    Calls Tryz.prog 163 #[.pointer (some p), .int .u64 k, .int .i64 d] w fun e w' => e = .returned (.int .i64 (chCode (rws c) (wds c) L (cols c l k) d)) ∧ Below w.heap.size w w' := by
  obtain ⟨i0, hi, hi0, hi1, hi2⟩ := info_parts int_info
  have HS := Lib.hid h
  have hd := h.dims
  have hme := cols_meet k0 hk
  obtain ⟨hr, hok, hl0, hl1, b, gp, G, rfl, hb, hg, hGb, rfl⟩ := h
  have hbl := size_of_heap hb
  have c0w := grd_cell hb 0 (v := .pointer (some gp)) rfl
  have CY := Lib.hid (scolumns_yes _ _ c l L k w HS.out k0 k1 hk)
  have WY : Hid (∀ w', Below w.heap.size w w' → Calls Tryz.prog 75 #[.pointer (some ⟨b, 0, none⟩)] w' fun e w2 => e = .returned (.agg #[.func (.func 107) #[] #[], .func (.func 105) #[] #[], .bool true]) ∧ Below w'.heap.size w' w2) := Lib.hid (fun w' hb2 => way_lin _ _ c l L w' (HS.out.up hb2) hm)
  have hcl : (cols c l k).length = rws c := hme.2.1
  have hrw := rws_bd hr
  have RW := Lib.hid (fun w' hd => rows_any gp G (rws c) (wds c) L w' hd)
  have NW := Lib.hid (fun w' => new_any ((rws c : Nat) : Int) 1 w' (by omega) (by omega) (by omega) (by omega))
  have e1 : cl ((rws c : Nat) : Int) 8 = rws c := by rw [cl_of (by omega) (by omega)]; omega
  have e2 : cl 1 128 = 1 := by rw [cl_of (by omega) (by omega)]; rfl
  rw [e1, e2, ← trial_zero L (cols c l k)] at NW
  have AT := Lib.hid (fun (r v : Int) w' hd h0 h1 h2 h3 => at_any gp G (rws c) (wds c) L r v w' hd h0 h1 h2 h3)
  have NA := Lib.hid (fun r v (hv : (cols c l k)[r]? = some v) => named_at hd hme hv)
  have NB := Lib.hid (fun r x (hr2 : r < rws c) (hx : (named L (cols c l k))[r]? = some x) => trial_put (m := rws c) hr2 hx)
  have hin := cols_in c l k
  have HIN := Lib.hid hin
  have HAB := Lib.hid (fun r v => at2_in64 hd (r := r) (c := v))
  have CH := Lib.hid (fun tp TF A w' hp hrd hap => change_any tp TF (rws c) 1 (trialL L (cols c l k) (rws c) (rws c)) (some A) (rws c) (rws c) (List.replicate (rws c) 0) d w' hp hrd hap (by simp) (by omega) (in64_zero _) d0 d1)
  rw [trial_ch hd hme] at CH
  obtain ⟨V, hV⟩ : ∃ V, chCode (rws c) (wds c) L (cols c l k) d = V := ⟨_, rfl⟩
  rw [hV] at CH ⊢
  have HG := Lib.hid hg
  obtain ⟨m, hmm⟩ : ∃ m, rws c = m := ⟨_, rfl⟩
  rw [hmm] at CY RW NW NB CH hrw hcl HG AT
  obtain ⟨cs, hcs⟩ : ∃ cs, cols c l k = cs := ⟨_, rfl⟩
  rw [hcs] at CY NW NA NB CH hcl HIN
  have hm8 : 1 ≤ m ∧ m ≤ 8 := ⟨hrw.1, hrw.2.1⟩
  have HCL := Lib.hid hcl
  have hmk : ∀ w, (Instr.makeSlice 122 (.int .i64 (m : Int)) (.int .i64 (m : Int))).run Tryz.prog w = .ok (.slice (some ⟨w.heap.size, 0, none⟩) m m) (w.alloc (.cells (madeCells #[.int .i64 0] m) 3)) := by
    intro w
    have h := run_make (P := Tryz.prog) w 122 3 i0 (.int .i64 0) ints_u hi hi0 .i64 .i64 m m (by omega) (Int.le_refl _) (by rw [hi2]; omega) (by omega)
    rw [hi1] at h
    simpa [Value.cells] using h
  have HMK := Lib.hid hmk
  have hfd : ∀ w : World, (Instr.field 142 (.agg #[.func (.func 107) #[] #[], .func (.func 105) #[] #[], .bool true]) 0).run Tryz.prog w = .ok (.func (.func 107) #[] #[]) w := fun _ => by kernel_rfl
  have HFD := Lib.hid hfd
  clear hb hg hcl hrw hV hm hk hd hme hin hmm hcs e1 e2 hi hi0 hi1 hi2 hmk hfd
  go_enter Tryz.func163, Tryz.ntmps163
  go_wp2_with (first
    | (go_at_call 167; (with_reducible refine (CY.out).mono ?_); rintro e w1 ⟨g, rfl, hm1, hg1, hb1⟩; have HV1 := Lib.hid ((Have.nil w).push (midT g cs) hb1 hm1 (fun k hk => by subst hk; exact hg1)); clear hm1 hg1 hb1; have c0 := cell_up c0w HV1.out.below)
    | (go_at_call 132; (with_reducible refine (RW.out _ (pg_up HG.out HV1.out.below)).mono ?_); rintro e w2 ⟨rfl, hb⟩; have HV2 := Lib.hid (HV1.out.up hb); clear hb c0)
    | (go_at_call 58; (with_reducible refine (NW.out _).mono ?_); rintro e w3 ⟨tp, TF0, rfl, h1, h2, hb⟩; have HV3 := Lib.hid (HV2.out.push (pgT tp TF0 m 1 (trialL L cs m 0)) hb h1 h2); clear h1 h2 hb))
  go_loopw [29] (fun iv wr => ∃ (r : Nat) (TF : Nat → Prop), r ≤ m ∧ iv = .int .i64 r ∧ Have w wr [pgT tp TF m 1 (trialL L cs m r), midT g cs]) (fun iv _ => m - (intOf iv).toNat)
  case atStart => exact ⟨0, TF0, Nat.zero_le _, rfl, HV3.out⟩
  case round =>
    obtain ⟨r, TF, hr, rfl, hv⟩ := hrel
    have HVr := Lib.hid hv
    clear hv
    have c0 := cell_up c0w HVr.out.below
    by_cases hrm : r < m
    · obtain ⟨v, hv1⟩ : ∃ v, cs[r]? = some v := ⟨_, List.getElem?_eq_getElem (by rw [HCL.out]; exact hrm)⟩
      have hcv := (midI HVr.out.i1).cell hv1
      have hvb := HIN.out v (List.mem_of_getElem? hv1)
      have hna := NA.out r v hv1
      have hab := HAB.out (r : Int) v
      obtain ⟨x, hx⟩ : ∃ x, at2 L (r : Int) v = x := ⟨_, rfl⟩
      rw [hx] at hna hab
      have hnb := NB.out r x hrm hna
      have CA := Lib.hid (fun w' hb => AT.out (r : Int) v w' (pg_up HG.out hb) (by omega) (by omega) hvb.1 hvb.2)
      rw [hx] at CA
      have CPT := Lib.hid (fun w' hp => put_any tp TF m 1 (trialL L cs m r) (r : Int) 0 x w' hp (by omega) (by omega) (by omega) (by omega) hab.1 hab.2)
      rw [hnb] at CPT
      obtain ⟨bb, hbb⟩ : ∃ bb, in2 (trialL L cs m r) (r : Int) 0 = bb := ⟨_, rfl⟩
      rw [hbb] at CPT
      obtain ⟨ga, hga⟩ : ∃ ga : Addr, (⟨g, 0, none⟩ : Addr) = ga := ⟨_, rfl⟩
      rw [← Ord.add_at, hga] at hcv
      rw [hga]
      have hrm2 : (r : Int) < (m : Int) := by omega
      clear hx hna hnb hab hvb hv1 hbb
      go_wp2_with (first
        | (go_at_call 135; (with_reducible refine (CA.out _ (below_call HVr.out.below (by repeat' (first | (with_reducible exact Below.refl _ _) | (with_reducible assumption) | (with_reducible refine below_over ?_ _ _) | (with_reducible refine Lw.below_alloc ?_ _) | (with_reducible refine Below.drew ?_) | (with_reducible refine below_drewN ?_ _) | (with_reducible refine Below.setCell ?_ ?_ _) | go_size)) (Nat.le_refl _))).mono ?_); rintro e w5 ⟨rfl, hb⟩; have HV5 := Lib.hid (HVr.out.up hb); clear hb)
        | (go_at_call 123; (with_reducible refine (CPT.out _ (pgI HV5.out.i0)).mono ?_); rintro e w6 ⟨rfl, T6, h1, h2, h3⟩; have HV6 := Lib.hid (HV5.out.turn_0 (pgT tp T6 m 1 (trialL L cs m (r + 1))) h1 h2 h3); clear h1 h2 h3))
      go_roundw
      case rel => exact ⟨r + 1, T6, by omega, by go_num, HV6.out⟩
      case measure => simp [intOf]; omega
    · have e : r = m := by omega
      subst e
      have hlt3 : ¬ (r : Int) < (r : Int) := by omega
      have TLT := Lib.hid (fun q (hq : TF q) => (pgT tp TF _ _ _).lt wr HVr.out.i0 q hq)
      have hmk := HMK.out
      have hfd := HFD.out
      clear hrm
      go_upto_region 10 with fail
      go_region_held3 (fun w' => w'.cell? ⟨b, 0, none⟩ = some (.pointer (some gp))) (first | (with_reducible assumption) | (with_reducible refine cell_up c0 ?_ <;> (repeat' (first | (with_reducible exact Below.refl _ _) | (with_reducible assumption) | (with_reducible refine below_over ?_ _ _) | (with_reducible refine Lw.below_alloc ?_ _) | (with_reducible refine Below.drew ?_) | (with_reducible refine below_drewN ?_ _) | (with_reducible refine Below.setCell ?_ ?_ _) | go_size)))) (first
        | (go_at_call 75; (with_reducible refine (WY.out _ (below_call HVr.out.below (by repeat' (first | (with_reducible exact Below.refl _ _) | (with_reducible assumption) | (with_reducible refine below_over ?_ _ _) | (with_reducible refine Lw.below_alloc ?_ _) | (with_reducible refine Below.drew ?_) | (with_reducible refine below_drewN ?_ _) | (with_reducible refine Below.setCell ?_ ?_ _) | go_size)) (Nat.le_refl _))).mono ?_); rintro e w' ⟨rfl, hb2⟩; obtain ⟨bs, d2, rfl⟩ := below_grow hb2; clear hb2)
        | (go_at_call 107; (with_reducible refine (CH.out tp TF _ _ (pg_up (pgI HVr.out.i0) (by repeat' (first | (with_reducible exact Below.refl _ _) | (with_reducible assumption) | (with_reducible refine below_over ?_ _ _) | (with_reducible refine Lw.below_alloc ?_ _) | (with_reducible refine Below.drew ?_) | (with_reducible refine below_drewN ?_ _) | (with_reducible refine Below.setCell ?_ ?_ _) | go_size))) (by first | exact made_rd (by first | rfl | (simp; done)) | exact (made_rd (by first | rfl | (simp; done))).up (by repeat' (first | (with_reducible exact Below.refl _ _) | (with_reducible assumption) | (with_reducible refine below_over ?_ _ _) | (with_reducible refine Lw.below_alloc ?_ _) | (with_reducible refine Below.drew ?_) | (with_reducible refine below_drewN ?_ _) | (with_reducible refine Below.setCell ?_ ?_ _) | go_size))) (fun a ha hq => by injection ha with ha; subst ha; have := TLT.out _ hq; simp at this <;> omega)).mono ?_); rintro e w6 ⟨rfl, T6, h1, h2, h3⟩; have HV6 := Lib.hid ((HVr.out.up (by repeat' (first | (with_reducible exact Below.refl _ _) | (with_reducible assumption) | (with_reducible refine below_over ?_ _ _) | (with_reducible refine Lw.below_alloc ?_ _) | (with_reducible refine Below.drew ?_) | (with_reducible refine below_drewN ?_ _) | (with_reducible refine Below.setCell ?_ ?_ _) | go_size))).turn_0 (pgT tp T6 _ _ _) h1 h2 h3); have x0 := cell_up c0w HV6.out.below; clear h1 h2 h3 c0; have c0 := x0; clear x0))
      all_goals go_wp2
      all_goals go_ret
      all_goals exact ⟨rfl, HV6.out.below⟩
set_option maxRecDepth 100000 in
set_option maxHeartbeats 4000000 in
theorem scheck_con (p : Addr) (F : Nat → Prop) (c : Cfg) (l : Int) (L : List (List Int)) (k d : Int) (w : World) (h : SK w p F c l L) (k0 : 0 ≤ k) (k1 : k ≤ 18446744073709551615) (d0 : -9223372036854775808 ≤ d) (d1 : d ≤ 9223372036854775807) (hk : k < keys c l) (hm : c.md = 2) :
    Calls Tryz.prog 163 #[.pointer (some p), .int .u64 k, .int .i64 d] w fun e w' => e = .returned (.int .i64 (rsCode (rws c) (wds c) L (cols c l k) d)) ∧ Below w.heap.size w w' := by
  obtain ⟨i0, hi, hi0, hi1, hi2⟩ := info_parts int_info
  have HS := Lib.hid h
  have hd := h.dims
  have hme := cols_meet k0 hk
  obtain ⟨hr, hok, hl0, hl1, b, gp, G, rfl, hb, hg, hGb, rfl⟩ := h
  have hbl := size_of_heap hb
  have c0w := grd_cell hb 0 (v := .pointer (some gp)) rfl
  have CY := Lib.hid (scolumns_yes _ _ c l L k w HS.out k0 k1 hk)
  have WY : Hid (∀ w', Below w.heap.size w w' → Calls Tryz.prog 75 #[.pointer (some ⟨b, 0, none⟩)] w' fun e w2 => e = .returned (.agg #[.func (.func 104) #[] #[], .func (.func 105) #[] #[], .bool false]) ∧ Below w'.heap.size w' w2) := Lib.hid (fun w' hb2 => way_con _ _ c l L w' (HS.out.up hb2) hm)
  have hcl : (cols c l k).length = rws c := hme.2.1
  have hrw := rws_bd hr
  have RW := Lib.hid (fun w' hd => rows_any gp G (rws c) (wds c) L w' hd)
  have NW := Lib.hid (fun w' => new_any ((rws c : Nat) : Int) 1 w' (by omega) (by omega) (by omega) (by omega))
  have e1 : cl ((rws c : Nat) : Int) 8 = rws c := by rw [cl_of (by omega) (by omega)]; omega
  have e2 : cl 1 128 = 1 := by rw [cl_of (by omega) (by omega)]; rfl
  rw [e1, e2, ← trial_zero L (cols c l k)] at NW
  have AT := Lib.hid (fun (r v : Int) w' hd h0 h1 h2 h3 => at_any gp G (rws c) (wds c) L r v w' hd h0 h1 h2 h3)
  have NA := Lib.hid (fun r v (hv : (cols c l k)[r]? = some v) => named_at hd hme hv)
  have NB := Lib.hid (fun r x (hr2 : r < rws c) (hx : (named L (cols c l k))[r]? = some x) => trial_put (m := rws c) hr2 hx)
  have hin := cols_in c l k
  have HIN := Lib.hid hin
  have HAB := Lib.hid (fun r v => at2_in64 hd (r := r) (c := v))
  have CH := Lib.hid (fun tp TF A w' hp hrd hap => raise_any tp TF (rws c) 1 (trialL L (cols c l k) (rws c) (rws c)) (some A) (rws c) (rws c) (List.replicate (rws c) 0) d w' hp hrd hap (by simp) (by omega) (in64_zero _) d0 d1)
  rw [trial_rs hd hme] at CH
  obtain ⟨V, hV⟩ : ∃ V, rsCode (rws c) (wds c) L (cols c l k) d = V := ⟨_, rfl⟩
  rw [hV] at CH ⊢
  have HG := Lib.hid hg
  obtain ⟨m, hmm⟩ : ∃ m, rws c = m := ⟨_, rfl⟩
  rw [hmm] at CY RW NW NB CH hrw hcl HG AT
  obtain ⟨cs, hcs⟩ : ∃ cs, cols c l k = cs := ⟨_, rfl⟩
  rw [hcs] at CY NW NA NB CH hcl HIN
  have hm8 : 1 ≤ m ∧ m ≤ 8 := ⟨hrw.1, hrw.2.1⟩
  have HCL := Lib.hid hcl
  have hmk : ∀ w, (Instr.makeSlice 122 (.int .i64 (m : Int)) (.int .i64 (m : Int))).run Tryz.prog w = .ok (.slice (some ⟨w.heap.size, 0, none⟩) m m) (w.alloc (.cells (madeCells #[.int .i64 0] m) 3)) := by
    intro w
    have h := run_make (P := Tryz.prog) w 122 3 i0 (.int .i64 0) ints_u hi hi0 .i64 .i64 m m (by omega) (Int.le_refl _) (by rw [hi2]; omega) (by omega)
    rw [hi1] at h
    simpa [Value.cells] using h
  have HMK := Lib.hid hmk
  have hfd : ∀ w : World, (Instr.field 142 (.agg #[.func (.func 104) #[] #[], .func (.func 105) #[] #[], .bool false]) 0).run Tryz.prog w = .ok (.func (.func 104) #[] #[]) w := fun _ => by kernel_rfl
  have HFD := Lib.hid hfd
  clear hb hg hcl hrw hV hm hk hd hme hin hmm hcs e1 e2 hi hi0 hi1 hi2 hmk hfd
  go_enter Tryz.func163, Tryz.ntmps163
  go_wp2_with (first
    | (go_at_call 167; (with_reducible refine (CY.out).mono ?_); rintro e w1 ⟨g, rfl, hm1, hg1, hb1⟩; have HV1 := Lib.hid ((Have.nil w).push (midT g cs) hb1 hm1 (fun k hk => by subst hk; exact hg1)); clear hm1 hg1 hb1; have c0 := cell_up c0w HV1.out.below)
    | (go_at_call 132; (with_reducible refine (RW.out _ (pg_up HG.out HV1.out.below)).mono ?_); rintro e w2 ⟨rfl, hb⟩; have HV2 := Lib.hid (HV1.out.up hb); clear hb c0)
    | (go_at_call 58; (with_reducible refine (NW.out _).mono ?_); rintro e w3 ⟨tp, TF0, rfl, h1, h2, hb⟩; have HV3 := Lib.hid (HV2.out.push (pgT tp TF0 m 1 (trialL L cs m 0)) hb h1 h2); clear h1 h2 hb))
  go_loopw [29] (fun iv wr => ∃ (r : Nat) (TF : Nat → Prop), r ≤ m ∧ iv = .int .i64 r ∧ Have w wr [pgT tp TF m 1 (trialL L cs m r), midT g cs]) (fun iv _ => m - (intOf iv).toNat)
  case atStart => exact ⟨0, TF0, Nat.zero_le _, rfl, HV3.out⟩
  case round =>
    obtain ⟨r, TF, hr, rfl, hv⟩ := hrel
    have HVr := Lib.hid hv
    clear hv
    have c0 := cell_up c0w HVr.out.below
    by_cases hrm : r < m
    · obtain ⟨v, hv1⟩ : ∃ v, cs[r]? = some v := ⟨_, List.getElem?_eq_getElem (by rw [HCL.out]; exact hrm)⟩
      have hcv := (midI HVr.out.i1).cell hv1
      have hvb := HIN.out v (List.mem_of_getElem? hv1)
      have hna := NA.out r v hv1
      have hab := HAB.out (r : Int) v
      obtain ⟨x, hx⟩ : ∃ x, at2 L (r : Int) v = x := ⟨_, rfl⟩
      rw [hx] at hna hab
      have hnb := NB.out r x hrm hna
      have CA := Lib.hid (fun w' hb => AT.out (r : Int) v w' (pg_up HG.out hb) (by omega) (by omega) hvb.1 hvb.2)
      rw [hx] at CA
      have CPT := Lib.hid (fun w' hp => put_any tp TF m 1 (trialL L cs m r) (r : Int) 0 x w' hp (by omega) (by omega) (by omega) (by omega) hab.1 hab.2)
      rw [hnb] at CPT
      obtain ⟨bb, hbb⟩ : ∃ bb, in2 (trialL L cs m r) (r : Int) 0 = bb := ⟨_, rfl⟩
      rw [hbb] at CPT
      obtain ⟨ga, hga⟩ : ∃ ga : Addr, (⟨g, 0, none⟩ : Addr) = ga := ⟨_, rfl⟩
      rw [← Ord.add_at, hga] at hcv
      rw [hga]
      have hrm2 : (r : Int) < (m : Int) := by omega
      clear hx hna hnb hab hvb hv1 hbb
      go_wp2_with (first
        | (go_at_call 135; (with_reducible refine (CA.out _ (below_call HVr.out.below (by repeat' (first | (with_reducible exact Below.refl _ _) | (with_reducible assumption) | (with_reducible refine below_over ?_ _ _) | (with_reducible refine Lw.below_alloc ?_ _) | (with_reducible refine Below.drew ?_) | (with_reducible refine below_drewN ?_ _) | (with_reducible refine Below.setCell ?_ ?_ _) | go_size)) (Nat.le_refl _))).mono ?_); rintro e w5 ⟨rfl, hb⟩; have HV5 := Lib.hid (HVr.out.up hb); clear hb)
        | (go_at_call 123; (with_reducible refine (CPT.out _ (pgI HV5.out.i0)).mono ?_); rintro e w6 ⟨rfl, T6, h1, h2, h3⟩; have HV6 := Lib.hid (HV5.out.turn_0 (pgT tp T6 m 1 (trialL L cs m (r + 1))) h1 h2 h3); clear h1 h2 h3))
      go_roundw
      case rel => exact ⟨r + 1, T6, by omega, by go_num, HV6.out⟩
      case measure => simp [intOf]; omega
    · have e : r = m := by omega
      subst e
      have hlt3 : ¬ (r : Int) < (r : Int) := by omega
      have TLT := Lib.hid (fun q (hq : TF q) => (pgT tp TF _ _ _).lt wr HVr.out.i0 q hq)
      have hmk := HMK.out
      have hfd := HFD.out
      clear hrm
      go_upto_region 10 with fail
      go_region_held3 (fun w' => w'.cell? ⟨b, 0, none⟩ = some (.pointer (some gp))) (first | (with_reducible assumption) | (with_reducible refine cell_up c0 ?_ <;> (repeat' (first | (with_reducible exact Below.refl _ _) | (with_reducible assumption) | (with_reducible refine below_over ?_ _ _) | (with_reducible refine Lw.below_alloc ?_ _) | (with_reducible refine Below.drew ?_) | (with_reducible refine below_drewN ?_ _) | (with_reducible refine Below.setCell ?_ ?_ _) | go_size)))) (first
        | (go_at_call 75; (with_reducible refine (WY.out _ (below_call HVr.out.below (by repeat' (first | (with_reducible exact Below.refl _ _) | (with_reducible assumption) | (with_reducible refine below_over ?_ _ _) | (with_reducible refine Lw.below_alloc ?_ _) | (with_reducible refine Below.drew ?_) | (with_reducible refine below_drewN ?_ _) | (with_reducible refine Below.setCell ?_ ?_ _) | go_size)) (Nat.le_refl _))).mono ?_); rintro e w' ⟨rfl, hb2⟩; obtain ⟨bs, d2, rfl⟩ := below_grow hb2; clear hb2)
        | (go_at_call 104; (with_reducible refine (CH.out tp TF _ _ (pg_up (pgI HVr.out.i0) (by repeat' (first | (with_reducible exact Below.refl _ _) | (with_reducible assumption) | (with_reducible refine below_over ?_ _ _) | (with_reducible refine Lw.below_alloc ?_ _) | (with_reducible refine Below.drew ?_) | (with_reducible refine below_drewN ?_ _) | (with_reducible refine Below.setCell ?_ ?_ _) | go_size))) (by first | exact made_rd (by first | rfl | (simp; done)) | exact (made_rd (by first | rfl | (simp; done))).up (by repeat' (first | (with_reducible exact Below.refl _ _) | (with_reducible assumption) | (with_reducible refine below_over ?_ _ _) | (with_reducible refine Lw.below_alloc ?_ _) | (with_reducible refine Below.drew ?_) | (with_reducible refine below_drewN ?_ _) | (with_reducible refine Below.setCell ?_ ?_ _) | go_size))) (fun a ha hq => by injection ha with ha; subst ha; have := TLT.out _ hq; simp at this <;> omega)).mono ?_); rintro e w6 ⟨rfl, T6, h1, h2, h3⟩; have HV6 := Lib.hid ((HVr.out.up (by repeat' (first | (with_reducible exact Below.refl _ _) | (with_reducible assumption) | (with_reducible refine below_over ?_ _ _) | (with_reducible refine Lw.below_alloc ?_ _) | (with_reducible refine Below.drew ?_) | (with_reducible refine below_drewN ?_ _) | (with_reducible refine Below.setCell ?_ ?_ _) | go_size))).turn_0 (pgT tp T6 _ _ _) h1 h2 h3); have x0 := cell_up c0w HV6.out.below; clear h1 h2 h3 c0; have c0 := x0; clear x0))
      all_goals go_wp2
      all_goals go_ret
      all_goals exact ⟨rfl, HV6.out.below⟩
set_option maxRecDepth 100000 in
set_option maxHeartbeats 4000000 in
theorem scheck_med (p : Addr) (F : Nat → Prop) (c : Cfg) (l : Int) (L : List (List Int)) (k d : Int) (w : World) (h : SK w p F c l L) (k0 : 0 ≤ k) (k1 : k ≤ 18446744073709551615) (d0 : -9223372036854775808 ≤ d) (d1 : d ≤ 9223372036854775807) (hk : k < keys c l) (hm : c.md = 3) :
    Calls Tryz.prog 163 #[.pointer (some p), .int .u64 k, .int .i64 d] w fun e w' => e = .returned (.int .i64 (chCode (rws c) (wds c) L (cols c l k) d)) ∧ Below w.heap.size w w' := by
  obtain ⟨i0, hi, hi0, hi1, hi2⟩ := info_parts int_info
  have HS := Lib.hid h
  have hd := h.dims
  have hme := cols_meet k0 hk
  obtain ⟨hr, hok, hl0, hl1, b, gp, G, rfl, hb, hg, hGb, rfl⟩ := h
  have hbl := size_of_heap hb
  have c0w := grd_cell hb 0 (v := .pointer (some gp)) rfl
  have CY := Lib.hid (scolumns_yes _ _ c l L k w HS.out k0 k1 hk)
  have WY : Hid (∀ w', Below w.heap.size w w' → Calls Tryz.prog 75 #[.pointer (some ⟨b, 0, none⟩)] w' fun e w2 => e = .returned (.agg #[.func (.func 107) #[] #[], .func (.func 106) #[] #[], .bool true]) ∧ Below w'.heap.size w' w2) := Lib.hid (fun w' hb2 => way_med _ _ c l L w' (HS.out.up hb2) hm)
  have hcl : (cols c l k).length = rws c := hme.2.1
  have hrw := rws_bd hr
  have RW := Lib.hid (fun w' hd => rows_any gp G (rws c) (wds c) L w' hd)
  have NW := Lib.hid (fun w' => new_any ((rws c : Nat) : Int) 1 w' (by omega) (by omega) (by omega) (by omega))
  have e1 : cl ((rws c : Nat) : Int) 8 = rws c := by rw [cl_of (by omega) (by omega)]; omega
  have e2 : cl 1 128 = 1 := by rw [cl_of (by omega) (by omega)]; rfl
  rw [e1, e2, ← trial_zero L (cols c l k)] at NW
  have AT := Lib.hid (fun (r v : Int) w' hd h0 h1 h2 h3 => at_any gp G (rws c) (wds c) L r v w' hd h0 h1 h2 h3)
  have NA := Lib.hid (fun r v (hv : (cols c l k)[r]? = some v) => named_at hd hme hv)
  have NB := Lib.hid (fun r x (hr2 : r < rws c) (hx : (named L (cols c l k))[r]? = some x) => trial_put (m := rws c) hr2 hx)
  have hin := cols_in c l k
  have HIN := Lib.hid hin
  have HAB := Lib.hid (fun r v => at2_in64 hd (r := r) (c := v))
  have CH := Lib.hid (fun tp TF A w' hp hrd hap => change_any tp TF (rws c) 1 (trialL L (cols c l k) (rws c) (rws c)) (some A) (rws c) (rws c) (List.replicate (rws c) 0) d w' hp hrd hap (by simp) (by omega) (in64_zero _) d0 d1)
  rw [trial_ch hd hme] at CH
  obtain ⟨V, hV⟩ : ∃ V, chCode (rws c) (wds c) L (cols c l k) d = V := ⟨_, rfl⟩
  rw [hV] at CH ⊢
  have HG := Lib.hid hg
  obtain ⟨m, hmm⟩ : ∃ m, rws c = m := ⟨_, rfl⟩
  rw [hmm] at CY RW NW NB CH hrw hcl HG AT
  obtain ⟨cs, hcs⟩ : ∃ cs, cols c l k = cs := ⟨_, rfl⟩
  rw [hcs] at CY NW NA NB CH hcl HIN
  have hm8 : 1 ≤ m ∧ m ≤ 8 := ⟨hrw.1, hrw.2.1⟩
  have HCL := Lib.hid hcl
  have hmk : ∀ w, (Instr.makeSlice 122 (.int .i64 (m : Int)) (.int .i64 (m : Int))).run Tryz.prog w = .ok (.slice (some ⟨w.heap.size, 0, none⟩) m m) (w.alloc (.cells (madeCells #[.int .i64 0] m) 3)) := by
    intro w
    have h := run_make (P := Tryz.prog) w 122 3 i0 (.int .i64 0) ints_u hi hi0 .i64 .i64 m m (by omega) (Int.le_refl _) (by rw [hi2]; omega) (by omega)
    rw [hi1] at h
    simpa [Value.cells] using h
  have HMK := Lib.hid hmk
  have hfd : ∀ w : World, (Instr.field 142 (.agg #[.func (.func 107) #[] #[], .func (.func 106) #[] #[], .bool true]) 0).run Tryz.prog w = .ok (.func (.func 107) #[] #[]) w := fun _ => by kernel_rfl
  have HFD := Lib.hid hfd
  clear hb hg hcl hrw hV hm hk hd hme hin hmm hcs e1 e2 hi hi0 hi1 hi2 hmk hfd
  go_enter Tryz.func163, Tryz.ntmps163
  go_wp2_with (first
    | (go_at_call 167; (with_reducible refine (CY.out).mono ?_); rintro e w1 ⟨g, rfl, hm1, hg1, hb1⟩; have HV1 := Lib.hid ((Have.nil w).push (midT g cs) hb1 hm1 (fun k hk => by subst hk; exact hg1)); clear hm1 hg1 hb1; have c0 := cell_up c0w HV1.out.below)
    | (go_at_call 132; (with_reducible refine (RW.out _ (pg_up HG.out HV1.out.below)).mono ?_); rintro e w2 ⟨rfl, hb⟩; have HV2 := Lib.hid (HV1.out.up hb); clear hb c0)
    | (go_at_call 58; (with_reducible refine (NW.out _).mono ?_); rintro e w3 ⟨tp, TF0, rfl, h1, h2, hb⟩; have HV3 := Lib.hid (HV2.out.push (pgT tp TF0 m 1 (trialL L cs m 0)) hb h1 h2); clear h1 h2 hb))
  go_loopw [29] (fun iv wr => ∃ (r : Nat) (TF : Nat → Prop), r ≤ m ∧ iv = .int .i64 r ∧ Have w wr [pgT tp TF m 1 (trialL L cs m r), midT g cs]) (fun iv _ => m - (intOf iv).toNat)
  case atStart => exact ⟨0, TF0, Nat.zero_le _, rfl, HV3.out⟩
  case round =>
    obtain ⟨r, TF, hr, rfl, hv⟩ := hrel
    have HVr := Lib.hid hv
    clear hv
    have c0 := cell_up c0w HVr.out.below
    by_cases hrm : r < m
    · obtain ⟨v, hv1⟩ : ∃ v, cs[r]? = some v := ⟨_, List.getElem?_eq_getElem (by rw [HCL.out]; exact hrm)⟩
      have hcv := (midI HVr.out.i1).cell hv1
      have hvb := HIN.out v (List.mem_of_getElem? hv1)
      have hna := NA.out r v hv1
      have hab := HAB.out (r : Int) v
      obtain ⟨x, hx⟩ : ∃ x, at2 L (r : Int) v = x := ⟨_, rfl⟩
      rw [hx] at hna hab
      have hnb := NB.out r x hrm hna
      have CA := Lib.hid (fun w' hb => AT.out (r : Int) v w' (pg_up HG.out hb) (by omega) (by omega) hvb.1 hvb.2)
      rw [hx] at CA
      have CPT := Lib.hid (fun w' hp => put_any tp TF m 1 (trialL L cs m r) (r : Int) 0 x w' hp (by omega) (by omega) (by omega) (by omega) hab.1 hab.2)
      rw [hnb] at CPT
      obtain ⟨bb, hbb⟩ : ∃ bb, in2 (trialL L cs m r) (r : Int) 0 = bb := ⟨_, rfl⟩
      rw [hbb] at CPT
      obtain ⟨ga, hga⟩ : ∃ ga : Addr, (⟨g, 0, none⟩ : Addr) = ga := ⟨_, rfl⟩
      rw [← Ord.add_at, hga] at hcv
      rw [hga]
      have hrm2 : (r : Int) < (m : Int) := by omega
      clear hx hna hnb hab hvb hv1 hbb
      go_wp2_with (first
        | (go_at_call 135; (with_reducible refine (CA.out _ (below_call HVr.out.below (by repeat' (first | (with_reducible exact Below.refl _ _) | (with_reducible assumption) | (with_reducible refine below_over ?_ _ _) | (with_reducible refine Lw.below_alloc ?_ _) | (with_reducible refine Below.drew ?_) | (with_reducible refine below_drewN ?_ _) | (with_reducible refine Below.setCell ?_ ?_ _) | go_size)) (Nat.le_refl _))).mono ?_); rintro e w5 ⟨rfl, hb⟩; have HV5 := Lib.hid (HVr.out.up hb); clear hb)
        | (go_at_call 123; (with_reducible refine (CPT.out _ (pgI HV5.out.i0)).mono ?_); rintro e w6 ⟨rfl, T6, h1, h2, h3⟩; have HV6 := Lib.hid (HV5.out.turn_0 (pgT tp T6 m 1 (trialL L cs m (r + 1))) h1 h2 h3); clear h1 h2 h3))
      go_roundw
      case rel => exact ⟨r + 1, T6, by omega, by go_num, HV6.out⟩
      case measure => simp [intOf]; omega
    · have e : r = m := by omega
      subst e
      have hlt3 : ¬ (r : Int) < (r : Int) := by omega
      have TLT := Lib.hid (fun q (hq : TF q) => (pgT tp TF _ _ _).lt wr HVr.out.i0 q hq)
      have hmk := HMK.out
      have hfd := HFD.out
      clear hrm
      go_upto_region 10 with fail
      go_region_held3 (fun w' => w'.cell? ⟨b, 0, none⟩ = some (.pointer (some gp))) (first | (with_reducible assumption) | (with_reducible refine cell_up c0 ?_ <;> (repeat' (first | (with_reducible exact Below.refl _ _) | (with_reducible assumption) | (with_reducible refine below_over ?_ _ _) | (with_reducible refine Lw.below_alloc ?_ _) | (with_reducible refine Below.drew ?_) | (with_reducible refine below_drewN ?_ _) | (with_reducible refine Below.setCell ?_ ?_ _) | go_size)))) (first
        | (go_at_call 75; (with_reducible refine (WY.out _ (below_call HVr.out.below (by repeat' (first | (with_reducible exact Below.refl _ _) | (with_reducible assumption) | (with_reducible refine below_over ?_ _ _) | (with_reducible refine Lw.below_alloc ?_ _) | (with_reducible refine Below.drew ?_) | (with_reducible refine below_drewN ?_ _) | (with_reducible refine Below.setCell ?_ ?_ _) | go_size)) (Nat.le_refl _))).mono ?_); rintro e w' ⟨rfl, hb2⟩; obtain ⟨bs, d2, rfl⟩ := below_grow hb2; clear hb2)
        | (go_at_call 107; (with_reducible refine (CH.out tp TF _ _ (pg_up (pgI HVr.out.i0) (by repeat' (first | (with_reducible exact Below.refl _ _) | (with_reducible assumption) | (with_reducible refine below_over ?_ _ _) | (with_reducible refine Lw.below_alloc ?_ _) | (with_reducible refine Below.drew ?_) | (with_reducible refine below_drewN ?_ _) | (with_reducible refine Below.setCell ?_ ?_ _) | go_size))) (by first | exact made_rd (by first | rfl | (simp; done)) | exact (made_rd (by first | rfl | (simp; done))).up (by repeat' (first | (with_reducible exact Below.refl _ _) | (with_reducible assumption) | (with_reducible refine below_over ?_ _ _) | (with_reducible refine Lw.below_alloc ?_ _) | (with_reducible refine Below.drew ?_) | (with_reducible refine below_drewN ?_ _) | (with_reducible refine Below.setCell ?_ ?_ _) | go_size))) (fun a ha hq => by injection ha with ha; subst ha; have := TLT.out _ hq; simp at this <;> omega)).mono ?_); rintro e w6 ⟨rfl, T6, h1, h2, h3⟩; have HV6 := Lib.hid ((HVr.out.up (by repeat' (first | (with_reducible exact Below.refl _ _) | (with_reducible assumption) | (with_reducible refine below_over ?_ _ _) | (with_reducible refine Lw.below_alloc ?_ _) | (with_reducible refine Below.drew ?_) | (with_reducible refine below_drewN ?_ _) | (with_reducible refine Below.setCell ?_ ?_ _) | go_size))).turn_0 (pgT tp T6 _ _ _) h1 h2 h3); have x0 := cell_up c0w HV6.out.below; clear h1 h2 h3 c0; have c0 := x0; clear x0))
      all_goals go_wp2
      all_goals go_ret
      all_goals exact ⟨rfl, HV6.out.below⟩
/-- Check tells what Update would answer. -/
theorem scheck_any (p : Addr) (F : Nat → Prop) (c : Cfg) (l : Int) (L : List (List Int)) (k d : Int) (w : World) (h : SK w p F c l L) (k0 : 0 ≤ k) (k1 : k ≤ 18446744073709551615) (d0 : -9223372036854775808 ≤ d) (d1 : d ≤ 9223372036854775807) :
    Calls Tryz.prog 163 #[.pointer (some p), .int .u64 k, .int .i64 d] w fun e w' => e = .returned (.int .i64 (upCode c l L k d)) ∧ Below w.heap.size w w' := by
  unfold upCode
  by_cases hk : keys c l ≤ k
  · rw [if_pos hk]
    exact scheck_no p F c l L k d w h k0 k1 hk
  rw [if_neg hk]
  have hr := h.1
  have h3 : c.md = 1 ∨ c.md = 2 ∨ c.md = 3 := by have := hr.2.2.2.2.2.2; omega
  rcases h3 with h3 | h3 | h3
  · rw [if_neg (by omega)]; exact scheck_lin p F c l L k d w h k0 k1 d0 d1 (by omega) h3
  · rw [if_pos h3]; exact scheck_con p F c l L k d w h k0 k1 d0 d1 (by omega) h3
  · rw [if_neg (by omega)]; exact scheck_med p F c l L k d w h k0 k1 d0 d1 (by omega) h3
end Go.Proofs.YtkannodfamnmcaaGreat.Sk
/- Sums of products, in numbers; the least product of rows. For stages from 11 on. -/
namespace Go.Proofs.YtkannodfamnmcaaGreat.Inn
open Go Go.RowKit
set_option linter.unusedVariables false
def dsum : List Int → List Int → Int
  | x :: xs, y :: ys => x * y + dsum xs ys
  | _, _ => 0
theorem dsum_l (ys : List Int) : dsum [] ys = 0 := by cases ys <;> rfl
theorem dsum_r (xs : List Int) : dsum xs [] = 0 := by cases xs <;> rfl
def dp (xs ys : List Int) (k : Nat) : Int := dsum (xs.take k) (ys.take k)
theorem dp_0 (xs ys : List Int) : dp xs ys 0 = 0 := by unfold dp; simp [dsum]
theorem dp_next : ∀ {xs ys : List Int} {k : Nat} {x y : Int}, xs[k]? = some x → ys[k]? = some y → dp xs ys (k + 1) = dp xs ys k + x * y
  | [], ys, k, x, y, h, _ => by simp at h
  | a :: xs, [], k, x, y, _, h => by simp at h
  | a :: xs, b :: ys, 0, x, y, h, g => by
    simp at h g
    subst h g
    unfold dp
    simp [dsum, dsum_l]
  | a :: xs, b :: ys, k + 1, x, y, h, g => by
    have ih := dp_next (xs := xs) (ys := ys) (k := k) (x := x) (y := y) (by simpa using h) (by simpa using g)
    unfold dp at ih ⊢
    simp only [List.take_succ_cons, dsum, ih]
    omega
theorem dp_all {xs ys : List Int} {k : Nat} (h : xs.length ≤ k) (g : ys.length ≤ k) : dp xs ys k = dsum xs ys := by
  unfold dp
  rw [List.take_of_length_le h, List.take_of_length_le g]
def dok (xs ys : List Int) : Bool := decide (xs.length = ys.length) && (List.range (xs.length + 1)).all (fun k => Wid.fit (dp xs ys k))
def dhi (xs ys : List Int) : Int := if dok xs ys = true then Wid.fh (dsum xs ys) else 0
def dlo (xs ys : List Int) : Int := if dok xs ys = true then Wid.fl (dsum xs ys) else 0
theorem dok_fit {xs ys : List Int} (h : dok xs ys = true) : xs.length = ys.length ∧ ∀ k, k ≤ xs.length → Wid.fit (dp xs ys k) = true := by
  unfold dok at h
  simp only [Bool.and_eq_true, decide_eq_true_eq, List.all_eq_true, List.mem_range] at h
  exact ⟨h.1, fun k hk => h.2 k (by omega)⟩
theorem dok_yes {xs ys : List Int} (hl : xs.length = ys.length) (h : ∀ k, k ≤ xs.length → Wid.fit (dp xs ys k) = true) : dok xs ys = true ∧ dhi xs ys = Wid.fh (dsum xs ys) ∧ dlo xs ys = Wid.fl (dsum xs ys) := by
  have e : dok xs ys = true := by
    unfold dok
    simp only [Bool.and_eq_true, decide_eq_true_eq, List.all_eq_true, List.mem_range]
    exact ⟨hl, fun k hk => h k (by omega)⟩
  exact ⟨e, if_pos e, if_pos e⟩
theorem dok_false {xs ys : List Int} (h : dok xs ys = false) : dhi xs ys = 0 ∧ dlo xs ys = 0 := by
  unfold dhi dlo
  rw [h]
  exact ⟨rfl, rfl⟩
theorem dok_no {xs ys : List Int} {k : Nat} (hk : k ≤ xs.length) (h : Wid.fit (dp xs ys k) = false) : dok xs ys = false ∧ dhi xs ys = 0 ∧ dlo xs ys = 0 := by
  have e : dok xs ys = false := by
    cases g : dok xs ys with
    | false => rfl
    | true => rw [(dok_fit g).2 k hk] at h; cases h
  exact ⟨e, dok_false e⟩
theorem dok_ne {xs ys : List Int} (hl : xs.length ≠ ys.length) : dok xs ys = false ∧ dhi xs ys = 0 ∧ dlo xs ys = 0 := by
  have e : dok xs ys = false := by
    cases g : dok xs ys with
    | false => rfl
    | true => exact absurd (dok_fit g).1 hl
  exact ⟨e, dok_false e⟩
theorem dhi_bd (xs ys : List Int) : -9223372036854775808 ≤ dhi xs ys ∧ dhi xs ys ≤ 9223372036854775807 := by
  unfold dhi
  split
  · exact Wid.fh_bd _
  · omega
theorem dlo_bd (xs ys : List Int) : 0 ≤ dlo xs ys ∧ dlo xs ys ≤ 18446744073709551615 := by
  unfold dlo
  split
  · exact Wid.fl_bd _
  · omega
theorem prod_bd {x y : Int} (hx : -9223372036854775808 ≤ x ∧ x ≤ 9223372036854775807) (hy : -9223372036854775808 ≤ y ∧ y ≤ 9223372036854775807) : -85070591730234615865843651857942052864 ≤ x * y ∧ x * y ≤ 85070591730234615865843651857942052864 := by
  have h : (x * y).natAbs ≤ 9223372036854775808 * 9223372036854775808 := by
    rw [Int.natAbs_mul]
    exact Nat.mul_le_mul (by omega) (by omega)
  omega
theorem fit_bd {z : Int} (h : Wid.fit z = true) : -170141183460469231731687303715884105728 ≤ z ∧ z < 170141183460469231731687303715884105728 := of_decide_eq_true h
theorem dsum_comm : ∀ xs ys : List Int, dsum xs ys = dsum ys xs
  | [], ys => by rw [dsum_l, dsum_r]
  | x :: xs, [] => rfl
  | x :: xs, y :: ys => by simp only [dsum, dsum_comm xs ys, Int.mul_comm]
theorem dp_comm (xs ys : List Int) (k : Nat) : dp xs ys k = dp ys xs k := dsum_comm _ _
theorem dsum_bd {a b : Int} (ha : 0 ≤ a) (hb : 0 ≤ b) : ∀ {xs ys : List Int}, (∀ x ∈ xs, -a ≤ x ∧ x ≤ a) → (∀ y ∈ ys, -b ≤ y ∧ y ≤ b) → -(xs.length * (a * b)) ≤ dsum xs ys ∧ dsum xs ys ≤ xs.length * (a * b)
  | [], ys, _, _ => by rw [dsum_l]; simp
  | x :: xs, [], _, _ => by
    have h1 : 0 ≤ ((x :: xs).length : Int) * (a * b) := Int.mul_nonneg (by omega) (Int.mul_nonneg ha hb)
    simp only [dsum]
    omega
  | x :: xs, y :: ys, hx, hy => by
    have ih := dsum_bd ha hb (xs := xs) (ys := ys) (fun v hv => hx v (by simp [hv])) (fun v hv => hy v (by simp [hv]))
    have h1 := hx x (by simp)
    have h2 := hy y (by simp)
    have h3 : (x * y).natAbs ≤ a.natAbs * b.natAbs := by
      rw [Int.natAbs_mul]
      exact Nat.mul_le_mul (by omega) (by omega)
    have h4 : ((a.natAbs * b.natAbs : Nat) : Int) = a * b := by
      rw [Int.natCast_mul, Int.natAbs_of_nonneg ha, Int.natAbs_of_nonneg hb]
    have e1 : ((x :: xs).length : Int) * (a * b) = (xs.length : Int) * (a * b) + a * b := by
      have e1 : ((x :: xs).length : Int) = (xs.length : Int) + 1 := by simp
      rw [e1, Int.add_mul, Int.one_mul]
    rw [e1]
    simp only [dsum]
    omega
/-- Where all fits, of numbers that are small. -/
theorem dok_small {a b : Int} (ha : 0 ≤ a) (hb : 0 ≤ b) {xs ys : List Int} (hl : xs.length = ys.length) (hx : ∀ x ∈ xs, -a ≤ x ∧ x ≤ a) (hy : ∀ y ∈ ys, -b ≤ y ∧ y ≤ b) (h : (xs.length : Int) * (a * b) < 170141183460469231731687303715884105728) :
    dok xs ys = true ∧ dhi xs ys = Wid.fh (dsum xs ys) ∧ dlo xs ys = Wid.fl (dsum xs ys) := by
  refine dok_yes hl fun k hk => ?_
  have h1 := dsum_bd ha hb (xs := xs.take k) (ys := ys.take k) (fun v hv => hx v (List.mem_of_mem_take hv)) (fun v hv => hy v (List.mem_of_mem_take hv))
  have h2 : ((xs.take k).length : Int) * (a * b) ≤ (xs.length : Int) * (a * b) := Int.mul_le_mul_of_nonneg_right (by simp; omega) (Int.mul_nonneg ha hb)
  exact (Wid.fit_yes (by unfold dp; omega) (by unfold dp; omega)).1
/-! ### The least of the rows -/
def lmin : List Int → Int
  | [] => 0
  | x :: xs => xs.foldl min x
theorem lmin_next {zs : List Int} {k : Nat} {z : Int} (h : zs[k]? = some z) (hk : 1 ≤ k) : lmin (zs.take (k + 1)) = min (lmin (zs.take k)) z := by
  obtain ⟨h1, h2⟩ := List.getElem?_eq_some_iff.1 h
  rw [List.take_succ_eq_append_getElem h1, h2]
  match zs, k, hk with
  | [], k, _ => simp at h1
  | x :: zs, k + 1, _ => simp [lmin, List.foldl_append]
theorem lmin_one {zs : List Int} {z : Int} (h : zs[0]? = some z) : lmin (zs.take 1) = z := by
  match zs with
  | [] => simp at h
  | x :: zs => simpa [lmin] using h
theorem foldl_min_eq {v : Int} : ∀ (xs : List Int) (x : Int), v ≤ x → (∀ y ∈ xs, v ≤ y) → (v = x ∨ v ∈ xs) → xs.foldl min x = v
  | [], x, h0, _, h => by simpa using h.elim (fun e => e.symm) (fun h => by simp at h)
  | y :: xs, x, h0, h1, h => by
    have h2 := h1 y (by simp)
    simp only [List.foldl_cons]
    by_cases hv : v = min x y
    · exact foldl_min_eq xs _ (by omega) (fun z hz => h1 z (by simp [hz])) (.inl hv)
    · refine foldl_min_eq xs _ (by omega) (fun z hz => h1 z (by simp [hz])) (.inr ?_)
      rcases h with h | h
      · omega
      · rcases List.mem_cons.1 h with h | h
        · omega
        · exact h
theorem lmin_eq {zs : List Int} {v : Int} (h1 : v ∈ zs) (h2 : ∀ y ∈ zs, v ≤ y) : lmin zs = v := by
  match zs with
  | [] => simp at h1
  | x :: zs => exact foldl_min_eq zs x (h2 x (by simp)) (fun y hy => h2 y (by simp [hy])) (by simpa using h1)
/-- The products of the rows. -/
def dots (L M : List (List Int)) : List Int := List.zipWith dsum L M
theorem dots_get {L M : List (List Int)} {k : Nat} {xs ys : List Int} (h : L[k]? = some xs) (g : M[k]? = some ys) : (dots L M)[k]? = some (dsum xs ys) := by
  unfold dots
  rw [List.getElem?_zipWith, h, g]
theorem dots_len {L M : List (List Int)} (h : L.length = M.length) : (dots L M).length = L.length := by
  unfold dots
  rw [List.length_zipWith, h]
  omega
def oks (L M : List (List Int)) : Bool := (List.zipWith dok L M).all id
theorem oks_get {L M : List (List Int)} (h : oks L M = true) {k : Nat} {xs ys : List Int} (h1 : L[k]? = some xs) (h2 : M[k]? = some ys) : dok xs ys = true := by
  unfold oks at h
  rw [List.all_eq_true] at h
  have hm : dok xs ys ∈ List.zipWith dok L M := List.mem_of_getElem? (i := k) (by rw [List.getElem?_zipWith, h1, h2])
  exact h (dok xs ys) hm
theorem oks_no {L M : List (List Int)} {k : Nat} {xs ys : List Int} (h1 : L[k]? = some xs) (h2 : M[k]? = some ys) (h : dok xs ys = false) : oks L M = false := by
  cases g : oks L M with
  | false => rfl
  | true => rw [oks_get g h1 h2] at h; cases h
theorem oks_yes {L M : List (List Int)} (hl : L.length = M.length) (h : ∀ (k : Nat) (xs ys : List Int), L[k]? = some xs → M[k]? = some ys → dok xs ys = true) : oks L M = true := by
  unfold oks
  rw [List.all_eq_true]
  intro b hb
  obtain ⟨k, hk⟩ := List.getElem?_of_mem hb
  rw [List.getElem?_zipWith] at hk
  split at hk
  · rename_i x y h1 h2
    injection hk with hk
    subst hk
    exact h _ _ _ h1 h2
  · cases hk
end Go.Proofs.YtkannodfamnmcaaGreat.Inn
/- The walks of the code's sums of products: inner.Dot. Printed by wip/gen/inn.py. -/
namespace Go.Proofs.YtkannodfamnmcaaGreat.Inn
open Go Go.RowKit Lw
set_option linter.unusedVariables false
set_option linter.unusedSimpArgs false
theorem idot_ne (A B : Option Addr) (n m ca cb : Nat) (xs ys : List Int) (w : World) (hlx : xs.length = n) (hly : ys.length = m) (hne : n ≠ m) :
    Calls Tryz.prog 82 #[.slice A n ca, .slice B m cb] w fun e w' => e = .returned (.tuple #[.agg #[.int .i64 (dhi xs ys), .int .u64 (dlo xs ys)], .bool (dok xs ys)]) ∧ Below w.heap.size w w' := by
  have h := dok_ne (xs := xs) (ys := ys) (by omega)
  have hb : ((n : Int) != (m : Int)) = true := by simp; omega
  rw [h.1, h.2.1, h.2.2]
  clear h
  go_enter Tryz.func82, Tryz.ntmps82
  go_wp2
  go_returns
  exact ⟨rfl, by (repeat' (first | (with_reducible exact Below.refl _ _) | (with_reducible assumption) | (with_reducible refine below_over ?_ _ _) | (with_reducible refine Lw.below_alloc ?_ _) | (with_reducible refine Below.drew ?_) | (with_reducible refine below_drewN ?_ _) | (with_reducible refine Below.setCell ?_ ?_ _) | go_size))⟩
set_option maxRecDepth 100000 in
set_option maxHeartbeats 4000000 in
theorem idot_eq (A B : Option Addr) (n ca cb : Nat) (xs ys : List Int) (w : World) (hx : Rd .i64 w A xs) (hy : Rd .i64 w B ys) (hlx : xs.length = n) (hly : ys.length = n) (hn : n ≤ 1000) (hzx : In64 xs) (hzy : In64 ys) :
    Calls Tryz.prog 82 #[.slice A n ca, .slice B n cb] w fun e w' => e = .returned (.tuple #[.agg #[.int .i64 (dhi xs ys), .int .u64 (dlo xs ys)], .bool (dok xs ys)]) ∧ Below w.heap.size w w' := by
  have HX := Lib.hid hx
  have HY := Lib.hid hy
  have HLX := Lib.hid hlx
  have HLY := Lib.hid hly
  have HZX := Lib.hid hzx
  have HZY := Lib.hid hzy
  clear hx hy hlx hly hzx hzy
  go_enter Tryz.func82, Tryz.ntmps82
  go_wp2
  go_loopw [19] (fun i wr => ∃ k : Nat, k ≤ n ∧ i = .int .i64 k ∧ Below w.heap.size w wr ∧ (∀ j, j ≤ k → Wid.fit (dp xs ys j) = true) ∧ wr.cell? ⟨w.heap.size, 0, none⟩ = some (.int .i64 0) ∧ wr.cell? ⟨w.heap.size, 1, none⟩ = some (.int .u64 0) ∧ wr.frozen? ⟨w.heap.size, 0, none⟩ = false ∧ wr.frozen? ⟨w.heap.size, 1, none⟩ = false ∧ wr.cell? ⟨w.heap.size + 1, 0, none⟩ = some (.int .i64 (Wid.fh (dp xs ys k))) ∧ wr.cell? ⟨w.heap.size + 1, 1, none⟩ = some (.int .u64 (Wid.fl (dp xs ys k))) ∧ wr.frozen? ⟨w.heap.size + 1, 0, none⟩ = false ∧ wr.frozen? ⟨w.heap.size + 1, 1, none⟩ = false) (fun i _ => n - (intOf i).toNat)
  case atStart =>
    refine ⟨0, Nat.zero_le _, rfl, by (repeat' (first | (with_reducible exact Below.refl _ _) | (with_reducible assumption) | (with_reducible refine below_over ?_ _ _) | (with_reducible refine Lw.below_alloc ?_ _) | (with_reducible refine Below.drew ?_) | (with_reducible refine below_drewN ?_ _) | (with_reducible refine Below.setCell ?_ ?_ _) | go_size)), ?_, ?_, ?_, ?_, ?_, ?_, ?_, ?_, ?_⟩
    · intro j hj
      obtain rfl : j = 0 := by omega
      rw [dp_0]
      decide
    all_goals (try rw [dp_0])
    all_goals simp [go_sem, Wid.fh, Wid.fl, Wid.fit]
  case round =>
    obtain ⟨k, hk, rfl, hbel, hfit, r0, r1, q0, q1, s0, s1, p0, p1⟩ := hrel
    have hfk := hfit k (Nat.le_refl _)
    obtain ⟨s, hs⟩ : ∃ s, dp xs ys k = s := ⟨_, rfl⟩
    rw [hs] at s0 s1 hfk
    have hsb := fit_bd hfk
    have HF := Lib.hid hfit
    have hz1 := Lw.cell_lt r0
    have hz2 := Lw.cell_lt s0
    simp only at hz1 hz2
    have lz1 : ∀ x : Nat, w.heap.size < wr.heap.size + x := fun x => by omega
    have lz2 : ∀ x : Nat, w.heap.size + 1 < wr.heap.size + x := fun x => by omega
    by_cases hlt : k < n
    · skip
      have hk1 : k < xs.length := by have := HLX.out; omega
      have hk2 : k < ys.length := by have := HLY.out; omega
      obtain ⟨x, hvx⟩ : ∃ x, xs[k]? = some x := ⟨_, List.getElem?_eq_getElem hk1⟩
      obtain ⟨y, hvy⟩ : ∃ y, ys[k]? = some y := ⟨_, List.getElem?_eq_getElem hk2⟩
      have hbx := HZX.out.at hvx
      have hby := HZY.out.at hvy
      have hnext := dp_next hvx hvy
      obtain ⟨ad, rfl, hcx⟩ := HX.out k x hvx
      obtain ⟨bd, rfl, hcy⟩ := HY.out k y hvy
      have cx : wr.cell? (ad.add k) = some (.int .i64 x) := by rw [hbel.cell (Lw.cell_lt hcx)]; exact hcx
      have cy : wr.cell? (bd.add k) = some (.int .i64 y) := by rw [hbel.cell (Lw.cell_lt hcy)]; exact hcy
      have hpb := prod_bd hbx hby
      rw [hs] at hnext
      obtain ⟨p, hp⟩ : ∃ p, x * y = p := ⟨_, rfl⟩
      rw [hp] at hnext hpb
      have hvs := Wid.vl_fit s (by omega) (by omega)
      have hvp := Wid.vl_fit p (by omega) (by omega)
      have hev : Wid.vl (Wid.fh s) (Wid.fl s) + Wid.vl (Wid.fh p) (Wid.fl p) = s + p := by rw [hvs, hvp]
      obtain ⟨z, hz⟩ : ∃ z, s + p = z := ⟨_, rfl⟩
      rw [hz] at hnext hev
      have HN := Lib.hid hnext
      have CT := Lib.hid (fun w => Wid.times_any x y w hbx.1 hbx.2 hby.1 hby.2)
      rw [hp] at CT
      have CA := Lib.hid (fun w => Wid.add_any _ _ _ _ w (Wid.fh_bd s).1 (Wid.fh_bd s).2 (Wid.fl_bd s).1 (Wid.fl_bd s).2 (Wid.fh_bd p).1 (Wid.fh_bd p).2 (Wid.fl_bd p).1 (Wid.fl_bd p).2)
      rw [hev] at CA
      obtain ⟨fhs, hfhs⟩ : ∃ v, Wid.fh s = v := ⟨_, rfl⟩
      obtain ⟨fls, hfls⟩ : ∃ v, Wid.fl s = v := ⟨_, rfl⟩
      obtain ⟨fhp, hfhp⟩ : ∃ v, Wid.fh p = v := ⟨_, rfl⟩
      obtain ⟨flp, hflp⟩ : ∃ v, Wid.fl p = v := ⟨_, rfl⟩
      obtain ⟨fhz, hfhz⟩ : ∃ v, Wid.fh z = v := ⟨_, rfl⟩
      obtain ⟨flz, hflz⟩ : ∃ v, Wid.fl z = v := ⟨_, rfl⟩
      obtain ⟨b, hb⟩ : ∃ v, Wid.fit z = v := ⟨_, rfl⟩
      rw [hfhs, hfls, hfhp, hflp, hfhz, hflz, hb] at CA
      rw [hfhp, hflp] at CT
      rw [hfhs] at s0
      rw [hfls] at s1
      have HB := Lib.hid hb
      have HZ := Lib.hid (And.intro hfhz hflz)
      clear hfhs hfls hfhp hflp hfhz hflz hz hev hvs hvp hnext hp hpb hbx hby hvx hvy hk2 hfit hfk hsb hs hcx hcy
      have HNO : Hid (b = false → dok xs ys = false ∧ dhi xs ys = 0 ∧ dlo xs ys = 0) := Lib.hid (fun hb2 => dok_no (xs := xs) (ys := ys) (k := k + 1) hk1 (by rw [HN.out, hb, hb2]))
      clear hb hk1
      cases b with
      | true =>
        go_wp2_with fail
        go_region_held3 (fun w' => w'.cell? ⟨w.heap.size + 1, 0, none⟩ = some (.int .i64 fhs) ∧ w'.cell? ⟨w.heap.size + 1, 1, none⟩ = some (.int .u64 fls) ∧ w'.cell? (bd.add k) = some (.int .i64 y)) (first | (refine ⟨?_, ?_, ?_⟩ <;> (first | (with_reducible assumption) | (with_reducible refine cell_up s0 ?_) | (with_reducible refine cell_up s1 ?_) | (with_reducible refine cell_up cy ?_)) <;> (repeat' (first | (with_reducible exact Below.refl _ _) | (with_reducible assumption) | (with_reducible refine below_over ?_ _ _) | (with_reducible refine Lw.below_alloc ?_ _) | (with_reducible refine Below.drew ?_) | (with_reducible refine below_drewN ?_ _) | (with_reducible refine Below.setCell ?_ ?_ _) | go_size)))) (first
          | (go_at_call 112; (with_reducible refine (CT.out _).mono ?_); rintro e w' ⟨rfl, hb⟩; obtain ⟨bs, d, rfl⟩ := below_grow hb; clear hb)
          | (go_at_call 111; (with_reducible refine (CA.out _).mono ?_); rintro e w' ⟨rfl, hb⟩; obtain ⟨bs2, d2, rfl⟩ := below_grow hb; clear hb))
        all_goals
         go_wp2
         go_roundw
         case rel =>
           refine ⟨k + 1, by omega, by go_num, by (repeat' (first | (with_reducible exact Below.refl _ _) | (with_reducible assumption) | (with_reducible refine below_over ?_ _ _) | (with_reducible refine Lw.below_alloc ?_ _) | (with_reducible refine Below.drew ?_) | (with_reducible refine below_drewN ?_ _) | (with_reducible refine Below.setCell ?_ ?_ _) | go_size)), ?_, ?_, ?_, ?_, ?_, ?_, ?_, ?_, ?_⟩
           · intro j hj
             rcases Nat.lt_or_ge k j with h1 | h1
             · obtain rfl : j = k + 1 := by omega
               rw [HN.out]
               exact HB.out
             · exact HF.out j h1
           all_goals (try rw [HN.out])
           all_goals (try rw [HZ.out.1])
           all_goals (try rw [HZ.out.2])
           all_goals simp [go_sem, r0, r1, q0, q1, s0, s1, p0, p1, lz1, lz2, hz1, hz2]
         case measure => simp [intOf]; omega
      | false =>
        have HN2 := Lib.hid (HNO.out rfl)
        clear HNO
        go_wp2_with fail
        go_region_held3 (fun w' => w'.cell? ⟨w.heap.size + 1, 0, none⟩ = some (.int .i64 fhs) ∧ w'.cell? ⟨w.heap.size + 1, 1, none⟩ = some (.int .u64 fls) ∧ w'.cell? (bd.add k) = some (.int .i64 y)) (first | (refine ⟨?_, ?_, ?_⟩ <;> (first | (with_reducible assumption) | (with_reducible refine cell_up s0 ?_) | (with_reducible refine cell_up s1 ?_) | (with_reducible refine cell_up cy ?_)) <;> (repeat' (first | (with_reducible exact Below.refl _ _) | (with_reducible assumption) | (with_reducible refine below_over ?_ _ _) | (with_reducible refine Lw.below_alloc ?_ _) | (with_reducible refine Below.drew ?_) | (with_reducible refine below_drewN ?_ _) | (with_reducible refine Below.setCell ?_ ?_ _) | go_size)))) (first
          | (go_at_call 112; (with_reducible refine (CT.out _).mono ?_); rintro e w' ⟨rfl, hb⟩; obtain ⟨bs, d, rfl⟩ := below_grow hb; clear hb)
          | (go_at_call 111; (with_reducible refine (CA.out _).mono ?_); rintro e w' ⟨rfl, hb⟩; obtain ⟨bs2, d2, rfl⟩ := below_grow hb; clear hb))
        all_goals go_wp2
        all_goals refine bodyPost_ret (v := .tuple #[.agg #[.int .i64 0, .int .u64 0], .bool false]) (by simp [results, Tryz.results82, go_sem, r0, r1, q0, q1, lz1, hz1]) rfl ?_
        all_goals exact ⟨by rw [HN2.out.1, HN2.out.2.1, HN2.out.2.2], by (repeat' (first | (with_reducible exact Below.refl _ _) | (with_reducible assumption) | (with_reducible refine below_over ?_ _ _) | (with_reducible refine Lw.below_alloc ?_ _) | (with_reducible refine Below.drew ?_) | (with_reducible refine below_drewN ?_ _) | (with_reducible refine Below.setCell ?_ ?_ _) | go_size))⟩
    · have e : k = n := by omega
      subst e
      have h1 := dok_yes (xs := xs) (ys := ys) (by rw [HLX.out, HLY.out]) (by rw [HLX.out]; exact hfit)
      rw [← dp_all (xs := xs) (ys := ys) (k := k) (by rw [HLX.out]; omega) (by rw [HLY.out]; omega), hs] at h1
      obtain ⟨fhs, hfhs⟩ : ∃ v, Wid.fh s = v := ⟨_, rfl⟩
      obtain ⟨fls, hfls⟩ : ∃ v, Wid.fl s = v := ⟨_, rfl⟩
      rw [hfhs] at s0 h1
      rw [hfls] at s1 h1
      have H1 := Lib.hid h1
      clear h1 hfhs hfls hsb hs hfk hfit
      go_wp2
      refine bodyPost_ret (v := .tuple #[.agg #[.int .i64 fhs, .int .u64 fls], .bool true]) (by simp [results, Tryz.results82, go_sem, r0, r1, q0, q1, lz1, hz1]) rfl ?_
      exact ⟨by rw [H1.out.1, H1.out.2.1, H1.out.2.2], by (repeat' (first | (with_reducible exact Below.refl _ _) | (with_reducible assumption) | (with_reducible refine below_over ?_ _ _) | (with_reducible refine Lw.below_alloc ?_ _) | (with_reducible refine Below.drew ?_) | (with_reducible refine below_drewN ?_ _) | (with_reducible refine Below.setCell ?_ ?_ _) | go_size))⟩
theorem idot_any (A B : Option Addr) (n m ca cb : Nat) (xs ys : List Int) (w : World) (hx : Rd .i64 w A xs) (hy : Rd .i64 w B ys) (hlx : xs.length = n) (hly : ys.length = m) (hn : n ≤ 1000) (hzx : In64 xs) (hzy : In64 ys) :
    Calls Tryz.prog 82 #[.slice A n ca, .slice B m cb] w fun e w' => e = .returned (.tuple #[.agg #[.int .i64 (dhi xs ys), .int .u64 (dlo xs ys)], .bool (dok xs ys)]) ∧ Below w.heap.size w w' := by
  by_cases h : n = m
  · subst h
    exact idot_eq A B n ca cb xs ys w hx hy hlx hly hn hzx hzy
  · exact idot_ne A B n m ca cb xs ys w hlx hly h
end Go.Proofs.YtkannodfamnmcaaGreat.Inn
