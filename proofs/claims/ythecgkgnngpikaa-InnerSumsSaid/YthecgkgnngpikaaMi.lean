/- Texts that the statements of this seat lean on, put together: InnFed, InnSumM, UpT, InnPlain. -/
import Derived.Test.YthecgkgnngpikaaMa
import Derived.Test.YthecgkgnngpikaaMg
import Derived.Test.YthecgkgnngpikaaMh
import Derived.Deep.LoopGhost
import Derived.Deep.RegionHeld3
import Derived.Deep.DeepCutAuto
import Derived.Deep.QuietTactic
import Derived.BigQuiet
/- The parameter of layer 11 opened; updates that are cut; the products of two such sketches. Printed by wip/gen/innfed.py. -/
namespace Go.Proofs.Ythecgkgnngpikaa.Inn
open Go Go.RowKit Lw Grd Lin Con Shp Sk
set_option linter.unusedVariables false
set_option linter.unusedSimpArgs false
theorem open_two_c : Try.prog.cellsOf 34 = 8 := by kernel_rfl
set_option maxRecDepth 100000 in
theorem open_two {H : Type} {enc : TypeId × Value → H} {w : World} {v : Value} {d : DataW H} {p : List MemPlace} {base : Nat} (hv : Value.okWide Try.prog w .any base 34 v)
    (h : DataW.Trod enc Try.prog w 0 (fun _ => true) true 34 v d p) :
    ∃ (c : Cfg) (lv : Int) (A : Option Addr) (n k : Nat) (qs : Ups) (B : Option Addr) (n2 k2 : Nat) (ps : Ups), v = .agg #[.int .i64 c.bt, .int .i64 c.rw, .int .i64 c.wd, .int .i64 c.md, .int .u64 c.sd, .int .i64 lv, .slice A n k, .slice B n2 k2] ∧ c.Ok ∧ (-9223372036854775808 ≤ lv ∧ lv ≤ 9223372036854775807) ∧ UpdV w A n k qs ∧ UpdV w B n2 k2 ps := by
  have hcs : ∃ cs : Array Value, v = .agg cs ∧ cs.size = Try.prog.cellsOf 34 := by
    simp only [Value.okWide, Try.underlying34] at hv
    obtain ⟨cs, h1, h2, _⟩ := hv
    exact ⟨cs, h1, h2⟩
  obtain ⟨⟨l⟩, rfl, hsz⟩ := hcs
  rw [open_two_c] at hsz
  obtain ⟨fuel, hf0⟩ := h
  obtain ⟨xs, k, _, _, _, hxl, hf⟩ := DataW.trod_struct Try.underlying34 hf0
  match xs, hxl, l, hsz with
  | [y0, y1, y2, y3], _, [v0, v1, v2, v3, v4, v5, v6, v7], _ =>
    have g0 := hf 0 _ rfl
    have g1 := hf 1 _ rfl
    have g2 := hf 2 _ rfl
    have g3 := hf 3 _ rfl
    simp [Value.cells, show Try.prog.cellsOf 3 = 1 from by kernel_rfl, show Try.prog.cellsOf 31 = 5 from by kernel_rfl, show Try.prog.cellsOf 32 = 1 from by kernel_rfl] at g0 g1 g2 g3
    obtain ⟨zs, k2, _, _, _, hzl, hz⟩ := DataW.trod_struct Try.underlying31 g0
    match zs, hzl with
    | [z0, z1, z2, z3, z4], _ =>
      have c0 := hz 0 _ rfl
      have c1 := hz 1 _ rfl
      have c2 := hz 2 _ rfl
      have c3 := hz 3 _ rfl
      have c4 := hz 4 _ rfl
      simp [show Try.prog.cellsOf 3 = 1 from by kernel_rfl, show Try.prog.cellsOf 24 = 1 from by kernel_rfl] at c0 c1 c2 c3 c4
      obtain ⟨x0, f0, _, w0⟩ := DataW.trod_int (show Try.prog.underlying 3 = some (.int .i64) by kernel_rfl) c0
      simp at f0
      subst f0
      obtain ⟨x1, f1, _, w1⟩ := DataW.trod_int (show Try.prog.underlying 3 = some (.int .i64) by kernel_rfl) c1
      simp at f1
      subst f1
      obtain ⟨x2, f2, _, w2⟩ := DataW.trod_int (show Try.prog.underlying 3 = some (.int .i64) by kernel_rfl) c2
      simp at f2
      subst f2
      obtain ⟨x3, f3, _, w3⟩ := DataW.trod_int (show Try.prog.underlying 3 = some (.int .i64) by kernel_rfl) c3
      simp at f3
      subst f3
      obtain ⟨x4, f4, _, w4⟩ := DataW.trod_int (show Try.prog.underlying 24 = some (.int .u64) by kernel_rfl) c4
      simp at f4
      subst f4
      obtain ⟨x5, f5, _, w5⟩ := DataW.trod_int (show Try.prog.underlying 3 = some (.int .i64) by kernel_rfl) g1
      simp at f5
      subst f5
      obtain ⟨A, n, cp, qs, f6, h0, h1, h2, h3, h4⟩ := open_upds g2
      simp at f6
      subst f6
      obtain ⟨B, n2, cp2, ps, f7, i0, i1, i2, i3, i4⟩ := open_upds g3
      simp at f7
      subst f7
      have b0 := Lw.wf_i64 w0
      have b1 := Lw.wf_i64 w1
      have b2 := Lw.wf_i64 w2
      have b3 := Lw.wf_i64 w3
      have b4 := Lw.wf_u64 w4
      exact ⟨⟨x0, x1, x2, x3, x4⟩, x5, A, n, cp, qs, B, n2, cp2, ps, rfl, ⟨b0.1, b0.2, b1.1, b1.2, b2.1, b2.2, b3.1, b3.2, b4.1, b4.2⟩, Lw.wf_i64 w5, ⟨h0, h1, h2, h3, h4⟩, ⟨i0, i1, i2, i3, i4⟩⟩
theorem box8 {w : World} {b : Nat} {e : TypeId} {v0 v1 v2 v3 v4 v5 v6 v7 : Value} (h : (boxT b e #[v0, v1, v2, v3, v4, v5, v6, v7]).I w) : w.cell? ⟨b, 5, none⟩ = some v5 ∧ w.cell? ⟨b, 6, none⟩ = some v6 ∧ w.cell? ⟨b, 7, none⟩ = some v7 ∧ w.cell? ⟨b, 0, none⟩ = some v0 ∧ w.cell? ⟨b, 1, none⟩ = some v1 ∧ w.cell? ⟨b, 2, none⟩ = some v2 ∧ w.cell? ⟨b, 3, none⟩ = some v3 ∧ w.cell? ⟨b, 4, none⟩ = some v4 :=
  ⟨box_cell h rfl, box_cell h rfl, box_cell h rfl, box_cell h rfl, box_cell h rfl, box_cell h rfl, box_cell h rfl, box_cell h rfl⟩
/-- The config that is tried, of one mode. -/
def cfgM (x : Cfg) (b md : Int) : Cfg := { anyC x b 9 with md := md }
theorem cfgM_right (x : Cfg) (b md : Int) (hb0 : 1 ≤ b) (hb1 : b ≤ 59) (h0 : 1 ≤ md) (h1 : md ≤ 3) : IsRight (cfgM x b md) ∧ (cfgM x b md).bt ≤ b := by
  have h := any_right x b 9 (by omega) (by omega) (by omega) (by omega)
  refine ⟨⟨h.1, h.2.1, h.2.2.1, h.2.2.2.1, h.2.2.2.2.1, h.2.2.2.2.2.1, h0, h1⟩, ?_⟩
  show 1 + x.bt % 65536 % b ≤ b
  have := Int.emod_lt_of_pos (x.bt % 65536) (show 0 < b by omega)
  omega
theorem cfgM_ok (x : Cfg) (hx : x.Ok) (b md : Int) (hb0 : 1 ≤ b) (hb1 : b ≤ 59) (h0 : 1 ≤ md) (h1 : md ≤ 3) : (cfgM x b md).Ok := by
  have h := any_ok x hx b 9 (by omega) (by omega) (by omega) (by omega)
  exact ⟨h.b0, h.b1, h.r0, h.r1, h.w0, h.w1, by show -9223372036854775808 ≤ md; omega, by show md ≤ 9223372036854775807; omega, h.s0, h.s1⟩
def cutT (c : Cfg) (l : Int) (u : Int × Int) : Int × Int := (u.1 % keys c l, Int.tmod u.2 1048576)
theorem tmod20 (d : Int) : -1048576 < Int.tmod d 1048576 ∧ Int.tmod d 1048576 < 1048576 := by
  have h1 := Int.tmod_lt_of_pos d (show (0 : Int) < 1048576 by omega)
  have h3 := Int.tmod_lt_of_pos (-d) (show (0 : Int) < 1048576 by omega)
  rw [Int.neg_tmod] at h3
  omega
def tk (f : Int × Int → Int × Int) (qs : Ups) (k : Nat) : Ups := (qs.take k).map f
theorem tk_zero (f : Int × Int → Int × Int) (qs : Ups) : tk f qs 0 = [] := by unfold tk; simp
theorem tk_next {f : Int × Int → Int × Int} {qs : Ups} {k : Nat} {q : Int × Int} (h : qs[k]? = some q) : tk f qs (k + 1) = tk f qs k ++ [f q] := by
  obtain ⟨h1, h2⟩ := List.getElem?_eq_some_iff.1 h
  unfold tk
  rw [List.take_succ_eq_append_getElem h1, h2, List.map_append]
  rfl
theorem tk_len (f : Int × Int → Int × Int) (qs : Ups) (k : Nat) : (tk f qs k).length ≤ k := by
  unfold tk
  rw [List.length_map, List.length_take]
  omega
theorem tk_end {f : Int × Int → Int × Int} {qs : Ups} {k t : Nat} (h : k = t ∨ (qs.length ≤ k ∧ k ≤ t)) : tk f qs k = tk f qs t := by
  unfold tk
  rcases h with rfl | h
  · rfl
  · rw [List.take_of_length_le h.1, List.take_of_length_le (by omega)]
theorem cutT_ok {c : Cfg} {l : Int} (hk : 1 ≤ keys c l) (u : Int × Int) : 0 ≤ (cutT c l u).1 ∧ (cutT c l u).1 < keys c l ∧ -1048576 ≤ (cutT c l u).2 ∧ (cutT c l u).2 ≤ 1048576 := by
  have h := tmod20 u.2
  exact ⟨Int.emod_nonneg _ (by omega), Int.emod_lt_of_pos _ (by omega), by unfold cutT; simp only; omega, by unfold cutT; simp only; omega⟩
theorem tk_ok {c : Cfg} {l : Int} (hk : 1 ≤ keys c l) (qs : Ups) (k : Nat) : UpsOk c l 1048576 (tk (cutT c l) qs k) := by
  intro u hu
  unfold tk at hu
  obtain ⟨v, _, rfl⟩ := List.mem_map.1 hu
  exact cutT_ok hk v
theorem in_of_ok {c : Cfg} {l : Int} (hm : c.md = 1) {us : Ups} (h : UpsOk c l 1048576 us) : UpsIn c l us :=
  ⟨fun u hu => by have := h u hu; omega, fun h2 => by omega⟩
theorem cells_in {c : Cfg} {l : Int} (hm : c.md = 1) {us : Ups} (h : UpsOk c l 1048576 us) (hl : us.length ≤ 30) : Sz (rws c) (wds c) (cells c l us) ∧ Within 31457280 (cells c l us) := by
  refine ⟨cells_sz (in_of_ok hm h), ?_⟩
  have hw := within_mono (chAll_within (c := 1048576) (by omega) (b := 0) (Int.le_refl _) (within_zeros (rws c) (wds c)) (opsU_ok h)) (c := 31457280) (by rw [opsU_len]; omega)
  rwa [← cells_lin (by omega)] at hw
theorem dots_comm (L M : List (List Int)) : dots L M = dots M L := by
  unfold dots
  exact List.zipWith_comm_of_comm dsum_comm
theorem oks_small {c : Cfg} (hr : IsRight c) {L M : List (List Int)} (h1 : Sz (rws c) (wds c) L ∧ Within 31457280 L) (h2 : Sz (rws c) (wds c) M ∧ Within 31457280 M) : oks L M = true := by
  refine oks_yes (by rw [h1.1.1, h2.1.1]) (fun k xs ys hx hy => ?_)
  have e1 := List.mem_of_getElem? hx
  have e2 := List.mem_of_getElem? hy
  have l1 := h1.1.2 xs e1
  have l2 := h2.1.2 ys e2
  have hw := (wds_bd hr).2.1
  refine (dok_small (a := 31457280) (b := 31457280) (by omega) (by omega) (by omega) (fun v hv => h1.2 xs e1 v hv) (fun v hv => h2.2 ys e2 v hv) ?_).1
  have h3 : (xs.length : Int) * (31457280 * 31457280) ≤ 128 * (31457280 * 31457280) := Int.mul_le_mul_of_nonneg_right (by omega) (by omega)
  omega
end Go.Proofs.Ythecgkgnngpikaa.Inn
/- Products of what keys have, in numbers: pairs of updates, row by row. For stages from 11 on. -/
namespace Go.Proofs.Ythecgkgnngpikaa.Inn
open Go Go.RowKit Lw Grd Lin Con Shp Sk
set_option linter.unusedVariables false
set_option linter.unusedSimpArgs false
def sm {α : Type} (f : α → Int) : List α → Int
  | [] => 0
  | x :: xs => f x + sm f xs
theorem sm_app {α : Type} (f : α → Int) : ∀ a b : List α, sm f (a ++ b) = sm f a + sm f b
  | [], b => by simp [sm]
  | x :: a, b => by simp only [List.cons_append, sm, sm_app f a b]; omega
theorem sm_next {α : Type} {f : α → Int} {xs : List α} {k : Nat} {x : α} (h : xs[k]? = some x) : sm f (xs.take (k + 1)) = sm f (xs.take k) + f x := by
  obtain ⟨h1, h2⟩ := List.getElem?_eq_some_iff.1 h
  rw [List.take_succ_eq_append_getElem h1, h2, sm_app]
  simp [sm]
theorem sm_bd {α : Type} {f : α → Int} {b : Int} (hb : 0 ≤ b) : ∀ {xs : List α}, (∀ x ∈ xs, 0 ≤ f x ∧ f x ≤ b) → 0 ≤ sm f xs ∧ sm f xs ≤ xs.length * b
  | [], _ => by simp [sm]
  | x :: xs, h => by
    have ih := sm_bd hb (xs := xs) (fun y hy => h y (by simp [hy]))
    have h1 := h x (by simp)
    have e : (((x :: xs).length : Nat) : Int) * b = (xs.length : Int) * b + b := by
      have e1 : (((x :: xs).length : Nat) : Int) = (xs.length : Int) + 1 := by simp
      rw [e1, Int.add_mul, Int.one_mul]
    simp only [sm]
    omega
theorem sm_add {α : Type} {f g h : α → Int} (e : ∀ x, f x = g x + h x) : ∀ xs : List α, sm f xs = sm g xs + sm h xs
  | [] => by simp [sm]
  | x :: xs => by simp only [sm, sm_add e xs, e x]; omega
theorem sm_mul {α : Type} {f : α → Int} {d : Int} : ∀ xs : List α, d * sm f xs = sm (fun x => d * f x) xs
  | [] => by simp [sm]
  | x :: xs => by simp only [sm, Int.mul_add, sm_mul xs]
theorem sm_congr {α : Type} {f g : α → Int} : ∀ {xs : List α}, (∀ x ∈ xs, f x = g x) → sm f xs = sm g xs
  | [], _ => rfl
  | x :: xs, h => by simp only [sm]; rw [h x (by simp), sm_congr (xs := xs) (fun y hy => h y (by simp [hy]))]
/-! ### Over a row -/
def rs (f : Nat → Int) : Nat → Int
  | 0 => 0
  | n + 1 => rs f n + f n
theorem rs_add {f g h : Nat → Int} : ∀ n, (∀ q, q < n → f q = g q + h q) → rs f n = rs g n + rs h n
  | 0, _ => rfl
  | n + 1, e => by simp only [rs, rs_add n (fun q hq => e q (by omega)), e n (by omega)]; omega
theorem rs_zero {f : Nat → Int} : ∀ n, (∀ q, q < n → f q = 0) → rs f n = 0
  | 0, _ => rfl
  | n + 1, e => by simp only [rs, rs_zero n (fun q hq => e q (by omega)), e n (by omega)]; rfl
theorem rs_pick {g : Nat → Int} {d : Int} {a : Nat} : ∀ n, a < n → rs (fun q => (if q = a then d else 0) * g q) n = d * g a
  | 0, h => by omega
  | n + 1, h => by
    simp only [rs]
    by_cases ha : a < n
    · rw [rs_pick n ha, if_neg (by omega)]
      simp
    · obtain rfl : n = a := by omega
      rw [rs_zero n (fun q hq => by rw [if_neg (by omega)]; simp), if_pos rfl]
      simp
theorem dsum_rs {xs ys : List Int} {f g : Nat → Int} {n : Nat} (hx : ∀ q, q < n → xs[q]? = some (f q)) (hy : ∀ q, q < n → ys[q]? = some (g q)) (lx : xs.length = n) (ly : ys.length = n) : dsum xs ys = rs (fun q => f q * g q) n := by
  have h : ∀ k, k ≤ n → dp xs ys k = rs (fun q => f q * g q) k := by
    intro k
    induction k with
    | zero => intro _; rw [dp_0]; rfl
    | succ k ih =>
      intro hk
      rw [dp_next (hx k (by omega)) (hy k (by omega)), ih (by omega)]
      rfl
  rw [← h n (Nat.le_refl _), dp_all (by omega) (by omega)]
/-- What two updates share in a row. -/
def bothP (c : Cfg) (l : Int) (r : Nat) (u v : Int × Int) : Int := if col c l u.1 r = col c l v.1 r then u.2 * v.2 else 0
def ownP (u v : Int × Int) : Int := if u.1 = v.1 then u.2 * v.2 else 0
def othP (c : Cfg) (l : Int) (r : Nat) (u v : Int × Int) : Int := if u.1 ≠ v.1 ∧ col c l u.1 r = col c l v.1 r then u.2 * v.2 else 0
theorem both_parts (c : Cfg) (l : Int) (r : Nat) (u v : Int × Int) : bothP c l r u v = ownP u v + othP c l r u v := by
  unfold bothP ownP othP
  by_cases h : u.1 = v.1
  · rw [if_pos (by rw [h]), if_pos h, if_neg (by simp [h])]; omega
  · by_cases h2 : col c l u.1 r = col c l v.1 r
    · rw [if_pos h2, if_neg h, if_pos ⟨h, h2⟩]; omega
    · rw [if_neg h2, if_neg h, if_neg (fun h3 => h2 h3.2)]; rfl
theorem hit_sm {c : Cfg} {l b : Int} {r q : Nat} (hr : r < rws c) : ∀ {us : Ups}, UpsOk c l b us → hit (opsU c l us) r q = sm (fun v => if col c l v.1 r = (q : Int) then v.2 else 0) us
  | [], _ => rfl
  | u :: us, h => by
    have hu := h u (by simp)
    have e : opsU c l (u :: us) = (cols c l u.1, u.2) :: opsU c l us := rfl
    rw [e]
    simp only [hit, sm]
    rw [hit_sm hr (us := us) (fun p hp => h p (by simp [hp])), cols_at hu.2.1 hr]
    simp
theorem row_prod {c : Cfg} {l b d : Int} (hcr : IsRight c) {r : Nat} (hr : r < rws c) {vs : Ups} (hv : UpsOk c l d vs) : ∀ {us : Ups}, UpsOk c l b us → rs (fun q => hit (opsU c l us) r q * hit (opsU c l vs) r q) (wds c) = sm (fun u => sm (bothP c l r u) vs) us
  | [], _ => by
    simp only [sm]
    exact rs_zero _ (fun q hq => by simp [hit, opsU])
  | u :: us, h => by
    have hu := h u (by simp)
    have e : opsU c l (u :: us) = (cols c l u.1, u.2) :: opsU c l us := rfl
    have hc := col_range hcr l u.1 r
    have hw := wds_bd hcr
    obtain ⟨a, ha⟩ : ∃ a : Nat, col c l u.1 r = a := ⟨(col c l u.1 r).toNat, by omega⟩
    have han : a < wds c := by omega
    rw [rs_add (g := fun q => (if q = a then u.2 else 0) * hit (opsU c l vs) r q) (h := fun q => hit (opsU c l us) r q * hit (opsU c l vs) r q) _ (fun q hq => by
      rw [e]
      simp only [hit]
      rw [cols_at hu.2.1 hr, ha, Int.add_mul]
      congr 2
      by_cases hqa : q = a
      · subst hqa; simp
      · rw [if_neg (fun h2 => hqa (by injection h2 with h2; omega)), if_neg hqa])]
    rw [row_prod hcr hr hv (us := us) (fun p hp => h p (by simp [hp])), rs_pick _ han, hit_sm hr hv, sm_mul]
    simp only [sm]
    congr 1
    refine sm_congr fun v _ => ?_
    unfold bothP
    rw [ha]
    by_cases h2 : col c l v.1 r = (a : Int)
    · rw [if_pos h2, if_pos h2.symm]
    · rw [if_neg h2, if_neg (fun h3 => h2 h3.symm), Int.mul_zero]
theorem in_of_ok2 {c : Cfg} {l : Int} (hm : c.md = 1) {us : Ups} (h : UpsOk c l 1048576 us) : UpsIn c l us :=
  ⟨fun u hu => by have := h u hu; omega, fun h2 => by omega⟩
theorem cells_row {c : Cfg} {l : Int} (hm : c.md = 1) {us : Ups} (h : UpsOk c l 1048576 us) {r : Nat} (hr : r < rws c) : ∃ xs, (cells c l us)[r]? = some xs ∧ xs.length = wds c ∧ ∀ q, q < wds c → xs[q]? = some (hit (opsU c l us) r q) := by
  have hs := cells_sz (in_of_ok2 hm h)
  have hl : r < (cells c l us).length := by rw [hs.1]; exact hr
  refine ⟨(cells c l us)[r], List.getElem?_eq_getElem hl, hs.2 _ (List.getElem_mem hl), fun q hq => ?_⟩
  have hq2 : q < ((cells c l us)[r]).length := by rw [hs.2 _ (List.getElem_mem hl)]; exact hq
  have hc := chAll_cel (b := 1048576) hr hq (sz_zeros (rws c) (wds c)) (opsU_ok h)
  rw [← cells_lin (by omega)] at hc
  have hz : cel (zerosL (rws c) (wds c)) r q = 0 := by
    unfold cel zerosL
    rw [List.getElem?_replicate, if_pos hr, Option.getD_some, List.getElem?_replicate, if_pos hq]
    rfl
  rw [hz, Int.zero_add] at hc
  rw [← hc]
  unfold cel
  rw [List.getElem?_eq_getElem hl, Option.getD_some, List.getElem?_eq_getElem hq2]
  rfl
def tot (f : Int × Int → Int × Int → Int) (us vs : Ups) : Int := sm (fun u => sm (f u) vs) us
/-- The products of the rows. -/
theorem dots_rows {c : Cfg} {l : Int} (hcr : IsRight c) (hm : c.md = 1) {us vs : Ups} (h : UpsOk c l 1048576 us) (g : UpsOk c l 1048576 vs) : dots (cells c l us) (cells c l vs) = (List.range (rws c)).map (fun r => tot ownP us vs + tot (othP c l r) us vs) := by
  have s1 := cells_sz (in_of_ok2 hm h)
  have s2 := cells_sz (in_of_ok2 hm g)
  apply List.ext_getElem?
  intro r
  by_cases hr : r < rws c
  · obtain ⟨xs, hx, lx, fx⟩ := cells_row hm h hr
    obtain ⟨ys, hy, ly, fy⟩ := cells_row hm g hr
    rw [dots_get hx hy, dsum_rs fx fy lx ly, row_prod hcr hr g h, List.getElem?_map, List.getElem?_range hr]
    simp only [Option.map_some]
    congr 1
    unfold tot
    exact sm_add (fun u => sm_add (fun v => both_parts c l r u v) vs) us
  · rw [List.getElem?_eq_none (by rw [dots_len (by rw [s1.1, s2.1]), s1.1]; omega), List.getElem?_eq_none (by simp; omega)]
/-! ### As the pairs are gone through -/
def T2 (f : Int × Int → Int × Int → Int) (us vs : Ups) (i k : Nat) : Int := tot f (us.take i) vs + (match us[i]? with | some u => sm (f u) (vs.take k) | none => 0)
theorem T2_zero (f : Int × Int → Int × Int → Int) (us vs : Ups) : T2 f us vs 0 0 = 0 := by
  unfold T2 tot
  simp [sm]
  split <;> simp [sm]
theorem T2_k {f : Int × Int → Int × Int → Int} {us vs : Ups} {i k : Nat} {u v : Int × Int} (hu : us[i]? = some u) (hv : vs[k]? = some v) : T2 f us vs i (k + 1) = T2 f us vs i k + f u v := by
  unfold T2
  rw [hu]
  simp only [sm_next hv]
  omega
theorem T2_i {f : Int × Int → Int × Int → Int} {us vs : Ups} {i : Nat} {u : Int × Int} (hu : us[i]? = some u) : T2 f us vs i vs.length = T2 f us vs (i + 1) 0 := by
  unfold T2 tot
  rw [hu, sm_next hu, List.take_length]
  simp only [List.take_zero]
  split <;> simp [sm]
theorem T2_end (f : Int × Int → Int × Int → Int) (us vs : Ups) : T2 f us vs us.length 0 = tot f us vs := by
  unfold T2
  rw [List.take_length, List.getElem?_eq_none (Nat.le_refl _)]
  simp
theorem T2_bd {f : Int × Int → Int × Int → Int} {us vs : Ups} {b : Int} (hb : 0 ≤ b) (hf : ∀ u ∈ us, ∀ v ∈ vs, 0 ≤ f u v ∧ f u v ≤ b) (hu : us.length ≤ 30) (hv : vs.length ≤ 30) (i k : Nat) : 0 ≤ T2 f us vs i k ∧ T2 f us vs i k ≤ 930 * b := by
  have h1 : ∀ u ∈ us, 0 ≤ sm (f u) vs ∧ sm (f u) vs ≤ 30 * b := fun u hu2 => by
    have h := sm_bd hb (f := f u) (xs := vs) (fun v hv2 => hf u hu2 v hv2)
    have h3 : (vs.length : Int) * b ≤ 30 * b := Int.mul_le_mul_of_nonneg_right (by omega) hb
    omega
  have h2 := sm_bd (b := 30 * b) (by omega) (f := fun u => sm (f u) vs) (xs := us.take i) (fun u hu2 => h1 u (List.mem_of_mem_take hu2))
  have h4 : ((us.take i).length : Int) * (30 * b) ≤ 30 * (30 * b) := Int.mul_le_mul_of_nonneg_right (by rw [List.length_take]; omega) (by omega)
  unfold T2 tot
  split
  · rename_i u hu2
    have h5 := sm_bd hb (f := f u) (xs := vs.take k) (fun v hv2 => hf u (List.mem_of_getElem? hu2) v (List.mem_of_mem_take hv2))
    have h6 : ((vs.take k).length : Int) * b ≤ 30 * b := Int.mul_le_mul_of_nonneg_right (by rw [List.length_take]; omega) hb
    omega
  · omega
/-- The row of the others' sums: r rows of the pair (i, k) are done. -/
def OT (c : Cfg) (l : Int) (us vs : Ups) (m i k r : Nat) : List Int := (List.range m).map (fun j => if j < r then T2 (othP c l j) us vs i (k + 1) else T2 (othP c l j) us vs i k)
theorem OT_len (c : Cfg) (l : Int) (us vs : Ups) (m i k r : Nat) : (OT c l us vs m i k r).length = m := by unfold OT; simp
theorem OT_get {c : Cfg} {l : Int} {us vs : Ups} {m i k r j : Nat} (h : j < m) : (OT c l us vs m i k r)[j]? = some (if j < r then T2 (othP c l j) us vs i (k + 1) else T2 (othP c l j) us vs i k) := by
  unfold OT
  rw [List.getElem?_map, List.getElem?_range h]
  rfl
theorem OT_zero (c : Cfg) (l : Int) (us vs : Ups) (m : Nat) : OT c l us vs m 0 0 0 = List.replicate m 0 := by
  apply List.ext_getElem?
  intro j
  by_cases h : j < m
  · rw [OT_get h, if_neg (by omega), T2_zero, List.getElem?_replicate, if_pos h]
  · rw [List.getElem?_eq_none (by rw [OT_len]; omega), List.getElem?_eq_none (by simp; omega)]
theorem OT_row (c : Cfg) (l : Int) (us vs : Ups) (m i k : Nat) : OT c l us vs m i k m = OT c l us vs m i (k + 1) 0 := by
  apply List.ext_getElem?
  intro j
  by_cases h : j < m
  · rw [OT_get h, OT_get h, if_pos h, if_neg (by omega)]
  · rw [List.getElem?_eq_none (by rw [OT_len]; omega), List.getElem?_eq_none (by rw [OT_len]; omega)]
theorem OT_i {c : Cfg} {l : Int} {us vs : Ups} {m i : Nat} {u : Int × Int} (hu : us[i]? = some u) : OT c l us vs m i vs.length 0 = OT c l us vs m (i + 1) 0 0 := by
  apply List.ext_getElem?
  intro j
  by_cases h : j < m
  · rw [OT_get h, OT_get h, if_neg (by omega), if_neg (by omega), T2_i hu]
  · rw [List.getElem?_eq_none (by rw [OT_len]; omega), List.getElem?_eq_none (by rw [OT_len]; omega)]
theorem OT_same {c : Cfg} {l : Int} {us vs : Ups} {m i k : Nat} {u v : Int × Int} (hu : us[i]? = some u) (hv : vs[k]? = some v) (h0 : u.1 = v.1) : OT c l us vs m i k 0 = OT c l us vs m i (k + 1) 0 := by
  apply List.ext_getElem?
  intro j
  by_cases h : j < m
  · rw [OT_get h, OT_get h, if_neg (by omega), if_neg (by omega), T2_k hu hv]
    have e : othP c l j u v = 0 := if_neg (fun h2 => h2.1 h0)
    rw [e, Int.add_zero]
  · rw [List.getElem?_eq_none (by rw [OT_len]; omega), List.getElem?_eq_none (by rw [OT_len]; omega)]
theorem OT_skip {c : Cfg} {l : Int} {us vs : Ups} {m i k r : Nat} {u v : Int × Int} (hu : us[i]? = some u) (hv : vs[k]? = some v) (h0 : othP c l r u v = 0) : OT c l us vs m i k r = OT c l us vs m i k (r + 1) := by
  apply List.ext_getElem?
  intro j
  by_cases h : j < m
  · rw [OT_get h, OT_get h]
    by_cases h1 : j < r
    · rw [if_pos h1, if_pos (by omega)]
    · by_cases h2 : j = r
      · subst h2
        rw [if_neg (by omega), if_pos (by omega), T2_k hu hv, h0, Int.add_zero]
      · rw [if_neg h1, if_neg (by omega)]
  · rw [List.getElem?_eq_none (by rw [OT_len]; omega), List.getElem?_eq_none (by rw [OT_len]; omega)]
theorem OT_set {c : Cfg} {l : Int} {us vs : Ups} {m i k r : Nat} {u v : Int × Int} (hu : us[i]? = some u) (hv : vs[k]? = some v) (hr : r < m) : (OT c l us vs m i k r)[r]? = some (T2 (othP c l r) us vs i k) ∧ (OT c l us vs m i k r).set r (T2 (othP c l r) us vs i k + othP c l r u v) = OT c l us vs m i k (r + 1) := by
  refine ⟨by rw [OT_get hr, if_neg (by omega)], ?_⟩
  apply List.ext_getElem?
  intro j
  rw [List.getElem?_set]
  by_cases h2 : r = j
  · subst h2
    rw [if_pos rfl, if_pos (by rw [OT_len]; exact hr), OT_get hr, if_pos (by omega), T2_k hu hv]
  · rw [if_neg h2]
    by_cases h : j < m
    · rw [OT_get h, OT_get h]
      by_cases h1 : j < r
      · rw [if_pos h1, if_pos (by omega)]
      · rw [if_neg h1, if_neg (by omega)]
    · rw [List.getElem?_eq_none (by rw [OT_len]; omega), List.getElem?_eq_none (by rw [OT_len]; omega)]
theorem foldl_min_le : ∀ (xs : List Int) (x : Int), xs.foldl min x ≤ x ∧ ∀ y ∈ xs, xs.foldl min x ≤ y
  | [], x => ⟨Int.le_refl _, fun y hy => by simp at hy⟩
  | z :: xs, x => by
    have h := foldl_min_le xs (min x z)
    simp only [List.foldl_cons]
    refine ⟨by omega, fun y hy => ?_⟩
    rcases List.mem_cons.1 hy with rfl | hy
    · omega
    · exact h.2 y hy
theorem lmin_le {zs : List Int} {z : Int} (h : z ∈ zs) : lmin zs ≤ z := by
  match zs with
  | [] => simp at h
  | x :: xs =>
    have h2 := foldl_min_le xs x
    rcases List.mem_cons.1 h with rfl | h
    · exact h2.1
    · exact h2.2 z h
/-- The least of what all rows tell. -/
theorem lmin_add {zs : List Int} {a : Int} (h : zs ≠ []) : lmin (zs.map (fun z => a + z)) = a + lmin zs := by
  have h1 := lmin_mem h
  refine lmin_eq (List.mem_map.2 ⟨_, h1, rfl⟩) (fun y hy => ?_)
  obtain ⟨z, hz, rfl⟩ := List.mem_map.1 hy
  have := lmin_le hz
  omega
end Go.Proofs.Ythecgkgnngpikaa.Inn
/- A row of updates of one's own, as a thing; one update appended. Printed by wip/gen/innplain.py. -/
namespace Go.Proofs.Ythecgkgnngpikaa.Sk
open Go Go.RowKit Lw Grd Lin Con Shp
set_option linter.unusedVariables false
theorem add_block (a : Addr) (j : Nat) : (a.add j).block = a.block := by
  unfold Addr.add
  split <;> rfl
theorem UpdV.keep {w w' : World} {A : Option Addr} {n c : Nat} {qs : Ups} {H : Nat → Prop} (h : UpdV w A n c qs) (hk : Kept H w w') (hf : ∀ a, A = some a → ¬ H a.block) : UpdV w' A n c qs :=
  ⟨h.nil, h.nc, h.cm, h.len, fun i q hq => by
    obtain ⟨a, e, h1, h2, h3⟩ := h.each i q hq
    exact ⟨a, e, hk.cell h1 (by rw [add_block]; exact hf a e), hk.cell h2 (by rw [add_block]; exact hf a e), h3⟩⟩
def upT (A : Option Addr) (n c : Nat) (us : Ups) : Thing where
  I := fun w => UpdV w A n c us ∧ ∀ a, A = some a → a.block < w.heap.size
  F := fun k => ∃ a, A = some a ∧ a.block = k
  keep := fun w w' H h hk hf => ⟨h.1.keep hk (fun a e => hf _ ⟨a, e, rfl⟩), fun a e => Nat.lt_of_lt_of_le (h.2 a e) hk.size⟩
  lt := fun w h k hk => by
    obtain ⟨a, e, rfl⟩ := hk
    exact h.2 a e
theorem upI {w : World} {A : Option Addr} {n c : Nat} {us : Ups} (h : (upT A n c us).I w) : UpdV w A n c us := h.1
/-- What a row of updates of one's own is. -/
theorem upd_own {w : World} {base : Nat} {e : TypeId} {v : Value} {n : Nat} {us : Ups} (h : w.ownsRow base e 2 v n (flatU us)) (hl : us.length = n) (hb : ∀ u ∈ us, (0 ≤ u.1 ∧ u.1 ≤ 18446744073709551615) ∧ (-9223372036854775808 ≤ u.2 ∧ u.2 ≤ 9223372036854775807)) :
    ∃ A cap, v = .slice A n cap ∧ (upT A n cap us).I w ∧ ∀ k, (upT A n cap us).F k → base ≤ k := by
  have hge := own_ge h
  rcases h.2 with ⟨h1, h2⟩ | ⟨g, cap, cur, h1, h2, h3, h4, h5, h6, h7⟩
  · subst h2
    refine ⟨none, 0, by rw [h1], ⟨⟨fun _ => ⟨rfl, rfl⟩, Nat.le_refl _, by decide, hl, fun i q hq => ?_⟩, (fun a e => by cases e)⟩, (fun k hk => by obtain ⟨a, e, _⟩ := hk; cases e)⟩
    have := (List.getElem?_eq_some_iff.1 hq).1
    omega
  · subst h1
    have hg : g < w.heap.size := own_lt h rfl
    refine ⟨some ⟨g, 0, none⟩, cap, rfl, ⟨⟨(fun e => by cases e), h4, by assumption, hl, fun i q hq => ⟨_, rfl, (own_pair h hq).1, (own_pair h hq).2, hb q (List.mem_of_getElem? hq)⟩⟩, (fun a e => by injection e with e; subst e; exact hg)⟩, fun k hk => ?_⟩
    obtain ⟨a, e, rfl⟩ := hk
    injection e with e
    subst e
    exact hge g rfl
end Go.Proofs.Ythecgkgnngpikaa.Sk
/- plain of layer 11: updates that are cut, none below 0. Printed by wip/gen/innplain.py. -/
namespace Go.Proofs.Ythecgkgnngpikaa.Inn
open Go Go.RowKit Lw Grd Lin Con Shp Sk
set_option linter.unusedVariables false
set_option linter.unusedSimpArgs false
def cutP (c : Cfg) (l : Int) (u : Int × Int) : Int × Int := (u.1 % keys c l, if Int.tmod u.2 1048576 < -(Int.tmod u.2 1048576) then -(Int.tmod u.2 1048576) else Int.tmod u.2 1048576)
theorem cutP_ok {c : Cfg} {l : Int} (hk : 1 ≤ keys c l) (u : Int × Int) : 0 ≤ (cutP c l u).1 ∧ (cutP c l u).1 < keys c l ∧ 0 ≤ (cutP c l u).2 ∧ (cutP c l u).2 ≤ 1048576 := by
  have h := tmod20 u.2
  refine ⟨Int.emod_nonneg _ (by omega), Int.emod_lt_of_pos _ (by omega), ?_, ?_⟩ <;> (unfold cutP; simp only; split <;> omega)
theorem own2_up {w w' : World} {B : Nat} {e : TypeId} {v : Value} {n : Nat} {xs : List Value} (h : w.ownsRow B e 2 v n xs) (hb : Below w.heap.size w w') : w'.ownsRow B e 2 v n xs := (Kept.of_below (F := fun _ => False) hb).own h (fun _ _ h => h)
theorem heap_grown {w w' : World} {row : Option Nat} {b : Nat} {o : Obj} (h : w.heap[b]? = some o) (hg : w.grownBy w' row) (hne : row ≠ some b) : w'.heap[b]? = some o :=
  ((Kept.refl (fun q => row = some q) w).grown hg (fun q hq => .inl hq)).heap h hne
theorem upbox {w w' : World} {b : Nat} {o : Obj} (h : w.heap[b]? = some o) (hb : Below w.heap.size w w') : w'.heap[b]? = some o := by
  rw [hb.block b (size_of_heap h)]
  exact h
theorem tkP_bd {c : Cfg} {l : Int} (hk : 1 ≤ keys c l) (qs : Ups) (k : Nat) : ∀ u ∈ tk (cutP c l) qs k, (0 ≤ u.1 ∧ u.1 < keys c l) ∧ (0 ≤ u.2 ∧ u.2 ≤ 1048576) := by
  intro u hu
  unfold tk at hu
  obtain ⟨v, _, rfl⟩ := List.mem_map.1 hu
  have := cutP_ok hk v
  exact ⟨⟨this.1, this.2.1⟩, this.2.2⟩
set_option maxRecDepth 100000 in
set_option maxHeartbeats 4000000 in
theorem plain_any (c : Cfg) (l : Int) (A : Option Addr) (n0 k0 : Nat) (qs : Ups) (w : World) (hq : UpdV w A n0 k0 qs) (h : c.Ok) (l0 : -9223372036854775808 ≤ l) (l1 : l ≤ 9223372036854775807) (hkeys : 1 ≤ keys c l) :
    Calls Try.prog 20 #[.agg #[.int .i64 c.bt, .int .i64 c.rw, .int .i64 c.wd, .int .i64 c.md, .int .u64 c.sd], .int .i64 l, .slice A n0 k0] w fun e w' => ∃ (A2 : Option Addr) (m cap : Nat), e = .returned (.slice A2 m cap) ∧ (upT A2 m cap (tk (cutP c l) qs 30)).I w' ∧ (∀ k, (upT A2 m cap (tk (cutP c l) qs 30)).F k → w.heap.size ≤ k) ∧ Below w.heap.size w w' := by
  obtain ⟨i0, hi, hz0, hz1, hz2⟩ := info_parts upd_info
  have CK0 := Lib.hid (fun w => rkeys_any c l w h l0 l1)
  have hnc := hq.nc
  have hcm := hq.cm
  unfold maxLen at hcm
  have HQ := Lib.hid hq
  have HL := Lib.hid hq.len
  have HKY := Lib.hid hkeys
  have hkk := keys_bd c l
  obtain ⟨K, hK⟩ : ∃ K, keys c l = K := ⟨_, rfl⟩
  have CK := Lib.hid (fun w => CK0.out w)
  rw [hK] at CK hkk
  have HK := Lib.hid hK
  have hk1K : 1 ≤ K := by rw [← hK]; exact hkeys
  clear hq h hkeys hK CK0
  go_enter Try.func20, Try.ntmps20
  go_wp2
  go_loopw [7, 8] (fun v i wr => ∃ k : Nat, k ≤ 30 ∧ (k ≤ n0 ∨ k = 0) ∧ i = .int .i64 k ∧ wr.ownsRow (w.heap.size + 1) 44 2 v k (flatU (tk (cutP c l) qs k)) ∧ wr.heap[w.heap.size]? = some (.cells #[.int .i64 c.bt, .int .i64 c.rw, .int .i64 c.wd, .int .i64 c.md, .int .u64 c.sd] 31 (0, 0)) ∧ Below w.heap.size w wr) (fun _ i _ => 30 - (intOf i).toNat)
  case atStart => exact ⟨0, by omega, .inr rfl, rfl, by rw [tk_zero]; exact World.ownsRow_nil _ _ _ _, heap_alloc_new w _, (by repeat' (first | (with_reducible exact Below.refl _ _) | (with_reducible assumption) | (with_reducible refine below_over ?_ _ _) | (with_reducible refine Lw.below_alloc ?_ _) | (with_reducible refine Below.drew ?_) | (with_reducible refine below_drewN ?_ _) | (with_reducible refine Below.setCell ?_ ?_ _) | go_size))⟩
  case round =>
    obtain ⟨k, hk1, hk2, rfl, hown, hbox, hbel⟩ := hrel
    have hbsz : w.heap.size + 1 ≤ wr.heap.size := size_of_heap hbox
    by_cases hlt : k < n0 ∧ k < 30
    · obtain ⟨hj1, hj2⟩ := hlt
      obtain ⟨u, hu1⟩ : ∃ u, qs[k]? = some u := ⟨_, List.getElem?_eq_getElem (by rw [HL.out]; omega)⟩
      have hnx := tk_next (f := cutP c l) hu1
      have hcu := cutP_ok HKY.out u
      obtain ⟨a, g, o, rfl, hadd, d1w, d2w, kb, db⟩ := HQ.out.at hu1
      obtain ⟨uk, ud⟩ := u
      simp only at d1w d2w kb db
      have d1 := cell_up d1w hbel
      have d2 := cell_up d2w hbel
      obtain ⟨c0, c1, c2, c3, c4⟩ := box5 (e := 31) hbox
      have hrk := rem_key uk K kb.1 kb.2 hk1K
      have ht20 := tmod20 ud
      obtain ⟨U, hU⟩ : ∃ U, (cutP c l (uk, ud)).1 = U := ⟨_, rfl⟩
      obtain ⟨D, hD⟩ : ∃ D, (cutP c l (uk, ud)).2 = D := ⟨_, rfl⟩
      have hUr : Int.tmod uk K = U := by rw [hrk.1, ← hU, ← HK.out]; rfl
      obtain ⟨t, ht⟩ : ∃ t, Int.tmod ud 1048576 = t := ⟨_, rfl⟩
      obtain ⟨N, hN⟩ : ∃ N, -t = N := ⟨_, rfl⟩
      have hmx : (if t < N then N else t) = D := by rw [← hD, ← hN, ← ht]; rfl
      rw [ht] at ht20
      have wn1 : IntKind.i64.wrap (-t) = N := by rw [hN]; exact IntWalk.i64_in _ ⟨by omega, by omega⟩
      have wn2 : wrap64 (-t) = N := by rw [hN]; exact IntWalk.wrap64_in _ ⟨by omega, by omega⟩
      have hK0 : ¬ K = 0 := by omega
      rw [hU] at hcu
      have hwu : IntKind.u64.wrap U = U := by rw [IntKind.wrap_u64]; have := hcu.2.1; rw [HK.out] at this; omega
      have wt1 : IntKind.i64.wrap t = t := IntWalk.i64_in _ ⟨by omega, by omega⟩
      have HNX : Hid (flatU (tk (cutP c l) qs (k + 1)) = flatU (tk (cutP c l) qs k) ++ [.int .u64 U, .int .i64 D]) := Lib.hid (by rw [hnx, flatU_snoc, hU, hD])
      have HD1 := Lib.hid d1w
      have hkn : (k : Int) < n0 := by omega
      have hk30 : (k : Int) < 30 := by omega
      clear hu1 hnx hcu hU hD d1w d2w hrk ht20 hN
      go_upto_region 6 with fail
      clear d2 ht
      go_region_held3 (fun w' => w'.cell? ⟨w.heap.size, 0, none⟩ = some (.int .i64 c.bt) ∧ w'.cell? ⟨w.heap.size, 1, none⟩ = some (.int .i64 c.rw) ∧ w'.cell? ⟨w.heap.size, 2, none⟩ = some (.int .i64 c.wd) ∧ w'.cell? ⟨w.heap.size, 3, none⟩ = some (.int .i64 c.md) ∧ w'.cell? ⟨w.heap.size, 4, none⟩ = some (.int .u64 c.sd) ∧ w'.cell? ⟨g, o, none⟩ = some (.int .u64 uk)) (first | (refine ⟨?_, ?_, ?_, ?_, ?_, ?_⟩ <;> (first | (with_reducible assumption) | (with_reducible refine cell_up c0 ?_) | (with_reducible refine cell_up c1 ?_) | (with_reducible refine cell_up c2 ?_) | (with_reducible refine cell_up c3 ?_) | (with_reducible refine cell_up c4 ?_) | (with_reducible refine cell_up d1 ?_)) <;> repeat' (first | (with_reducible exact Below.refl _ _) | (with_reducible assumption) | (with_reducible refine below_over ?_ _ _) | (with_reducible refine Lw.below_alloc ?_ _) | (with_reducible refine Below.drew ?_) | (with_reducible refine below_drewN ?_ _) | (with_reducible refine Below.setCell ?_ ?_ _) | go_size))) (first
        | (go_at_call 24; (with_reducible refine (CK.out _).mono ?_); rintro e w' ⟨rfl, hb⟩; obtain ⟨bs, dd, rfl⟩ := below_grow hb; clear hb)
        | (refine step_append_lies _ rfl _ _ 32 rfl (w.heap.size + 1) 44 i0 (.agg #[.int .u64 0, .int .i64 0]) 2 16 upds_u hi hz0 hz1 hz2 rfl (by decide) u7 k (flatU (tk (cutP c l) qs k)) rfl (own2_up hown (by repeat' (first | (with_reducible exact Below.refl _ _) | (with_reducible assumption) | (with_reducible refine below_over ?_ _ _) | (with_reducible refine Lw.below_alloc ?_ _) | (with_reducible refine Below.drew ?_) | (with_reducible refine below_drewN ?_ _) | (with_reducible refine Below.setCell ?_ ?_ _) | go_size))) ⟨_, 0, none⟩ 1 1 [.int .u64 U, .int .i64 D] rfl rfl (pair_news (alloc_at (by simp; done))) (pair_one U D) (by decide) (by unfold maxLen; omega) (by omega) (Nat.le_trans hbsz (Below.size (show Below wr.heap.size wr _ from (by repeat' (first | (with_reducible exact Below.refl _ _) | (with_reducible assumption) | (with_reducible refine below_over ?_ _ _) | (with_reducible refine Lw.below_alloc ?_ _) | (with_reducible refine Below.drew ?_) | (with_reducible refine below_drewN ?_ _) | (with_reducible refine Below.setCell ?_ ?_ _) | go_size))))) _ rfl ?_; intro gg capg w7 hown7 hgrow7 hat7 hlt7; have hb7 : Below w.heap.size w w7 := app_below3 (below_call hbel (by repeat' (first | (with_reducible exact Below.refl _ _) | (with_reducible assumption) | (with_reducible refine below_over ?_ _ _) | (with_reducible refine Lw.below_alloc ?_ _) | (with_reducible refine Below.drew ?_) | (with_reducible refine below_drewN ?_ _) | (with_reducible refine Below.setCell ?_ ?_ _) | go_size)) (Nat.le_refl _)) hgrow7 (fun q hq => by have := own_ge hown q hq; omega); have hbx7 : (boxT w.heap.size 31 #[.int .i64 c.bt, .int .i64 c.rw, .int .i64 c.wd, .int .i64 c.md, .int .u64 c.sd]).I w7 := heap_grown (upbox hbox (by repeat' (first | (with_reducible exact Below.refl _ _) | (with_reducible assumption) | (with_reducible refine below_over ?_ _ _) | (with_reducible refine Lw.below_alloc ?_ _) | (with_reducible refine Below.drew ?_) | (with_reducible refine below_drewN ?_ _) | (with_reducible refine Below.setCell ?_ ?_ _) | go_size))) hgrow7 (fun h => by have := own_ge hown _ h; omega); clear c0 c1 c2 c3 c4 d1; obtain ⟨c0, c1, c2, c3, c4⟩ := box5 hbx7; have d1 := cell_up HD1.out hb7))
      all_goals go_wp2
      all_goals go_roundw
      all_goals first
        | exact ⟨k + 1, by omega, .inl (by omega), by go_num, by rw [HNX.out]; exact hown7, hbx7, hb7⟩
        | (simp [intOf]; omega)
    · have hend : tk (cutP c l) qs k = tk (cutP c l) qs 30 := by
        rcases hk2 with h9 | h9
        · exact tk_end (by rw [HL.out]; omega)
        · subst h9
          exact tk_end (by rw [HL.out]; omega)
      rw [hend] at hown
      have hlen : (tk (cutP c l) qs 30).length = k := by
        unfold tk
        rw [List.length_map, List.length_take, HL.out]
        omega
      obtain ⟨A2, cap, rfl, hI, hF⟩ := upd_own hown hlen (fun u hu => by have := tkP_bd HKY.out qs 30 u hu; rw [HK.out] at this; omega)
      have HI := Lib.hid hI
      have HF := Lib.hid hF
      have HB := Lib.hid hbel
      have hcases : ((k : Int) < n0 ∧ ¬ (k : Int) < 30) ∨ ¬ (k : Int) < n0 := by omega
      clear hend hk2 hlt hI hF hbel hown hlen hbox
      rcases hcases with ⟨hc1, hc2⟩ | hc1
      all_goals go_wp2
      all_goals go_ret
      all_goals exact ⟨A2, k, cap, rfl, HI.out, fun q hq => by have := HF.out q hq; omega, HB.out⟩
end Go.Proofs.Ythecgkgnngpikaa.Inn
