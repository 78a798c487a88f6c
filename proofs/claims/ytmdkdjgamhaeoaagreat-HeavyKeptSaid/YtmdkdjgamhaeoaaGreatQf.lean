/- Texts that statements lean on, put together: LinMath, LinDone, LinPlay, LinLstM, ConDef, ConCode, ConMath, ConRef, SkDef, SkNum. -/
import Derived.Test.YtmdkdjgamhaeoaaGreatQa
import Derived.Test.YtmdkdjgamhaeoaaGreatQc
import Derived.Test.YtmdkdjgamhaeoaaGreatQd
import Derived.Test.YtmdkdjgamhaeoaaGreatQe
import Derived.Deep.LoopGhost
import Derived.Deep.RegionHeld3
import Derived.Deep.QuietTactic
import Derived.BigQuiet
import Derived.Deep.DeepCutAuto
import Derived.WalkSpells
/- Many changes of cells, in numbers: each cell is the sum of what was added by columns that name it. -/
namespace Go.Proofs.YtmdkdjgamhaeoaaGreat.Lin
open Go Go.RowKit Lw Grd
set_option linter.unusedVariables false
def Sz (m n : Nat) (L : List (List Int)) : Prop := L.length = m ∧ ∀ r ∈ L, r.length = n
def Within (b : Int) (L : List (List Int)) : Prop := ∀ r ∈ L, ∀ v ∈ r, -b ≤ v ∧ v ≤ b
/-- A number of a grid; 0 where there is none. -/
def cel (L : List (List Int)) (r c : Nat) : Int := ((L[r]?.getD [])[c]?).getD 0
theorem within_mono {b c : Int} {L : List (List Int)} (h : Within b L) (hbc : b ≤ c) : Within c L := fun r hr v hv => by have := h r hr v hv; omega
theorem sz_zeros (m n : Nat) : Sz m n (zerosL m n) := ⟨by simp [zerosL], fun r hr => by rw [(List.mem_replicate.1 hr).2]; simp⟩
theorem within_zeros (m n : Nat) : Within 0 (zerosL m n) := fun r hr v hv => by
  rw [(List.mem_replicate.1 hr).2] at hv
  rw [(List.mem_replicate.1 hv).2]
  omega
theorem sz_changed {m n : Nat} {L : List (List Int)} {cols : List Int} (h : Sz m n L) (hc : cols.length = m) (d : Int) : Sz m n (changed L cols d) := by
  refine ⟨by unfold changed; rw [List.length_zipWith, h.1, hc]; omega, fun r hr => ?_⟩
  obtain ⟨a, ha, b, hb, rfl⟩ := mem_zip hr
  rw [List.length_set]
  exact h.2 a ha
theorem getD_within {b : Int} {r : List Int} (h : ∀ v ∈ r, -b ≤ v ∧ v ≤ b) (hb : 0 ≤ b) (k : Nat) : -b ≤ r[k]?.getD 0 ∧ r[k]?.getD 0 ≤ b := by
  cases hv : r[k]? with
  | none => simp; omega
  | some v => simpa using h v (List.mem_of_getElem? hv)
theorem within_changed {b c : Int} {L : List (List Int)} {cols : List Int} {d : Int} (h : Within b L) (hb : 0 ≤ b) (hd : -c ≤ d ∧ d ≤ c) : Within (b + c) (changed L cols d) := by
  intro r hr v hv
  obtain ⟨a, ha, k, hk, rfl⟩ := mem_zip hr
  rcases List.mem_or_eq_of_mem_set hv with h1 | h1
  · have := h a ha v h1; omega
  · have := getD_within (h a ha) hb k.toNat; omega
theorem fits_within {b c : Int} {L : List (List Int)} {cols : List Int} {d : Int} (h : Within b L) (hb : 0 ≤ b) (hd : -c ≤ d ∧ d ≤ c) (hbc : b + c ≤ 9223372036854775807) : chFits L cols d = true := by
  unfold chFits
  refine List.all_eq_true.2 fun x hx => ?_
  obtain ⟨a, ha, k, hk, rfl⟩ := mem_zip hx
  have := getD_within (h a ha) hb k.toNat
  exact (Wid.fit64_yes (by omega) (by omega)).1
theorem ch_ok {m n : Nat} {L : List (List Int)} {cols : List Int} {d : Int} (hm : Meets m n cols) (hf : chFits L cols d = true) : chCode m n L cols d = 0 ∧ chRes m n L cols d = changed L cols d := by
  unfold chCode chRes
  rw [if_pos hm, if_pos hf, if_pos ⟨hm, hf⟩]
  exact ⟨rfl, rfl⟩
theorem meets_get {m n : Nat} {cols : List Int} (h : Meets m n cols) {r : Nat} (hr : r < m) : ∃ v : Nat, cols[r]? = some (v : Int) ∧ v < n := by
  have hl : r < cols.length := by rw [h.2.1]; exact hr
  have hm := h.2.2 _ (List.getElem_mem hl)
  refine ⟨cols[r].toNat, ?_, by omega⟩
  rw [List.getElem?_eq_getElem hl]
  congr 1
  omega
theorem cel_changed {m n : Nat} {L : List (List Int)} {cols : List Int} (h : Sz m n L) (hc : Meets m n cols) (d : Int) {r c : Nat} (hr : r < m) (hcn : c < n) : cel (changed L cols d) r c = cel L r c + (if cols[r]? = some (c : Int) then d else 0) := by
  have hl : r < L.length := by rw [h.1]; exact hr
  obtain ⟨v, hv, hvn⟩ := meets_get hc hr
  have hrow := h.2 _ (List.getElem_mem hl)
  unfold cel changed
  rw [List.getElem?_zipWith, List.getElem?_eq_getElem hl, hv]
  simp only [Option.getD_some, Int.toNat_natCast]
  by_cases e : v = c
  · subst e
    rw [if_pos rfl, List.getElem?_set_self (by omega)]
    rfl
  · rw [if_neg (by simp; omega), List.getElem?_set_ne e]
    omega
abbrev Ops := List (List Int × Int)
def chAll (L : List (List Int)) (ops : Ops) : List (List Int) := ops.foldl (fun L o => changed L o.1 o.2) L
/-- All of them meet, and none adds more than c. -/
def OpsOk (m n : Nat) (c : Int) (ops : Ops) : Prop := ∀ o ∈ ops, Meets m n o.1 ∧ -c ≤ o.2 ∧ o.2 ≤ c
theorem chAll_sz {m n : Nat} {c : Int} : ∀ {ops : Ops} {L : List (List Int)}, Sz m n L → OpsOk m n c ops → Sz m n (chAll L ops)
  | [], L, h, _ => h
  | o :: ops, L, h, g => chAll_sz (ops := ops) (sz_changed h (g o (by simp)).1.2.1 o.2) (fun p hp => g p (by simp [hp]))
theorem chAll_within {m n : Nat} {c : Int} (hc : 0 ≤ c) : ∀ {ops : Ops} {L : List (List Int)} {b : Int}, 0 ≤ b → Within b L → OpsOk m n c ops → Within (b + ops.length * c) (chAll L ops)
  | [], L, b, hb, h, _ => by simpa [chAll] using h
  | o :: ops, L, b, hb, h, g => by
    have ih := chAll_within hc (ops := ops) (L := changed L o.1 o.2) (b := b + c) (by omega) (within_changed h hb (g o (by simp)).2) (fun p hp => g p (by simp [hp]))
    have e : b + c + (ops.length : Int) * c = b + ((o :: ops).length : Int) * c := by
      have e1 : ((o :: ops).length : Int) = (ops.length : Int) + 1 := by simp
      rw [e1, Int.add_mul, Int.one_mul]
      omega
    rw [← e]
    exact ih
/-- What ops add to the cell. -/
def hit : Ops → Nat → Nat → Int
  | [], _, _ => 0
  | o :: ops, r, c => (if o.1[r]? = some (c : Int) then o.2 else 0) + hit ops r c
theorem chAll_cel {m n : Nat} {b : Int} {r c : Nat} (hr : r < m) (hcn : c < n) : ∀ {ops : Ops} {L : List (List Int)}, Sz m n L → OpsOk m n b ops → cel (chAll L ops) r c = cel L r c + hit ops r c
  | [], L, h, _ => by simp [chAll, hit]
  | o :: ops, L, h, g => by
    have ih := chAll_cel hr hcn (ops := ops) (sz_changed h (g o (by simp)).1.2.1 o.2) (fun p hp => g p (by simp [hp]))
    have e : chAll L (o :: ops) = chAll (changed L o.1 o.2) ops := rfl
    rw [e, ih, cel_changed h (g o (by simp)).1 o.2 hr hcn]
    simp only [hit]
    omega
theorem cel_zeros (m n r c : Nat) : cel (zerosL m n) r c = 0 := by
  unfold cel zerosL
  rw [List.getElem?_replicate]
  split
  · simp only [Option.getD_some]
    rw [List.getElem?_replicate]
    split <;> rfl
  · rfl
theorem named_cel {m n : Nat} {L : List (List Int)} {cols : List Int} (h : Sz m n L) (hc : Meets m n cols) {r v : Nat} (hr : r < m) (hv : cols[r]? = some (v : Int)) : (named L cols)[r]? = some (cel L r v) := by
  have hl : r < L.length := by rw [h.1]; exact hr
  unfold named cel
  rw [List.getElem?_zipWith, List.getElem?_eq_getElem hl, hv]
  simp
end Go.Proofs.YtmdkdjgamhaeoaaGreat.Lin
/- done of layer 8's laws: a grid that many changes were made to, and their columns. Printed by wip/gen/lindone.py. -/
namespace Go.Proofs.YtmdkdjgamhaeoaaGreat.Lin
open Go Go.RowKit Lw Grd
set_option linter.unusedVariables false
set_option linter.unusedSimpArgs false
structure Steps (w : World) (A : Option Addr) (n c : Nat) (qs : List StepV) : Prop where
  nil : A = none → n = 0 ∧ c = 0
  nc : n ≤ c
  cm : c ≤ maxLen
  len : qs.length = n
  each : ∀ (i : Nat) q, qs[i]? = some q → q.In w ∧ ∃ a, A = some a ∧ w.cell? (a.add (i * 2)) = some (.slice q.A q.n q.c) ∧ w.cell? (a.add (i * 2 + 1)) = some (.int .i64 q.d)
theorem StepV.In.up {q : StepV} {w w' : World} (h : q.In w) (hb : Below w.heap.size w w') : q.In w' := ⟨h.nil, h.nc, h.cm, h.rd.up hb, h.len, h.zb, h.db⟩
theorem Steps.up {w w' : World} {A : Option Addr} {n c : Nat} {qs : List StepV} (h : Steps w A n c qs) (hb : Below w.heap.size w w') : Steps w' A n c qs :=
  ⟨h.nil, h.nc, h.cm, h.len, fun i q hq => by
    obtain ⟨h1, a, e, h2, h3⟩ := h.each i q hq
    exact ⟨h1.up hb, a, e, cell_up h2 hb, cell_up h3 hb⟩⟩
theorem Steps.at {w : World} {A : Option Addr} {n c : Nat} {qs : List StepV} (h : Steps w A n c qs) {i : Nat} {q : StepV} (hq : qs[i]? = some q) : ∃ (a : Addr) (g o : Nat), A = some a ∧ a.add (i * 2) = ⟨g, o, none⟩ ∧ w.cell? ⟨g, o, none⟩ = some (.slice q.A q.n q.c) ∧ w.cell? ⟨g, o + 1, none⟩ = some (.int .i64 q.d) ∧ q.In w := by
  obtain ⟨hin, a, e, h1, h2⟩ := h.each i q hq
  rw [← add_add'] at h2
  have hs : (a.add (i * 2)).spot = none := by
    unfold World.cell? at h1
    split at h1
    · split at h1
      · cases h1
      · rename_i hs; simpa using hs
    · cases h1
  obtain ⟨ad, had⟩ : ∃ ad, a.add (i * 2) = ad := ⟨_, rfl⟩
  rw [had] at h1 h2 hs
  obtain ⟨g, o, sp⟩ := ad
  simp only at hs
  subst hs
  rw [Ord.add_at] at h2
  exact ⟨a, g, o, e, had, h1, h2, hin⟩
/-- A number cut to a small one; plain: as far from 0, above it. -/
def dv (plain : Bool) (d : Int) : Int := if plain = true then (if 0 ≤ Int.tmod d 1099511627776 then Int.tmod d 1099511627776 else -Int.tmod d 1099511627776) else Int.tmod d 1099511627776
theorem tmod_bd (d : Int) : -1099511627776 < Int.tmod d 1099511627776 ∧ Int.tmod d 1099511627776 < 1099511627776 := by
  have h1 := Int.tmod_lt_of_pos d (show (0 : Int) < 1099511627776 by omega)
  have h3 := Int.tmod_lt_of_pos (-d) (show (0 : Int) < 1099511627776 by omega)
  rw [Int.neg_tmod] at h3
  omega
theorem dv_bd (plain : Bool) (d : Int) : -1099511627776 ≤ dv plain d ∧ dv plain d ≤ 1099511627776 := by
  have := tmod_bd d
  unfold dv
  split
  · split <;> omega
  · omega
theorem dv_plain (d : Int) : 0 ≤ dv true d := by
  unfold dv
  rw [if_pos rfl]
  split <;> omega
def idx (turned : Bool) (N k : Nat) : Nat := if turned = true then N - 1 - k else k
def opsOf (turned plain : Bool) (m n : Nat) (qs : List StepV) : Ops := (if turned = true then (qs.take 60).reverse else qs.take 60).map (fun q => (cutOf q.zs m n, dv plain q.d))
end Go.Proofs.YtmdkdjgamhaeoaaGreat.Lin
/- The opening of a Play of layer 8's laws. Printed by wip/gen/linlaws2.py. -/
namespace Go.Proofs.YtmdkdjgamhaeoaaGreat.Lin
open Go Go.RowKit Lw Grd
set_option linter.unusedVariables false
set_option linter.unusedSimpArgs false
end Go.Proofs.YtmdkdjgamhaeoaaGreat.Lin
/- What columns have of their own, and what others add in a row: in numbers. -/
namespace Go.Proofs.YtmdkdjgamhaeoaaGreat.Lin
open Go Go.RowKit Lw Grd
set_option linter.unusedVariables false
def own (cols : List Int) : Ops → Int
  | [] => 0
  | o :: ops => (if o.1 = cols then o.2 else 0) + own cols ops
def oth (cols : List Int) (r : Nat) : Ops → Int
  | [] => 0
  | o :: ops => (if o.1 = cols then 0 else if o.1[r]? = cols[r]? then o.2 else 0) + oth cols r ops
theorem own_app (cols : List Int) : ∀ a b : Ops, own cols (a ++ b) = own cols a + own cols b
  | [], b => by simp [own]
  | o :: a, b => by
    simp only [List.cons_append, own, own_app cols a b]
    omega
def Plus (b : Int) (ops : Ops) : Prop := ∀ o ∈ ops, 0 ≤ o.2 ∧ o.2 ≤ b
/-- What others have in each row, behind the first k; the first r rows already behind one more. -/
def othR (cols : List Int) (m : Nat) (ops : Ops) (k r : Nat) : List Int := (List.range m).map (fun i => if i < r then oth cols i (ops.take (k + 1)) else oth cols i (ops.take k))
end Go.Proofs.YtmdkdjgamhaeoaaGreat.Lin
/- What a raise makes of a grid, in numbers. For stages from 9 on. -/
namespace Go.Proofs.YtmdkdjgamhaeoaaGreat.Con
open Go Go.RowKit Lw Grd Lin
set_option linter.unusedVariables false
/-- The least of the cells that columns name. -/
def lea (L : List (List Int)) (cols : List Int) : Int := Ord.kv (named L cols) 0
def raised (L : List (List Int)) (cols : List Int) (x : Int) : List (List Int) := List.zipWith (fun r c => r.set c.toNat (max (r[c.toNat]?.getD 0) x)) L cols
def rsCode (m n : Nat) (L : List (List Int)) (cols : List Int) (d : Int) : Int := if Meets m n cols then (if d < 0 then 3 else if Wid.fit64 (lea L cols + d) = true then 0 else 4) else 1
def rsRes (m n : Nat) (L : List (List Int)) (cols : List Int) (d : Int) : List (List Int) := if Meets m n cols ∧ 0 ≤ d ∧ Wid.fit64 (lea L cols + d) = true then raised L cols (lea L cols + d) else L
theorem rs_no {m n : Nat} {L : List (List Int)} {cols : List Int} {d : Int} (h : ¬ Meets m n cols) : rsCode m n L cols d = 1 ∧ rsRes m n L cols d = L := ⟨if_neg h, if_neg (fun g => h g.1)⟩
theorem rs_neg {m n : Nat} {L : List (List Int)} {cols : List Int} {d : Int} (h : Meets m n cols) (hd : d < 0) : rsCode m n L cols d = 3 ∧ rsRes m n L cols d = L := by
  unfold rsCode rsRes
  rw [if_pos h, if_pos hd, if_neg (fun g => by have := g.2.1; omega)]
  exact ⟨rfl, rfl⟩
theorem rs_over {m n : Nat} {L : List (List Int)} {cols : List Int} {d : Int} (h : Meets m n cols) (hd : 0 ≤ d) (hf : Wid.fit64 (lea L cols + d) = false) : rsCode m n L cols d = 4 ∧ rsRes m n L cols d = L := by
  unfold rsCode rsRes
  rw [if_pos h, if_neg (by omega), hf, if_neg (by simp), if_neg (by simp)]
  exact ⟨rfl, rfl⟩
theorem rs_yes {m n : Nat} {L : List (List Int)} {cols : List Int} {d : Int} (h : Meets m n cols) (hd : 0 ≤ d) (hf : Wid.fit64 (lea L cols + d) = true) : rsCode m n L cols d = 0 ∧ rsRes m n L cols d = raised L cols (lea L cols + d) := by
  unfold rsCode rsRes
  rw [if_pos h, if_neg (by omega), hf, if_pos rfl, if_pos ⟨h, hd, rfl⟩]
  exact ⟨rfl, rfl⟩
theorem raised_len {L : List (List Int)} {cols : List Int} (x : Int) (h : cols.length = L.length) : (raised L cols x).length = L.length := by unfold raised; rw [List.length_zipWith]; omega
theorem raised_at {m n : Nat} {L : List (List Int)} {cols : List Int} (hd : Dims m n L) (h : Meets m n cols) (x : Int) {k : Nat} {v : Int} (hv : cols[k]? = some v) : (raised L cols x)[k]? = (L[k]?.map (fun r => r.set v.toNat (max (at2 L k v) x))) := by
  have hk : k < cols.length := (List.getElem?_eq_some_iff.1 hv).1
  have hl : k < L.length := by rw [hd.len, ← h.2.1]; exact hk
  have hb := meets_at h hv
  unfold raised at2
  rw [List.getElem?_zipWith, hv, List.getElem?_eq_getElem hl, if_neg (by omega)]
  simp [List.getElem?_eq_getElem hl]
theorem at2_in {m n : Nat} {L : List (List Int)} (hd : Dims m n L) (k : Nat) (v : Int) : -9223372036854775808 ≤ at2 L k v ∧ at2 L k v ≤ 9223372036854775807 := by
  unfold at2
  split
  · omega
  · cases e : L[(k : Int).toNat]? with
    | none => simp
    | some r =>
      have h2 := hd.rows r (List.mem_of_getElem? e)
      simp only [Option.getD_some]
      cases e2 : r[v.toNat]? with
      | none => simp
      | some y => simpa using h2.2 y (List.mem_of_getElem? e2)
theorem lea_in {m n : Nat} {L : List (List Int)} {cols : List Int} (hd : Dims m n L) : -9223372036854775808 ≤ lea L cols ∧ lea L cols ≤ 9223372036854775807 :=
  Ord.kv_in _ _ _ _ (by omega) (by omega) (named_in hd)
end Go.Proofs.YtmdkdjgamhaeoaaGreat.Con
/- The walks of package conserve (the code's): cells that rise. -/
namespace Go.Proofs.YtmdkdjgamhaeoaaGreat.Con
open Go Go.RowKit Lw Grd Lin
set_option linter.unusedVariables false
set_option linter.unusedSimpArgs false
theorem rise_at {m n : Nat} {L : List (List Int)} {cols : List Int} (hd : Dims m n L) (h : Meets m n cols) (x : Int) {k : Nat} {v : Int} (hv : cols[k]? = some v) (hD : Dims m n (upto2 L (raised L cols x) k)) :
    at2 (upto2 L (raised L cols x) k) k v = at2 L k v ∧ setL (upto2 L (raised L cols x) k) k v (max (at2 L k v) x) = upto2 L (raised L cols x) (k + 1) := by
  have hk : k < cols.length := (List.getElem?_eq_some_iff.1 hv).1
  have hl : cols.length = L.length := by rw [hd.len]; exact h.2.1
  have hb := meets_at h hv
  have hL : L[k]? = some (L[k]'(by omega)) := List.getElem?_eq_getElem (by omega)
  have hY := raised_at hd h x hv
  rw [hL] at hY
  have hX := upto2_get (X := L) (Y := raised L cols x) (n := L.length) rfl (raised_len x hl) (k := k) (by omega)
  have hin : in2 (upto2 L (raised L cols x) k) k v = true := by
    rw [in2_dims hD]
    have := hd.len
    exact decide_eq_true ⟨by omega, by omega, hb.1, hb.2⟩
  refine ⟨?_, ?_⟩
  · unfold at2
    rw [Int.toNat_natCast, hX]
  rw [hL] at hX
  rw [← upto2_set (n := L.length) rfl (raised_len x hl) hY]
  unfold setL
  rw [if_pos hin]
  apply List.ext_getElem?
  intro i
  rw [List.getElem?_modify, List.getElem?_set, Int.toNat_natCast]
  have hln := upto2_len (X := L) (Y := raised L cols x) (n := L.length) rfl (raised_len x hl) (k := k) (by omega)
  by_cases e : k = i
  · subst e
    rw [hX, if_pos rfl, hln, if_pos (by omega)]
    simp
  · rw [if_neg e]
    simp [e]
set_option maxRecDepth 100000 in
/-- The closure that lets a cell rise: it holds the grid and the number in two cells. -/
theorem rise_any (p : Addr) (F : Nat → Prop) (m n : Nat) (L : List (List Int)) (row col x : Int) (b0 b1 : Nat) (w : World) (h : PG w p F m n L)
    (c0 : w.cell? ⟨b0, 0, none⟩ = some (.pointer (some p))) (c1 : w.cell? ⟨b1, 0, none⟩ = some (.int .i64 x)) (hf0 : ¬ F b0) (hf1 : ¬ F b1)
    (r0 : -9223372036854775808 ≤ row) (r1 : row ≤ 9223372036854775807) (k0 : -9223372036854775808 ≤ col) (k1 : col ≤ 9223372036854775807) (x0 : -9223372036854775808 ≤ x) (x1 : x ≤ 9223372036854775807)
    (a y : Int) (ha : at2 L row col = a) (a0 : -9223372036854775808 ≤ a) (a1 : a ≤ 9223372036854775807) (hy : max a x = y) :
    Calls Tryz.prog 167 #[.int .i64 row, .int .i64 col, .pointer (some ⟨b0, 0, none⟩), .pointer (some ⟨b1, 0, none⟩)] w fun e w' => e = .returned (.tuple #[]) ∧ ∃ F', PG w' p F' m n (setL L row col y) ∧ Kept F w w' ∧ (∀ k, F' k → F k ∨ w.heap.size ≤ k) := by
  have HP := Lib.hid h
  have C : Hid (∀ w', Below w.heap.size w w' → Calls Tryz.prog 138 #[.pointer (some p), .int .i64 row, .int .i64 col] w' fun e w2 => e = .returned (.int .i64 a) ∧ Below w'.heap.size w' w2) := Lib.hid (fun w' hb => ha ▸ at_any p F m n L row col w' (pg_up h hb) r0 r1 k0 k1)
  have D : Hid (∀ y w', -9223372036854775808 ≤ y → y ≤ 9223372036854775807 → Below w.heap.size w w' → Calls Tryz.prog 137 #[.pointer (some p), .int .i64 row, .int .i64 col, .int .i64 y] w' fun e w2 => ∃ b F', e = .returned (.bool b) ∧ PG w2 p F' m n (setL L row col y) ∧ Kept F w w2 ∧ (∀ k, F' k → F k ∨ w.heap.size ≤ k)) := Lib.hid (fun y w' h0 h1 hb => (put_any p F m n L row col y w' (pg_up h hb) r0 r1 k0 k1 h0 h1).mono (fun e w2 h => by obtain ⟨e1, F', h2, h3, h4⟩ := h; exact ⟨_, F', e1, h2, (Kept.of_below hb).trans h3 (fun q hq h => h), fun q hq => (h4 q hq).elim .inl (fun h => .inr (Nat.le_trans hb.size h))⟩))
  clear h ha
  by_cases hc : a < x
  · have e : y = x := by omega
    subst y
    skip
    go_enter Tryz.func167, Tryz.ntmps167
    go_region_held3 (fun w' => w'.cell? ⟨b0, 0, none⟩ = some (.pointer (some p)) ∧ w'.cell? ⟨b1, 0, none⟩ = some (.int .i64 x)) (first | (refine ⟨?_, ?_⟩ <;> (first | (with_reducible assumption) | (with_reducible refine cell_up c0 ?_) | (with_reducible refine cell_up c1 ?_)) <;> (repeat' (first | (with_reducible exact Below.refl _ _) | (with_reducible assumption) | (with_reducible refine below_over ?_ _ _) | (with_reducible refine Lw.below_alloc ?_ _) | (with_reducible refine Below.drew ?_) | (with_reducible refine below_drewN ?_ _) | go_size)))) (first
      | (go_at_call 138; (with_reducible refine (C.out _ (by (repeat' (first | (with_reducible exact Below.refl _ _) | (with_reducible assumption) | (with_reducible refine below_over ?_ _ _) | (with_reducible refine Lw.below_alloc ?_ _) | (with_reducible refine Below.drew ?_) | (with_reducible refine below_drewN ?_ _) | go_size)))).mono ?_); rintro e w5 ⟨rfl, hb⟩; obtain ⟨bs, d, rfl⟩ := below_grow hb; clear hb)
      | (go_at_call 137; (with_reducible refine (D.out _ _ (by omega) (by omega) (by (repeat' (first | (with_reducible exact Below.refl _ _) | (with_reducible assumption) | (with_reducible refine below_over ?_ _ _) | (with_reducible refine Lw.below_alloc ?_ _) | (with_reducible refine Below.drew ?_) | (with_reducible refine below_drewN ?_ _) | go_size)))).mono ?_); rintro e w6 ⟨b, F6, rfl, hp6, hk6, hf6⟩; have HP6 := Lib.hid hp6; have HK6 := Lib.hid hk6; have HF6 := Lib.hid hf6; clear hp6 hf6; have x0 : w6.cell? ⟨b0, 0, none⟩ = some (.pointer (some p)) := hk6.cell c0 hf0; have x1 : w6.cell? ⟨b1, 0, none⟩ = some (.int .i64 x) := hk6.cell c1 hf1; clear hk6))
    all_goals go_wp2
    all_goals go_returns
    all_goals exact ⟨rfl, F6, (by have h6 := HP6.out; first | exact e.symm ▸ h6 | (rw [if_neg (by omega)] at h6; exact e.symm ▸ h6)), HK6.out, HF6.out⟩
  · have hc2 : x ≤ a := by omega
    have e : y = a := by omega
    subst y
    skip
    go_enter Tryz.func167, Tryz.ntmps167
    go_region_held3 (fun w' => w'.cell? ⟨b0, 0, none⟩ = some (.pointer (some p)) ∧ w'.cell? ⟨b1, 0, none⟩ = some (.int .i64 x)) (first | (refine ⟨?_, ?_⟩ <;> (first | (with_reducible assumption) | (with_reducible refine cell_up c0 ?_) | (with_reducible refine cell_up c1 ?_)) <;> (repeat' (first | (with_reducible exact Below.refl _ _) | (with_reducible assumption) | (with_reducible refine below_over ?_ _ _) | (with_reducible refine Lw.below_alloc ?_ _) | (with_reducible refine Below.drew ?_) | (with_reducible refine below_drewN ?_ _) | go_size)))) (first
      | (go_at_call 138; (with_reducible refine (C.out _ (by (repeat' (first | (with_reducible exact Below.refl _ _) | (with_reducible assumption) | (with_reducible refine below_over ?_ _ _) | (with_reducible refine Lw.below_alloc ?_ _) | (with_reducible refine Below.drew ?_) | (with_reducible refine below_drewN ?_ _) | go_size)))).mono ?_); rintro e w5 ⟨rfl, hb⟩; obtain ⟨bs, d, rfl⟩ := below_grow hb; clear hb)
      | (go_at_call 137; (with_reducible refine (D.out _ _ (by omega) (by omega) (by (repeat' (first | (with_reducible exact Below.refl _ _) | (with_reducible assumption) | (with_reducible refine below_over ?_ _ _) | (with_reducible refine Lw.below_alloc ?_ _) | (with_reducible refine Below.drew ?_) | (with_reducible refine below_drewN ?_ _) | go_size)))).mono ?_); rintro e w6 ⟨b, F6, rfl, hp6, hk6, hf6⟩; have HP6 := Lib.hid hp6; have HK6 := Lib.hid hk6; have HF6 := Lib.hid hf6; clear hp6 hf6; have x0 : w6.cell? ⟨b0, 0, none⟩ = some (.pointer (some p)) := hk6.cell c0 hf0; have x1 : w6.cell? ⟨b1, 0, none⟩ = some (.int .i64 x) := hk6.cell c1 hf1; clear hk6))
    all_goals go_wp2
    all_goals go_returns
    all_goals exact ⟨rfl, F6, (by have h6 := HP6.out; first | exact e.symm ▸ h6 | (rw [if_neg (by omega)] at h6; exact e.symm ▸ h6)), HK6.out, HF6.out⟩
theorem rising_any (p : Addr) (x : Int) (w : World) :
    Calls Tryz.prog 160 #[.pointer (some p), .int .i64 x] w fun e w' => ∃ b0 b1, e = .returned (.func (.func 167) #[] #[.pointer (some ⟨b0, 0, none⟩), .pointer (some ⟨b1, 0, none⟩)]) ∧ w'.cell? ⟨b0, 0, none⟩ = some (.pointer (some p)) ∧ w'.cell? ⟨b1, 0, none⟩ = some (.int .i64 x) ∧ w.heap.size ≤ b0 ∧ w.heap.size ≤ b1 ∧ b0 < w'.heap.size ∧ b1 < w'.heap.size ∧ Below w.heap.size w w' := by
  have hmf : ∀ (fn : Fn) (first cap : Array Value) (w : World), (Instr.makeFunc fn first cap).run Tryz.prog w = .ok (.func fn first cap) w := fun _ _ _ _ => rfl
  go_enter Tryz.func160, Tryz.ntmps160
  go_wp2
  go_ret
  refine ⟨_, _, rfl, by simp [go_sem], by simp [go_sem], Nat.le_refl _, by simp, by simp, by simp, ?_⟩
  (repeat' (first | (with_reducible exact Below.refl _ _) | (with_reducible assumption) | (with_reducible refine below_over ?_ _ _) | (with_reducible refine Lw.below_alloc ?_ _) | (with_reducible refine Below.drew ?_) | (with_reducible refine below_drewN ?_ _) | go_size))
theorem least_no (p : Addr) (F : Nat → Prop) (m n : Nat) (L : List (List Int)) (A : Option Addr) (N cap : Nat) (cols : List Int) (w : World) (h : PG w p F m n L) (hc : Rd .i64 w A cols) (hl : cols.length = N) (hN : N ≤ 1000) (hz : In64 cols) (hm : ¬ Meets m n cols) :
    Calls Tryz.prog 154 #[.pointer (some p), .slice A N cap] w fun e w' => e = .returned (.tuple #[.int .i64 0, .int .i64 1]) ∧ Below w.heap.size w w' := by
  have C := least_any p F m n L A N cap cols w h hc hl hN hz
  rw [(readOf_no (L := L) hm).1, (readOf_no (L := L) hm).2] at C
  rw [(Ord.kv_no (l := []) (k := _) (by simp)).1] at C
  exact C
theorem least_yes (p : Addr) (F : Nat → Prop) (m n : Nat) (L : List (List Int)) (A : Option Addr) (N cap : Nat) (cols : List Int) (w : World) (h : PG w p F m n L) (hc : Rd .i64 w A cols) (hl : cols.length = N) (hN : N ≤ 1000) (hz : In64 cols) (hm : Meets m n cols) :
    Calls Tryz.prog 154 #[.pointer (some p), .slice A N cap] w fun e w' => e = .returned (.tuple #[.int .i64 (lea L cols), .int .i64 0]) ∧ Below w.heap.size w w' := by
  have C := least_any p F m n L A N cap cols w h hc hl hN hz
  rw [(readOf_yes (L := L) hm).1, (readOf_yes (L := L) hm).2] at C
  exact C
set_option maxRecDepth 100000 in
set_option maxHeartbeats 4000000 in
theorem raise_any (p : Addr) (F : Nat → Prop) (m n : Nat) (L : List (List Int)) (A : Option Addr) (N cap : Nat) (cols : List Int) (d : Int) (w : World) (h : PG w p F m n L) (hc : Rd .i64 w A cols) (hap : ∀ a, A = some a → ¬ F a.block) (hl : cols.length = N) (hN : N ≤ 1000) (hz : In64 cols) (d0 : -9223372036854775808 ≤ d) (d1 : d ≤ 9223372036854775807) :
    Calls Tryz.prog 153 #[.pointer (some p), .slice A N cap, .int .i64 d] w fun e w' => e = .returned (.int .i64 (rsCode m n L cols d)) ∧ ∃ F', PG w' p F' m n (rsRes m n L cols d) ∧ Kept F w w' ∧ (∀ k, F' k → F k ∨ w.heap.size ≤ k) := by
  have HP := Lib.hid h
  have hbd : ∀ (w' : World), Below w.heap.size w w' → ∃ (F' : Nat → Prop), PG w' p F' m n L ∧ Kept F w w' ∧ (∀ k, F' k → F k ∨ w.heap.size ≤ k) := fun w' hb => ⟨F, pg_up h hb, Kept.of_below hb, fun k hk => .inl hk⟩
  by_cases hm : Meets m n cols
  · have C := Lib.hid (least_yes p F m n L A N cap cols w h hc hl hN hz hm)
    by_cases hd : d < 0
    · rw [(rs_neg hm hd).1, (rs_neg hm hd).2]
      clear h hc hl hz hm hap
      have HBD := Lib.hid hbd
      clear hbd
      go_enter Tryz.func153, Tryz.ntmps153
      go_wp2_with (go_at_call 154; (with_reducible refine C.out.mono ?_); rintro e w1 ⟨rfl, hb⟩; have HB1 := Lib.hid hb; clear hb)
      go_ret
      exact ⟨rfl, HBD.out _ HB1.out⟩
    have hlb := lea_in (cols := cols) h.1
    have hd2 : 0 ≤ d := by omega
    cases hf : Wid.fit64 (lea L cols + d) with
    | false =>
      rw [(rs_over hm hd2 hf).1, (rs_over hm hd2 hf).2]
      clear h hc hl hz hm hap
      have HBD := Lib.hid hbd
      clear hbd
      go_enter Tryz.func153, Tryz.ntmps153
      go_wp2_with (first
        | (go_at_call 154; (with_reducible refine C.out.mono ?_); rintro e w1 ⟨rfl, hb⟩; have HB1 := Lib.hid hb; clear hb)
        | (go_at_call 140; (with_reducible refine (Wid.plus_any (lea L cols) d _ hlb.1 hlb.2 d0 d1).mono ?_); rintro e w2 ⟨rfl, hb⟩; rw [hf]; have HB2 := Lib.hid hb; clear hb))
      go_ret
      exact ⟨rfl, HBD.out _ (below_call HB1.out HB2.out (Nat.le_refl _))⟩
    | true =>
      rw [(rs_yes hm hd2 hf).1, (rs_yes hm hd2 hf).2]
      have hfb := fit64_in hf
      have HV : Hid (Wid.f64 (lea L cols + d) = lea L cols + d) := Lib.hid (if_pos hf)
      obtain ⟨x, hx⟩ : ∃ x, lea L cols + d = x := ⟨_, rfl⟩
      rw [hx] at hfb HV hf ⊢
      obtain ⟨a, rfl⟩ := hc.some_of (by have := hm.1; have := hm.2.1; omega)
      have HL := Lib.hid hl
      have HC := Lib.hid hc
      have HZ := Lib.hid hz
      have HM := Lib.hid hm
      have HAP := Lib.hid hap
      have HD := Lib.hid h.1
      have HX := Lib.hid hx
      clear h hl hc hz hm hap hbd hx
      go_enter Tryz.func153, Tryz.ntmps153
      go_wp2_with (first
        | (go_at_call 154; (with_reducible refine C.out.mono ?_); rintro e w1 ⟨rfl, hb⟩; have HB1 := Lib.hid hb; clear hb)
        | (go_at_call 140; (with_reducible refine (Wid.plus_any (lea L cols) d _ hlb.1 hlb.2 d0 d1).mono ?_); rintro e w2 ⟨rfl, hb⟩; rw [HX.out, hf, HV.out]; have HB2 := Lib.hid hb; clear hb)
        | (go_at_call 160; (with_reducible refine (rising_any p x _).mono ?_); rintro e w3 ⟨b0, b1, rfl, c0, c1, hg0, hg1, hl0, hl1, hb⟩; have HB3 := Lib.hid hb; clear hb))
      have hbb := below_call (below_call HB1.out HB2.out (Nat.le_refl _)) HB3.out (Nat.le_refl _)
      have HBB := Lib.hid hbb
      have HPo := Lib.hid (pg_up HP.out hbb)
      have HCo := Lib.hid (HC.out.up hbb)
      have hs12 : w.heap.size ≤ w2.heap.size := (below_call HB1.out HB2.out (Nat.le_refl _)).size
      have hF0 : ¬ F b0 := fun hk => by have := (pgT p F m n L).lt w HP.out b0 hk; omega
      have hF1 : ¬ F b1 := fun hk => by have := (pgT p F m n L).lt w HP.out b1 hk; omega
      have HFl : Hid (∀ k, F k → k < w3.heap.size) := Lib.hid (fun k hk => (pgT p F m n L).lt w3 HPo.out k hk)
      have HW : Hid (w.heap.size ≤ w3.heap.size) := Lib.hid hbb.size
      obtain ⟨wo, hwo⟩ : ∃ wo, wo = w3 := ⟨_, rfl⟩
      subst w3
      clear hbb hs12 hg0 hg1
      go_wp2
      go_loopw [38] (fun i wr => ∃ (k : Nat) (F' : Nat → Prop), k ≤ N ∧ i = .int .i64 k ∧ PG wr p F' m n (upto2 L (raised L cols x) k) ∧ Kept F wo wr ∧ (∀ q, F' q → F q ∨ wo.heap.size ≤ q)) (fun i _ => N - (intOf i).toNat)
      case atStart => exact ⟨0, F, Nat.zero_le _, rfl, by rw [upto2_start]; exact HPo.out, Kept.refl _ _, fun q hq => .inl hq⟩
      case round =>
        obtain ⟨k, F', hk, rfl, hp, hkept, hF⟩ := hrel
        have HPk := Lib.hid hp
        have HKk := Lib.hid hkept
        have HFk := Lib.hid hF
        clear hp hkept hF
        by_cases hlt2 : k < N
        · obtain ⟨v, hv⟩ : ∃ v, cols[k]? = some v := ⟨_, List.getElem?_eq_getElem (by rw [HL.out]; exact hlt2)⟩
          have hvb := HZ.out.at hv
          have e1 := (HCo.out.keep HKk.out HAP.out).at hv
          have d0' := HKk.out.cell c0 hF0
          have d1' := HKk.out.cell c1 hF1
          have hF0' : ¬ F' b0 := fun h => (HFk.out b0 h).elim hF0 (fun h => by omega)
          have hF1' : ¬ F' b1 := fun h => (HFk.out b1 h).elim hF1 (fun h => by omega)
          have HPA := Lib.hid (rise_at HD.out HM.out x hv HPk.out.dims)
          have HAT := Lib.hid (at2_in HD.out k v)
          have C4 := Lib.hid (fun (w' : World) (hw : PG w' p F' m n (upto2 L (raised L cols x) k) ∧ w'.cell? ⟨b0, 0, none⟩ = some (.pointer (some p)) ∧ w'.cell? ⟨b1, 0, none⟩ = some (.int .i64 x)) => rise_any p F' m n (upto2 L (raised L cols x) k) k v x b0 b1 w' hw.1 hw.2.1 hw.2.2 hF0' hF1' (by omega) (by omega) hvb.1 hvb.2 hfb.1 hfb.2 (at2 L k v) (max (at2 L k v) x) HPA.out.1 HAT.out.1 HAT.out.2 rfl)
          clear hv hF0' hF1'
          go_wp2_with (go_at_call 167; (with_reducible refine (C4.out _ ⟨HPk.out, d0', d1'⟩).mono ?_); rintro e5 w5 ⟨rfl, F5, hp5, hk5, hf5⟩; have HP5 := Lib.hid hp5; have HK5 := Lib.hid hk5; have HF5 := Lib.hid hf5; clear hp5 hk5 hf5)
          go_roundw
          case rel => exact ⟨k + 1, F5, by omega, by go_num, HPA.out.2 ▸ HP5.out, HKk.out.trans HK5.out (fun q hq h => (HFk.out q h).elim id (fun h2 => by omega)), fun q hq => (HF5.out q hq).elim (fun h => HFk.out q h) (fun h => .inr (by have := HKk.out.size; omega))⟩
          case measure => simp [intOf]; omega
        · have e : k = N := by omega
          subst e
          have hpe := HPk.out
          rw [upto2_end (n := k) (by rw [HD.out.len, ← HM.out.2.1]; exact HL.out) (by rw [raised_len x (by rw [HD.out.len]; exact HM.out.2.1), HD.out.len, ← HM.out.2.1]; exact HL.out)] at hpe
          have HPE := Lib.hid hpe
          clear hpe
          go_wp2
          go_ret
          exact ⟨rfl, F', HPE.out, (Kept.of_below HBB.out).trans HKk.out (fun q hq h => h), fun q hq => (HFk.out q hq).elim .inl (fun h => .inr (by have := HW.out; omega))⟩
  · have C := Lib.hid (least_no p F m n L A N cap cols w h hc hl hN hz hm)
    rw [(rs_no hm).1, (rs_no hm).2]
    clear h hc hl hz hm hap
    have HBD := Lib.hid hbd
    clear hbd
    go_enter Tryz.func153, Tryz.ntmps153
    go_wp2_with (go_at_call 154; (with_reducible refine C.out.mono ?_); rintro e w1 ⟨rfl, hb⟩; have HB1 := Lib.hid hb; clear hb)
    go_ret
    exact ⟨rfl, HBD.out _ HB1.out⟩
end Go.Proofs.YtmdkdjgamhaeoaaGreat.Con
/- Many raises, in numbers: no cell is above what it would be if all had been added; Least of columns is not below what they were raised by. -/
namespace Go.Proofs.YtmdkdjgamhaeoaaGreat.Con
open Go Go.RowKit Lw Grd Lin
set_option linter.unusedVariables false
def rsAll (L : List (List Int)) (ops : Ops) : List (List Int) := ops.foldl (fun L o => raised L o.1 (lea L o.1 + o.2)) L
theorem rsAll_one (L : List (List Int)) (ops : Ops) (o : List Int × Int) : rsAll L (ops ++ [o]) = raised (rsAll L ops) o.1 (lea (rsAll L ops) o.1 + o.2) := by
  unfold rsAll
  rw [List.foldl_append]
  rfl
theorem chAll_one (L : List (List Int)) (ops : Ops) (o : List Int × Int) : chAll L (ops ++ [o]) = changed (chAll L ops) o.1 o.2 := by
  unfold chAll
  rw [List.foldl_append]
  rfl
theorem sz_raised {m n : Nat} {L : List (List Int)} {cols : List Int} (h : Sz m n L) (hc : cols.length = m) (x : Int) : Sz m n (raised L cols x) := by
  refine ⟨by unfold raised; rw [List.length_zipWith, h.1, hc]; omega, fun r hr => ?_⟩
  obtain ⟨a, ha, b, hb, rfl⟩ := mem_zip hr
  rw [List.length_set]
  exact h.2 a ha
theorem cel_raised {m n : Nat} {L : List (List Int)} {cols : List Int} (h : Sz m n L) (hc : Meets m n cols) (x : Int) {r c : Nat} (hr : r < m) (hcn : c < n) : cel (raised L cols x) r c = if cols[r]? = some (c : Int) then max (cel L r c) x else cel L r c := by
  have hl : r < L.length := by rw [h.1]; exact hr
  obtain ⟨v, hv, hvn⟩ := meets_get hc hr
  have hrow := h.2 _ (List.getElem_mem hl)
  unfold cel raised
  rw [List.getElem?_zipWith, List.getElem?_eq_getElem hl, hv]
  simp only [Option.getD_some, Int.toNat_natCast]
  by_cases e : v = c
  · subst e
    rw [if_pos rfl, List.getElem?_set_self (by omega)]
    rfl
  · rw [if_neg (by simp; omega), List.getElem?_set_ne e]
theorem lea_mem {m n : Nat} {L : List (List Int)} {cols : List Int} (h : Sz m n L) (hc : Meets m n cols) : lea L cols ∈ named L cols ∧ ∀ y ∈ named L cols, lea L cols ≤ y := by
  have hl := named_len (L := L) (cols := cols) (by rw [hc.2.1, h.1])
  rw [h.1] at hl
  have hm := hc.1
  unfold lea
  rw [(Ord.kv_yes (k := 0) (by omega) (by rw [hl]; omega)).1]
  have hr := Ord.ranks_kth (named L cols) (0 : Int).toNat (by rw [hl]; simp; omega)
  refine ⟨hr.1, fun y hy => ?_⟩
  have h2 : Ord.less (named L cols) (Ord.kth (named L cols) (0 : Int).toNat) = 0 := by have := hr.2.1; simp at this ⊢; exact this
  unfold Ord.less at h2
  rw [List.countP_eq_zero] at h2
  have := h2 y hy
  simpa using this
theorem lea_le {m n : Nat} {L : List (List Int)} {cols : List Int} (h : Sz m n L) (hc : Meets m n cols) {r v : Nat} (hr : r < m) (hv : cols[r]? = some (v : Int)) : lea L cols ≤ cel L r v :=
  (lea_mem h hc).2 _ (List.mem_of_getElem? (named_cel h hc hr hv))
theorem lea_is {m n : Nat} {L : List (List Int)} {cols : List Int} (h : Sz m n L) (hc : Meets m n cols) : ∃ r v : Nat, r < m ∧ v < n ∧ cols[r]? = some (v : Int) ∧ lea L cols = cel L r v := by
  obtain ⟨r, hr, e⟩ := List.mem_iff_getElem.1 (lea_mem h hc).1
  have hl := named_len (L := L) (cols := cols) (by rw [hc.2.1, h.1])
  rw [h.1] at hl
  obtain ⟨v, hv, hvn⟩ := meets_get hc (show r < m by omega)
  have e2 := named_cel h hc (show r < m by omega) hv
  rw [List.getElem?_eq_getElem hr, e] at e2
  injection e2 with e2
  exact ⟨r, v, by omega, hvn, hv, e2⟩
theorem lea_ge {m n : Nat} {L : List (List Int)} {cols : List Int} (h : Sz m n L) (hc : Meets m n cols) {x : Int} (hx : ∀ r v : Nat, r < m → v < n → cols[r]? = some (v : Int) → x ≤ cel L r v) : x ≤ lea L cols := by
  obtain ⟨r, v, hr, hvn, hv, e⟩ := lea_is h hc
  rw [e]
  exact hx r v hr hvn hv
theorem lea_mono {m n : Nat} {L M : List (List Int)} {cols : List Int} (h : Sz m n L) (g : Sz m n M) (hc : Meets m n cols) (hle : ∀ r c : Nat, r < m → c < n → cel L r c ≤ cel M r c) : lea L cols ≤ lea M cols :=
  lea_ge g hc fun r v hr hvn hv => Int.le_trans (lea_le h hc hr hv) (hle r v hr hvn)
/-- What holds of a grid that rose, beside one to which the same was added. -/
structure Rose (m n : Nat) (G H : List (List Int)) (ops : Ops) : Prop where
  sg : Sz m n G
  sh : Sz m n H
  nn : ∀ r c : Nat, r < m → c < n → 0 ≤ cel G r c
  le : ∀ r c : Nat, r < m → c < n → cel G r c ≤ cel H r c
  ow : ∀ (cols : List Int), Meets m n cols → ∀ r v : Nat, r < m → v < n → cols[r]? = some (v : Int) → own cols ops ≤ cel G r v
theorem own_one (cols : List Int) (ops : Ops) (o : List Int × Int) : own cols (ops ++ [o]) = own cols ops + (if o.1 = cols then o.2 else 0) := by
  rw [own_app]
  simp [own]
theorem rose_zero (m n : Nat) : Rose m n (zerosL m n) (zerosL m n) [] :=
  ⟨sz_zeros m n, sz_zeros m n, fun r c _ _ => by rw [cel_zeros]; omega, fun _ _ _ _ => Int.le_refl _, fun cols _ r v _ _ _ => by rw [cel_zeros]; exact Int.le_refl _⟩
theorem rose_next {m n : Nat} {G H : List (List Int)} {ops : Ops} (h : Rose m n G H ops) {o : List Int × Int} (hm : Meets m n o.1) (hd : 0 ≤ o.2) : Rose m n (raised G o.1 (lea G o.1 + o.2)) (changed H o.1 o.2) (ops ++ [o]) := by
  refine ⟨sz_raised h.sg hm.2.1 _, sz_changed h.sh hm.2.1 _, fun r c hr hc => ?_, fun r c hr hc => ?_, fun cols hcm r v hr hvn hv => ?_⟩
  · rw [cel_raised h.sg hm _ hr hc]
    have := h.nn r c hr hc
    split <;> omega
  · rw [cel_raised h.sg hm _ hr hc, cel_changed h.sh hm _ hr hc]
    have h1 := h.le r c hr hc
    by_cases e : o.1[r]? = some (c : Int)
    · rw [if_pos e, if_pos e]
      have h2 := lea_le h.sg hm hr e
      omega
    · rw [if_neg e, if_neg e]
      omega
  · rw [cel_raised h.sg hm _ hr hvn, own_one]
    have h1 := h.ow cols hcm r v hr hvn hv
    by_cases e : o.1 = cols
    · rw [if_pos e]
      subst e
      rw [if_pos hv]
      have h2 : own o.1 ops ≤ lea G o.1 := lea_ge h.sg hm fun r v hr hvn hv => h.ow o.1 hm r v hr hvn hv
      omega
    · rw [if_neg e]
      split <;> omega
theorem rose_all {m n : Nat} {b : Int} : ∀ {ops : Ops} {pre : Ops} {G H : List (List Int)}, Rose m n G H pre → OpsOk m n b ops → Plus b ops → Rose m n (rsAll G ops) (chAll H ops) (pre ++ ops)
  | [], pre, G, H, h, _, _ => by simpa [rsAll, chAll] using h
  | o :: ops, pre, G, H, h, g, hp => by
    have ih := rose_all (ops := ops) (rose_next h (g o (by simp)).1 (hp o (by simp)).1) (fun p hq => g p (by simp [hq])) (fun p hq => hp p (by simp [hq]))
    rw [List.append_assoc] at ih
    exact ih
theorem Rose.lea_own {m n : Nat} {G H : List (List Int)} {ops : Ops} (h : Rose m n G H ops) {cols : List Int} (hc : Meets m n cols) : own cols ops ≤ lea G cols ∧ lea G cols ≤ lea H cols ∧ 0 ≤ lea G cols :=
  ⟨lea_ge h.sg hc (h.ow cols hc), lea_mono h.sg h.sh hc h.le, lea_ge h.sg hc (fun r v hr hvn _ => h.nn r v hr hvn)⟩
/-- Two pairs of grids, put together. -/
theorem Rose.join {m n : Nat} {G H G2 H2 : List (List Int)} {ops ops2 : Ops} (h : Rose m n G H ops) (g : Rose m n G2 H2 ops2) : Rose m n (gridS 1 G G2) (gridS 1 H H2) (ops ++ ops2) := by
  have key : ∀ {A B : List (List Int)}, Sz m n A → Sz m n B → Sz m n (gridS 1 A B) ∧ ∀ r c, r < m → c < n → cel (gridS 1 A B) r c = cel A r c + cel B r c := by
    intro A B ha hb
    refine ⟨⟨by unfold gridS; rw [List.length_zipWith, ha.1, hb.1]; omega, fun r hr => ?_⟩, fun r c hr hc => ?_⟩
    · obtain ⟨a, h1, b, h2, rfl⟩ := mem_zip hr
      unfold rowS
      rw [List.length_zipWith, ha.2 a h1, hb.2 b h2]
      omega
    · have h1 : r < A.length := by rw [ha.1]; exact hr
      have h2 : r < B.length := by rw [hb.1]; exact hr
      have h3 := ha.2 _ (List.getElem_mem h1)
      have h4 := hb.2 _ (List.getElem_mem h2)
      unfold cel gridS
      rw [List.getElem?_zipWith, List.getElem?_eq_getElem h1, List.getElem?_eq_getElem h2]
      simp only [Option.getD_some]
      unfold rowS
      rw [List.getElem?_zipWith, List.getElem?_eq_getElem (by omega), List.getElem?_eq_getElem (by omega)]
      simp
  obtain ⟨s1, c1⟩ := key h.sg g.sg
  obtain ⟨s2, c2⟩ := key h.sh g.sh
  refine ⟨s1, s2, fun r c hr hc => ?_, fun r c hr hc => ?_, fun cols hcm r v hr hvn hv => ?_⟩
  · rw [c1 r c hr hc]; have := h.nn r c hr hc; have := g.nn r c hr hc; omega
  · rw [c1 r c hr hc, c2 r c hr hc]; have := h.le r c hr hc; have := g.le r c hr hc; omega
  · rw [c1 r v hr hvn, own_app]; have := h.ow cols hcm r v hr hvn hv; have := g.ow cols hcm r v hr hvn hv; omega
theorem cel_within {m n : Nat} {b : Int} {H : List (List Int)} (hs : Sz m n H) (hw : Within b H) {r c : Nat} (hr : r < m) (hc : c < n) : cel H r c ≤ b := by
  have h1 : r < H.length := by rw [hs.1]; exact hr
  have h2 := hs.2 _ (List.getElem_mem h1)
  unfold cel
  rw [List.getElem?_eq_getElem h1]
  simp only [Option.getD_some]
  rw [List.getElem?_eq_getElem (by omega)]
  exact (hw _ (List.getElem_mem h1) _ (List.getElem_mem _)).2
/-- In the midst of sixty raises: the next one is done, and so is the change. -/
theorem both_ok {m n : Nat} {ops : Ops} (hok : OpsOk m n 1099511627776 ops) (hp : Plus 1099511627776 ops) (hl : ops.length ≤ 60) (m8 : m ≤ 8) (n128 : n ≤ 128) {o : List Int × Int} (hm : Meets m n o.1) (hd : 0 ≤ o.2 ∧ o.2 ≤ 1099511627776) :
    (rsCode m n (rsAll (zerosL m n) ops) o.1 o.2 = 0 ∧ rsRes m n (rsAll (zerosL m n) ops) o.1 o.2 = rsAll (zerosL m n) (ops ++ [o])) ∧ (chCode m n (chAll (zerosL m n) ops) o.1 o.2 = 0 ∧ chRes m n (chAll (zerosL m n) ops) o.1 o.2 = chAll (zerosL m n) (ops ++ [o])) := by
  have hr := rose_all (rose_zero m n) hok hp
  have hw := within_mono (chAll_within (c := 1099511627776) (by omega) (b := 0) (Int.le_refl _) (within_zeros m n) hok) (c := 65970697666560) (by omega)
  have h2 := (hr.lea_own hm)
  have h3 : lea (chAll (zerosL m n) ops) o.1 ≤ 65970697666560 := by
    obtain ⟨r, v, hrm, hvn, hv, e⟩ := lea_is hr.sh hm
    rw [e]
    exact cel_within hr.sh hw hrm hvn
  have hf := fits_within (cols := o.1) (d := o.2) (c := 1099511627776) hw (by omega) (by omega) (by omega)
  have hf2 : Wid.fit64 (lea (rsAll (zerosL m n) ops) o.1 + o.2) = true := (Wid.fit64_yes (by omega) (by omega)).1
  rw [rsAll_one, chAll_one]
  exact ⟨rs_yes hm hd.1 hf2, ch_ok hm hf⟩
theorem rose_dims {m n : Nat} {ops : Ops} (hok : OpsOk m n 1099511627776 ops) (hp : Plus 1099511627776 ops) (hl : ops.length ≤ 60) : Within 65970697666560 (chAll (zerosL m n) ops) ∧ Within 65970697666560 (rsAll (zerosL m n) ops) := by
  have hr := rose_all (rose_zero m n) hok hp
  have hw := within_mono (chAll_within (c := 1099511627776) (by omega) (b := 0) (Int.le_refl _) (within_zeros m n) hok) (c := 65970697666560) (by omega)
  refine ⟨hw, fun row hrow v hv => ?_⟩
  obtain ⟨r, h1, rfl⟩ := List.mem_iff_getElem.1 hrow
  obtain ⟨c, h2, rfl⟩ := List.mem_iff_getElem.1 hv
  have h3 := hr.sg.2 _ (List.getElem_mem h1)
  have hrm : r < m := by rw [← hr.sg.1]; exact h1
  have hcn : c < n := by omega
  have e : cel (rsAll (zerosL m n) ops) r c = ((rsAll (zerosL m n) ops)[r])[c] := by
    unfold cel
    rw [List.getElem?_eq_getElem h1]
    simp only [Option.getD_some]
    rw [List.getElem?_eq_getElem h2]
    rfl
  have h4 := hr.nn r c hrm hcn
  have h5 := hr.le r c hrm hcn
  have h6 := cel_within hr.sh hw hrm hcn
  rw [← e]
  omega
end Go.Proofs.YtmdkdjgamhaeoaaGreat.Con
/- The walk of the document's Raise. Printed by wip/gen/con.py. -/
namespace Go.Proofs.YtmdkdjgamhaeoaaGreat.Con
open Go Go.RowKit Lw Grd Lin
set_option linter.unusedVariables false
set_option linter.unusedSimpArgs false
end Go.Proofs.YtmdkdjgamhaeoaaGreat.Con
/- What a sketch has, in numbers: its cells by what was added to keys; what keys have; what others have in a column. For stages from 10 on. -/
namespace Go.Proofs.YtmdkdjgamhaeoaaGreat.Sk
open Go Go.RowKit Lw Grd Lin Con Shp
set_option linter.unusedVariables false
/-- Rows and columns of a config. -/
def rws (c : Cfg) : Nat := c.rw.toNat
def wds (c : Cfg) : Nat := c.wd.toNat
theorem rws_bd {c : Cfg} (h : IsRight c) : 1 ≤ rws c ∧ rws c ≤ 8 ∧ ((rws c : Nat) : Int) = c.rw := by
  have h1 := h.2.2.1
  have h2 := h.2.2.2.1
  unfold rws
  omega
theorem wds_bd {c : Cfg} (h : IsRight c) : 1 ≤ wds c ∧ wds c ≤ 128 ∧ ((wds c : Nat) : Int) = c.wd := by
  have h1 := h.2.2.2.2.1
  have h2 := h.2.2.2.2.2.1
  unfold wds
  omega
theorem keys_right {c : Cfg} {l k : Int} (h0 : 0 ≤ k) (hk : k < keys c l) : IsRight c ∧ 0 ≤ l ∧ l ≤ c.bt := keys_pos.1 (by omega)
theorem cols_meet {c : Cfg} {l k : Int} (h0 : 0 ≤ k) (hk : k < keys c l) : Meets (rws c) (wds c) (cols c l k) := by
  have hr := (keys_right h0 hk).1
  have h1 := rws_bd hr
  have h2 := wds_bd hr
  refine ⟨h1.1, by rw [cols_len, if_pos hk]; rfl, fun v hv => ?_⟩
  rw [cols_yes hk] at hv
  obtain ⟨r, _, rfl⟩ := List.mem_map.1 hv
  have := col_range hr l k r
  omega
theorem cols_at {c : Cfg} {l k : Int} (hk : k < keys c l) {r : Nat} (hr : r < rws c) : (cols c l k)[r]? = some (col c l k r) := by
  rw [cols_yes hk, List.getElem?_map]
  have : (List.range c.rw.toNat)[r]? = some r := List.getElem?_range hr
  rw [this]
  rfl
/-- Updates: keys and what is added. -/
abbrev Ups := List (Int × Int)
def opsU (c : Cfg) (l : Int) (us : Ups) : Ops := us.map (fun u => (cols c l u.1, u.2))
def UpsOk (c : Cfg) (l : Int) (b : Int) (us : Ups) : Prop := ∀ u ∈ us, 0 ≤ u.1 ∧ u.1 < keys c l ∧ -b ≤ u.2 ∧ u.2 ≤ b
theorem opsU_ok {c : Cfg} {l b : Int} {us : Ups} (h : UpsOk c l b us) : OpsOk (rws c) (wds c) b (opsU c l us) := by
  intro o ho
  unfold opsU at ho
  obtain ⟨u, hu, rfl⟩ := List.mem_map.1 ho
  have h2 := h u hu
  exact ⟨cols_meet h2.1 h2.2.1, h2.2.2⟩
theorem opsU_len (c : Cfg) (l : Int) (us : Ups) : (opsU c l us).length = us.length := by simp [opsU]
theorem opsU_app (c : Cfg) (l : Int) (us vs : Ups) : opsU c l (us ++ vs) = opsU c l us ++ opsU c l vs := by simp [opsU]
/-- What a key has. -/
def hasK (k : Int) : Ups → Int
  | [] => 0
  | u :: us => (if u.1 = k then u.2 else 0) + hasK k us
/-- What others have in its column of a row. -/
def othK (c : Cfg) (l k : Int) (r : Nat) : Ups → Int
  | [] => 0
  | u :: us => (if u.1 ≠ k ∧ col c l u.1 r = col c l k r then u.2 else 0) + othK c l k r us
theorem hasK_app (k : Int) : ∀ a b : Ups, hasK k (a ++ b) = hasK k a + hasK k b
  | [], b => by simp [hasK]
  | u :: a, b => by simp only [List.cons_append, hasK, hasK_app k a b]; omega
theorem hit_key {c : Cfg} {l k b : Int} {r v : Nat} (hr : r < rws c) (hv : col c l k r = v) : ∀ {us : Ups}, UpsOk c l b us → hit (opsU c l us) r v = hasK k us + othK c l k r us
  | [], _ => by simp [hit, opsU, hasK, othK]
  | u :: us, h => by
    have ih := hit_key hr hv (us := us) (fun p hp => h p (by simp [hp]))
    have hu := h u (by simp)
    have e : opsU c l (u :: us) = (cols c l u.1, u.2) :: opsU c l us := rfl
    rw [e]
    simp only [hit, hasK, othK, ih, cols_at hu.2.1 hr, ← hv]
    by_cases h1 : u.1 = k
    · rw [h1]
      simp
      omega
    · by_cases h2 : col c l u.1 r = col c l k r
      · simp [h1, h2]
        omega
      · simp [h1, h2]
/-- The numbers of a key's cells: what it has, and what others have there. -/
theorem named_key {c : Cfg} {l k b : Int} {us : Ups} (h : UpsOk c l b us) (k0 : 0 ≤ k) (hk : k < keys c l) {r : Nat} (hr : r < rws c) :
    (named (chAll (zerosL (rws c) (wds c)) (opsU c l us)) (cols c l k))[r]? = some (hasK k us + othK c l k r us) := by
  have hok := opsU_ok h
  have hm := cols_meet k0 hk
  have hsz := chAll_sz (sz_zeros (rws c) (wds c)) hok
  have hrt := (keys_right k0 hk).1
  have h2 := col_range hrt l k r
  have h3 := wds_bd hrt
  obtain ⟨v, hv⟩ : ∃ v : Nat, col c l k r = v := ⟨(col c l k r).toNat, by omega⟩
  have hvn : v < wds c := by omega
  rw [named_cel hsz hm hr (by rw [cols_at hk hr, hv]), chAll_cel hr hvn (sz_zeros _ _) hok, cel_zeros, hit_key hr hv h]
  congr 1
  omega
/-! ### Where no key has less than 0 -/
theorem hasK_filter (k q : Int) (hkq : k ≠ q) : ∀ us : Ups, hasK k (us.filter (fun u => u.1 ≠ q)) = hasK k us
  | [] => rfl
  | u :: us => by
    have ih := hasK_filter k q hkq us
    by_cases h : u.1 = q
    · rw [List.filter_cons_of_neg (by simp [h]), ih]
      simp only [hasK]
      rw [if_neg (by omega)]
      omega
    · rw [List.filter_cons_of_pos (by simp [h])]
      simp only [hasK, ih]
theorem othK_filter (c : Cfg) (l k : Int) (r : Nat) (q : Int) (hq : q ≠ k) (hc : col c l q r = col c l k r) : ∀ us : Ups, othK c l k r us = hasK q us + othK c l k r (us.filter (fun u => u.1 ≠ q))
  | [] => rfl
  | u :: us => by
    have ih := othK_filter c l k r q hq hc us
    by_cases h : u.1 = q
    · rw [List.filter_cons_of_neg (by simp [h])]
      simp only [othK, hasK, ih]
      rw [if_pos ⟨by rw [h]; exact hq, by rw [h]; exact hc⟩, if_pos h]
      omega
    · rw [List.filter_cons_of_pos (by simp [h])]
      simp only [othK, hasK, ih]
      rw [if_neg h]
      omega
theorem othK_skip (c : Cfg) (l k : Int) (r : Nat) (q : Int) (hq : ¬ (q ≠ k ∧ col c l q r = col c l k r)) : ∀ us : Ups, othK c l k r us = othK c l k r (us.filter (fun u => u.1 ≠ q))
  | [] => rfl
  | u :: us => by
    have ih := othK_skip c l k r q hq us
    by_cases h : u.1 = q
    · rw [List.filter_cons_of_neg (by simp [h])]
      simp only [othK, ih]
      rw [if_neg (by rw [h]; exact hq)]
      omega
    · rw [List.filter_cons_of_pos (by simp [h])]
      simp only [othK, ih]
theorem othK_nn (c : Cfg) (l k : Int) (r : Nat) : ∀ (n : Nat) (us : Ups), us.length ≤ n → (∀ u ∈ us, 0 ≤ hasK u.1 us) → 0 ≤ othK c l k r us
  | _, [], _, _ => by simp [othK]
  | 0, u :: us, h, _ => by simp at h
  | n + 1, u :: us, h, hn => by
    have hlen : ((u :: us).filter (fun v => v.1 ≠ u.1)).length ≤ n := by
      rw [List.filter_cons_of_neg (by simp)]
      have := List.length_filter_le (fun v : Int × Int => decide (v.1 ≠ u.1)) us
      simp at h
      omega
    have hf : ∀ v ∈ (u :: us).filter (fun v => v.1 ≠ u.1), 0 ≤ hasK v.1 ((u :: us).filter (fun v => v.1 ≠ u.1)) := by
      intro v hv
      obtain ⟨h1, h2⟩ := List.mem_filter.1 hv
      rw [hasK_filter v.1 u.1 (by simpa using h2)]
      exact hn v h1
    have ih := othK_nn c l k r n _ hlen hf
    by_cases hq : u.1 ≠ k ∧ col c l u.1 r = col c l k r
    · rw [othK_filter c l k r u.1 hq.1 hq.2]
      have := hn u (by simp)
      omega
    · rw [othK_skip c l k r u.1 hq]
      exact ih
/-- By key, or by columns. -/
theorem hasK_own {c : Cfg} {l k b : Int} : ∀ {us : Ups}, UpsOk c l b us → (∀ u ∈ us, 0 ≤ u.2) → hasK k us ≤ Lin.own (cols c l k) (opsU c l us)
  | [], _, _ => by simp [hasK, opsU, Lin.own]
  | u :: us, h, hp => by
    have ih := hasK_own (k := k) (us := us) (fun p hq => h p (by simp [hq])) (fun p hq => hp p (by simp [hq]))
    have e : opsU c l (u :: us) = (cols c l u.1, u.2) :: opsU c l us := rfl
    have hu := hp u (by simp)
    rw [e]
    simp only [hasK, Lin.own]
    by_cases h1 : u.1 = k
    · rw [if_pos h1, if_pos (by rw [h1])]
      omega
    · rw [if_neg h1]
      split <;> omega
theorem hasK_bd {k b : Int} (hb : 0 ≤ b) : ∀ {us : Ups}, (∀ u ∈ us, -b ≤ u.2 ∧ u.2 ≤ b) → -(us.length * b) ≤ hasK k us ∧ hasK k us ≤ us.length * b
  | [], _ => by simp [hasK]
  | u :: us, h => by
    have ih := hasK_bd hb (k := k) (us := us) (fun p hp => h p (by simp [hp]))
    have h1 := h u (by simp)
    have e1 : ((u :: us).length : Int) * b = (us.length : Int) * b + b := by
      have e1 : ((u :: us).length : Int) = (us.length : Int) + 1 := by simp
      rw [e1, Int.add_mul, Int.one_mul]
    rw [e1]
    simp only [hasK]
    split <;> omega
end Go.Proofs.YtmdkdjgamhaeoaaGreat.Sk
/- What a sketch's calls answer, in numbers. For stages from 10 on. -/
namespace Go.Proofs.YtmdkdjgamhaeoaaGreat.Sk
open Go Go.RowKit Lw Grd Lin Con Shp
set_option linter.unusedVariables false
def upCode (c : Cfg) (l : Int) (L : List (List Int)) (k d : Int) : Int :=
  if keys c l ≤ k then 2 else if c.md = 2 then rsCode (rws c) (wds c) L (cols c l k) d else chCode (rws c) (wds c) L (cols c l k) d
def upRes (c : Cfg) (l : Int) (L : List (List Int)) (k d : Int) : List (List Int) :=
  if keys c l ≤ k then L else if c.md = 2 then rsRes (rws c) (wds c) L (cols c l k) d else chRes (rws c) (wds c) L (cols c l k) d
def ptVal (c : Cfg) (l : Int) (L : List (List Int)) (k : Int) : Int :=
  if keys c l ≤ k then 0 else if c.md = 3 then Ord.kv (named L (cols c l k)) ((((named L (cols c l k)).length : Int) - 1) / 2) else lea L (cols c l k)
def ptCode (c : Cfg) (l k : Int) : Int := if keys c l ≤ k then 2 else 0
def cfgE (c d : Cfg) : Bool := decide (c.bt = d.bt ∧ c.rw = d.rw ∧ c.wd = d.wd ∧ c.md = d.md ∧ c.sd = d.sd)
/-- s: 1 for Merge, -1 for Subtract. -/
def mgCode (s : Int) (c d : Cfg) (l l' : Int) (L M : List (List Int)) : Int :=
  if cfgE c d = true ∧ l = l' then (if s = -1 ∧ c.md = 2 then 3 else jcode s (rws c) (wds c) (rws c) (wds c) L M) else 5
def mgRes (s : Int) (c d : Cfg) (l l' : Int) (L M : List (List Int)) : List (List Int) :=
  if cfgE c d = true ∧ l = l' then (if s = -1 ∧ c.md = 2 then L else jres s (rws c) (wds c) (rws c) (wds c) L M) else L
/-- An update, cut. -/
def cutU (c : Cfg) (l : Int) (u : Int × Int) : Int × Int := (u.1 % keys c l, dv (decide (c.md = 2)) u.2)
theorem cutU_ok {c : Cfg} {l : Int} (hk : 1 ≤ keys c l) (u : Int × Int) : 0 ≤ (cutU c l u).1 ∧ (cutU c l u).1 < keys c l ∧ -1099511627776 ≤ (cutU c l u).2 ∧ (cutU c l u).2 ≤ 1099511627776 ∧ (c.md = 2 → 0 ≤ (cutU c l u).2) := by
  refine ⟨Int.emod_nonneg _ (by omega), Int.emod_lt_of_pos _ (by omega), (dv_bd _ _).1, (dv_bd _ _).2, fun h => ?_⟩
  unfold cutU
  simp only [h, decide_true]
  exact dv_plain _
/-- The cells behind updates, from noughts on. -/
def cells (c : Cfg) (l : Int) (us : Ups) : List (List Int) := if c.md = 2 then rsAll (zerosL (rws c) (wds c)) (opsU c l us) else chAll (zerosL (rws c) (wds c)) (opsU c l us)
def UpsIn (c : Cfg) (l : Int) (us : Ups) : Prop := UpsOk c l 1099511627776 us ∧ (c.md = 2 → ∀ u ∈ us, 0 ≤ u.2)
theorem upsIn_cut {c : Cfg} {l : Int} (hk : 1 ≤ keys c l) (us : Ups) : UpsIn c l (us.map (cutU c l)) := by
  refine ⟨fun u hu => ?_, fun hm u hu => ?_⟩
  · obtain ⟨v, _, rfl⟩ := List.mem_map.1 hu
    have := cutU_ok hk v
    exact ⟨this.1, this.2.1, this.2.2.1, this.2.2.2.1⟩
  · obtain ⟨v, _, rfl⟩ := List.mem_map.1 hu
    exact (cutU_ok hk v).2.2.2.2 hm
theorem cells_nil (c : Cfg) (l : Int) : cells c l [] = zerosL (rws c) (wds c) := by unfold cells opsU; split <;> rfl
theorem plus_of {c : Cfg} {l : Int} {us : Ups} (h : UpsIn c l us) (hm : c.md = 2) : Plus 1099511627776 (opsU c l us) := by
  intro o ho
  unfold opsU at ho
  obtain ⟨u, hu, rfl⟩ := List.mem_map.1 ho
  exact ⟨h.2 hm u hu, (h.1 u hu).2.2.2⟩
/-- In the midst of sixty updates: the next one is done. -/
theorem up_ok {c : Cfg} {l : Int} (hr : IsRight c) {us : Ups} (h : UpsIn c l us) (hl : us.length ≤ 60) {u : Int × Int} (hu : UpsIn c l [u]) :
    upCode c l (cells c l us) u.1 u.2 = 0 ∧ upRes c l (cells c l us) u.1 u.2 = cells c l (us ++ [u]) := by
  have h1 := hu.1 u (by simp)
  have hm := cols_meet h1.1 h1.2.1
  have hok := opsU_ok h.1
  have hlen := opsU_len c l us
  have hw := rws_bd hr
  have hv := wds_bd hr
  unfold upCode upRes cells
  have hk : ¬ keys c l ≤ u.1 := by omega
  simp only [if_neg hk, opsU_app]
  by_cases h2 : c.md = 2
  · simp only [if_pos h2]
    exact (both_ok hok (plus_of h h2) (by omega) (by omega) (by omega) (o := (cols c l u.1, u.2)) hm ⟨hu.2 h2 u (by simp), h1.2.2.2⟩).1
  · simp only [if_neg h2]
    have hwi := chAll_within (c := 1099511627776) (by omega) (b := 0) (Int.le_refl _) (within_zeros (rws c) (wds c)) hok
    have hf := fits_within (cols := cols c l u.1) (d := u.2) (within_mono hwi (c := 65970697666560) (by omega)) (by omega) h1.2.2 (by omega)
    have e : opsU c l [u] = [(cols c l u.1, u.2)] := rfl
    rw [e, chAll_one]
    exact ch_ok hm hf
end Go.Proofs.YtmdkdjgamhaeoaaGreat.Sk
