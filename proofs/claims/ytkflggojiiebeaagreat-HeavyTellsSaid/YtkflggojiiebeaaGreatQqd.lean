import Derived.Test.YtkflggojiiebeaaGreatQah
import Derived.Test.YtkflggojiiebeaaGreatQqc
namespace Go.Proofs.YtkflggojiiebeaaGreat.Hvy
open Go Go.RowKit Go.Maps Lw Grd Lin Con Shp Sk Exa Lev Stk Pcs Spn Qnt
set_option linter.unusedVariables false
set_option linter.unusedSimpArgs false
set_option linter.unusedSimpArgs false
/-- A map of one's own, as a thing. -/
def mapT (mb n : Nat) (D : DataW Unit) : Thing where
  I := fun w => w.ownsMap Tryz.prog 82 (plainElem Tryz.prog 2) mb n D
  F := fun k => k = mb
  keep := fun w w' H h hk hf => by
    obtain ⟨es, clock, h1, h2⟩ := h
    exact ⟨es, clock, hk.heap h1 (hf _ rfl), h2⟩
  lt := fun w h k hk => by
    subst hk
    exact World.ownsMap.lt h
theorem mapI {mb n : Nat} {D : DataW Unit} {w : World} (h : (mapT mb n D).I w) : w.ownsMap Tryz.prog 82 (plainElem Tryz.prog 2) mb n D := h
/-- What the map says in the end. -/
theorem map_told {pt : Nat → Int → Int} {least : Int} {B : Nat} {D : DataW Unit} (h : TD D (foundQ pt least B (B + 1))) : MapT D (toldQ pt least B) := by
  have hmem : ∀ L i n, ((L, i), n) ∈ foundQ pt least B (B + 1) ↔ toldQ pt least B L i = some n := fun L i n => by
    have ho := (told_ord pt least B).mem ((L, i), n)
    rw [← ho, mem_orderQ]
    constructor
    · intro h1
      obtain ⟨e, he, h2, -⟩ := mem_foundQ.1 h1
      exact ⟨h1, by omega⟩
    · exact fun h1 => h1.1
  intro L i hL hi
  obtain ⟨h1, h2, h3⟩ := h.2 L i hL hi
  refine ⟨fun n hn => ?_, fun hn => h2 (fun q hq e => ?_)⟩
  · have hm := (hmem L i n).2 hn
    exact ⟨h1 ⟨_, hm, rfl⟩, h3 n hm⟩
  · obtain ⟨p, n⟩ := q
    simp only at e
    subst e
    have := (hmem L i n).1 hq
    rw [hn] at this
    cases this
theorem found_in {pt : Nat → Int → Int} {least : Int} {B : Nat} {q : (Nat × Nat) × Int} (hB : B ≤ 59) (h : q ∈ foundQ pt least B (B + 1)) : q.1.1 ≤ 59 ∧ q.1.2 ≤ 576460752303423488 := by
  obtain ⟨e, he, h1, h2, -⟩ := mem_foundQ.1 h
  have h3 := askQ_lt h2
  have h4 : 2 ^ e ≤ 2 ^ 59 := Nat.pow_le_pow_right (by omega) (by omega)
  have e59 : (2 : Nat) ^ 59 = 576460752303423488 := rfl
  omega
theorem found_new {pt : Nat → Int → Int} {least : Int} {B t : Nat} {q : (Nat × Nat) × Int} (h : (foundQ pt least B (B + 1))[t]? = some q) : ∀ p ∈ (foundQ pt least B (B + 1)).take t, p.1 ≠ q.1 := by
  intro p hp
  obtain ⟨j, hj⟩ := List.getElem?_of_mem hp
  rw [List.getElem?_take] at hj
  split at hj
  · rename_i hlt
    have hr := foundQ_row pt least B (B + 1) (Nat.le_refl _)
    obtain ⟨h1, e1⟩ := List.getElem?_eq_some_iff.1 hj
    obtain ⟨h2, e2⟩ := List.getElem?_eq_some_iff.1 h
    have := List.pairwise_iff_getElem.1 hr j t h1 h2 hlt
    rw [e1, e2] at this
    exact this
  · cases hj
/-- No more is kept than is told. -/
theorem gTop_len (T : Nat → Nat → Option Int) (least : Int) (L i : Nat) : (gTop T least L i).length ≤ 1 := by
  unfold gTop
  cases T L i with
  | none => simp
  | some n =>
    simp only
    split <;> simp
theorem keepQ_len (T : Nat → Nat → Option Int) (least : Int) : ∀ o : List ((Nat × Nat) × Int), (keepQ T least o).length ≤ o.length
  | [] => Nat.le_refl _
  | q :: o => by
    have ih := keepQ_len T least o
    have h1 := gTop_len T least q.1.1 q.1.2
    unfold keepQ at ih ⊢
    rw [List.flatMap_cons, List.length_append, List.length_cons]
    omega
theorem order_le (B : Nat) {l : List ((Nat × Nat) × Int)} : ∀ n : Nat, ((List.range n).flatMap (fun L => l.filter (fun q => decide (q.1.1 = L)))).length ≤ (l.filter (fun q => decide (q.1.1 < n))).length := by
  intro n
  induction n with
  | zero => simp
  | succ n ih =>
    rw [List.range_succ, List.flatMap_append, List.length_append]
    have e : [n].flatMap (fun L => l.filter (fun q => decide (q.1.1 = L))) = l.filter (fun q => decide (q.1.1 = n)) := by simp
    rw [e]
    have h2 : (l.filter (fun q => decide (q.1.1 < n))).length + (l.filter (fun q => decide (q.1.1 = n))).length ≤ (l.filter (fun q => decide (q.1.1 < n + 1))).length := by
      clear ih e
      induction l with
      | nil => simp
      | cons q l ih =>
        simp only [List.filter_cons]
        by_cases h1 : q.1.1 < n
        · have h3 : ¬ q.1.1 = n := by omega
          have h4 : q.1.1 < n + 1 := by omega
          simp [h1, h3, h4]
          omega
        · by_cases h3 : q.1.1 = n
          · have h4 : q.1.1 < n + 1 := by omega
            have h5 : ¬ n < n := Nat.lt_irrefl n
            simp [h3, h5]
            omega
          · have h4 : ¬ q.1.1 < n + 1 := by omega
            simp [h1, h3, h4]
            exact ih
    omega
theorem cat_len (pt : Nat → Int → Int) (least : Int) (B : Nat) : (catK (fun M => gL (toldQ pt least B) least B 0 M) (B + 1)).length ≤ (foundQ pt least B (B + 1)).length := by
  have h1 : catK (fun M => gL (toldQ pt least B) least B 0 M) (B + 1) = keepQ (toldQ pt least B) least (orderQ B (foundQ pt least B (B + 1))) := (keep_levels pt least B).symm
  rw [h1]
  refine Nat.le_trans (keepQ_len _ _ _) (Nat.le_trans (order_le B (B + 1)) (List.length_filter_le _ _))
theorem one_cat (ls : Nat → List Kp) {M : Nat} : ∀ {n : Nat}, M < n → (ls M).length ≤ (catK ls n).length
  | 0, h => by omega
  | n + 1, h => by
    rw [catK_next, List.length_append]
    by_cases e : M = n
    · subst e
      omega
    · have := one_cat ls (M := M) (n := n) (by omega)
      omega
theorem lev_len (pt : Nat → Int → Int) (least : Int) (B M : Nat) : (gL (toldQ pt least B) least B 0 M).length ≤ (foundQ pt least B (B + 1)).length := by
  by_cases h : M ≤ B
  · exact Nat.le_trans (one_cat (fun M => gL (toldQ pt least B) least B 0 M) (show M < B + 1 by omega)) (cat_len pt least B)
  · rw [gL_above (by omega)]
    exact Nat.zero_le _
theorem told_bd {pt : Nat → Int → Int} {least : Int} {B : Nat} (h : ∀ L i, -9223372036854775808 ≤ pt L i ∧ pt L i ≤ 9223372036854775807) : ∀ (L i : Nat) (n : Int), toldQ pt least B L i = some n → -9223372036854775808 ≤ n ∧ n ≤ 9223372036854775807 := fun L i n hn => by
  obtain ⟨-, -, -, e⟩ := told_some.1 hn
  rw [e]
  exact h L _
theorem made_nil {N M : Nat} {v : Value} (hv : (madeCells #[Value.slice none 0 0] N)[M]? = some v) : v = .slice none 0 0 := by
  rw [← Array.getElem?_toList, toList_madeCells_one, List.getElem?_replicate] at hv
  split at hv
  · injection hv with hv
    exact hv.symm
  · cases hv
/-- What the closure turns, as it is made. -/
theorem gk_made {B0 kb ab N : Nat} {w : World} (hr : w.heap[kb]? = some (.cells (madeCells #[.slice none 0 0] N) 45 (0, 0))) (hf : w.heap[ab]? = some (.cells #[.bool true] 4 (0, 0))) (hne : kb ≠ ab) (h1 : kb < B0) (h2 : ab < B0) : GK B0 kb ab N (madeCells #[.slice none 0 0] N) (fun _ => []) true w := by
  have hs : (madeCells #[Value.slice none 0 0] N).size = N := size_madeCells _ N
  have hg : ∀ (M : Nat) v, (madeCells #[Value.slice none 0 0] N)[M]? = some v → v = .slice none 0 0 := fun M v hv => made_nil hv
  refine ⟨hs, hr, hf, fun M v hv => ?_, fun M v hv _ => hg M v hv, fun M M' v v' k _ hv _ hk => ?_, h1, h2, hne⟩
  · rw [hg M v hv]
    exact World.ownsRow_nil _ _ _ _
  · rw [hg M v hv] at hk
    cases hk
end Go.Proofs.YtkflggojiiebeaaGreat.Hvy
namespace Go.Proofs.YtkflggojiiebeaaGreat.Hvy
open Go Go.RowKit Go.Maps Lw Grd Lin Con Shp Sk Exa Lev Stk Pcs Spn Qnt
set_option linter.unusedVariables false
set_option linter.unusedSimpArgs false
set_option linter.unusedSimpArgs false
theorem four_new {w : World} {vs us zs : Array Value} {e f h : TypeId} : Have w ((((w.alloc (.cells vs e)).alloc (.cells us f)).alloc (.map #[] 0)).alloc (.cells zs h)) [boxT (w.heap.size + 1 + 1 + 1) h zs, mapT (w.heap.size + 1 + 1) 0 (.map []), boxT (w.heap.size + 1) f us, boxT w.heap.size e vs] := by
  have h1 := (Have.nil w).push (boxT w.heap.size e vs) (Lw.below_alloc (Below.refl _ _) _) (heap_alloc_new w _) (fun k hk => Nat.le_of_eq hk.symm)
  have h2 := h1.push (boxT (w.heap.size + 1) f us) (Lw.below_alloc (Below.refl _ _) (.cells us f)) (Qnt.blk_new (by simp)) (fun k hk => by have hk2 : k = w.heap.size + 1 := hk; simp; omega)
  have h3 := h2.push (mapT (w.heap.size + 1 + 1) 0 (.map [])) (Lw.below_alloc (Below.refl _ _) (.map #[] 0)) (by have h9 := World.ownsMap_made ((w.alloc (.cells vs e)).alloc (.cells us f)) Tryz.prog 82 (plainElem (H := Unit) Tryz.prog 2); simp at h9; exact h9) (fun k hk => by have hk2 : k = w.heap.size + 1 + 1 := hk; simp; omega)
  exact h3.push (boxT (w.heap.size + 1 + 1 + 1) h zs) (Lw.below_alloc (Below.refl _ _) (.cells zs h)) (Qnt.blk_new (by simp)) (fun k hk => by have hk2 : k = w.heap.size + 1 + 1 + 1 := hk; simp; omega)
theorem three_new {w0 w : World} {ts : List Thing} (h : Have w0 w ts) {vs us zs : Array Value} {e f h' : TypeId} : Have w0 (((w.alloc (.cells vs e)).alloc (.cells us f)).alloc (.cells zs h')) (boxT (w.heap.size + 1 + 1) h' zs :: boxT (w.heap.size + 1) f us :: boxT w.heap.size e vs :: ts) := by
  have h1 := h.push (boxT w.heap.size e vs) (Lw.below_alloc (Below.refl _ _) _) (heap_alloc_new w _) (fun k hk => Nat.le_of_eq hk.symm)
  have h2 := h1.push (boxT (w.heap.size + 1) f us) (Lw.below_alloc (Below.refl _ _) (.cells us f)) (Qnt.blk_new (by simp)) (fun k hk => by have hk2 : k = w.heap.size + 1 := hk; simp; omega)
  exact h2.push (boxT (w.heap.size + 1 + 1) h' zs) (Lw.below_alloc (Below.refl _ _) (.cells zs h')) (Qnt.blk_new (by simp)) (fun k hk => by have hk2 : k = w.heap.size + 1 + 1 := hk; simp; omega)
theorem box_put1 {w0 w : World} {b : Nat} {e : TypeId} {u : Value} {ts : List Thing} (h : Have w0 w (boxT b e #[u] :: ts)) (v : Value) : Have w0 (w.setCell ⟨b, 0, none⟩ v) (boxT b e #[v] :: ts) := by
  have h2 : w.heap[b]? = some (.cells #[u] e (0, 0)) := h.1
  refine h.turn0 (boxT b e #[v]) ?_ ((Kept.refl (fun k => k = b) w).set (.inl rfl) 0 v) (fun k hk => .inl hk)
  show (w.setCell ⟨b, 0, none⟩ v).heap[b]? = some (.cells #[v] e (0, 0))
  simp [World.setCell, Array.getElem?_modify, h2]
theorem have_ip {w0 w : World} {ts : List Thing} (h : Have w0 w ts) {j : Nat} {t : Thing} (ht : ts[j]? = some t) : t.I w := (h.one t (List.mem_of_getElem? ht)).1
theorem rows_of {B0 kb ab N : Nat} {hv : Array Value} {ls : Nat → List Kp} {b : Bool} {w : World} (h : GK B0 kb ab N hv ls b w) : Rows4 w kb N (fun M => (hv[M]?).getD undef) ls := by
  have hg : ∀ M, M < N → ∃ v, hv[M]? = some v := fun M hM => ⟨_, Array.getElem?_eq_getElem (by rw [h.size]; exact hM)⟩
  refine ⟨fun M hM => ?_, fun M hM => ?_, fun M hM h0 => ?_⟩
  · obtain ⟨v, hv_⟩ := hg M hM
    simp only [hv_, Option.getD_some]
    exact box_cell (w := w) (b := kb) h.row hv_
  · obtain ⟨v, hv_⟩ := hg M hM
    simp only [hv_, Option.getD_some]
    exact ⟨B0, h.own M v hv_⟩
  · obtain ⟨v, hv_⟩ := hg M hM
    simp only [hv_, Option.getD_some]
    exact h.nil M v hv_ h0
theorem map_turn2 {w0 w w' : World} {t0 t1 : Thing} {mb n : Nat} {D D' : DataW Unit} {ts : List Thing} (h : Have w0 w (t0 :: t1 :: mapT mb n D :: ts)) (hown : w'.ownsMap Tryz.prog 82 (plainElem Tryz.prog 2) mb (n + 1) D') (hg : w.grownBy w' (some mb)) : Have w0 w' (t0 :: t1 :: mapT mb (n + 1) D' :: ts) :=
  h.turn_2 (mapT mb (n + 1) D') hown ((Kept.refl (fun k => k = mb) w).grown hg (fun q hq => by injection hq with hq; exact .inl hq.symm)) (fun k hk => .inl hk)
set_option maxRecDepth 100000 in
set_option maxHeartbeats 8000000 in
theorem keep_any (pt : Nat → Int → Int) (least : Int) (BB : Nat) (A : Option Addr) (n cap : Nat) (w : World) (hrow : (stRowT 3 encF A n cap (foundQ pt least BB (BB + 1))).I w) (hpt : ∀ L i, -9223372036854775808 ≤ pt L i ∧ pt L i ≤ 9223372036854775807) (hB : BB ≤ 59) (hn : n ≤ 4096) :
    Calls Tryz.prog 57 #[.int .i64 (BB : Int), .slice A n cap, .int .i64 least] w fun e w' => ∃ (A2 : Option Addr) (n2 cap2 : Nat), e = .returned (.tuple #[.slice A2 n2 cap2, .bool (gF (toldQ pt least BB) least BB 0)]) ∧ w'.ownsRow w.heap.size 101 4 (.slice A2 n2 cap2) n2 ((catK (fun M => gL (toldQ pt least BB) least BB 0 M) (BB + 1)).flatMap encR) ∧ n2 = (catK (fun M => gL (toldQ pt least BB) least BB 0 M) (BB + 1)).length ∧ Below w.heap.size w w' := by
  have hlen : (foundQ pt least BB (BB + 1)).length = n := (strI hrow).len
  have HLEN := Lib.hid hlen
  have HR := Lib.hid hrow
  have hfi := fun (q : (Nat × Nat) × Int) (h : q ∈ (foundQ pt least BB (BB + 1))) => found_in hB h
  have HFI := Lib.hid hfi
  have hfb : ∀ q ∈ (foundQ pt least BB (BB + 1)), -9223372036854775808 ≤ q.2 ∧ q.2 ≤ 9223372036854775807 := fun q hq => by
    obtain ⟨e, he, h1, h2, h3, h4⟩ := mem_foundQ.1 hq
    rw [h4]
    exact hpt _ _
  have HFB := Lib.hid hfb
  have HFW := Lib.hid (fun t q h => found_new (pt := pt) (least := least) (B := BB) (t := t) (q := q) h)
  have HLL := Lib.hid (lev_len pt least BB)
  have HCL := Lib.hid (cat_len pt least BB)
  have HTB := Lib.hid (told_bd (least := least) (B := BB) hpt)
  have HB59 : Hid (BB ≤ 59) := Lib.hid hB
  have hmf : ∀ (fn : Fn) (first cap : Array Value) (w : World), (Instr.makeFunc fn first cap).run Tryz.prog w = .ok (.func fn first cap) w := fun _ _ _ _ => rfl
  have hmm := @run_makeMap Tryz.prog
  have hmk : ∀ w, (Instr.makeSlice 189 (.int .i64 ((BB : Int) + 1)) (.int .i64 ((BB : Int) + 1))).run Tryz.prog w = .ok (.slice (some ⟨w.heap.size, 0, none⟩) (BB + 1) (BB + 1)) (w.alloc (.cells (madeCells #[.slice none 0 0] (BB + 1)) 45)) := fun w =>
    run_make_row' 189 45 (.slice none 0 0) 24 rsss_u (by kernel_rfl) rfl .i64 .i64 (BB + 1) (by omega) (by omega) w
  have wB : wrap64 ((BB : Int) + 1) = (BB : Int) + 1 := IntWalk.wrap64_in _ ⟨by omega, by omega⟩
  obtain ⟨FT, hFT⟩ : ∃ x, gF (toldQ pt least BB) least BB 0 = x := ⟨_, rfl⟩
  rw [hFT]
  have HFT := Lib.hid hFT
  clear hFT
  obtain ⟨FL, hFL⟩ : ∃ l, (foundQ pt least BB (BB + 1)) = l := ⟨_, rfl⟩
  rw [hFL] at HLEN HR HFI HFB HFW HLL HCL
  have HFL := Lib.hid hFL
  clear hlen hrow hfi hfb hpt hB hFL
  go_enter Tryz.func57, Tryz.ntmps57
  go_upto_region 2 with fail
  have HV0 : Hid (Have w ((((w.alloc (.cells #[.int .i64 (BB : Int)] 3)).alloc (.cells #[.int .i64 least] 2)).alloc (.map #[] 0)).alloc (.cells #[.map (some (w.heap.size + 1 + 1))] 188)) [boxT (w.heap.size + 1 + 1 + 1) 188 #[.map (some (w.heap.size + 1 + 1))], mapT (w.heap.size + 1 + 1) 0 (.map []), boxT (w.heap.size + 1) 2 #[.int .i64 least], boxT w.heap.size 3 #[.int .i64 (BB : Int)]]) := Lib.hid four_new
  obtain ⟨BX, hBX⟩ : ∃ k, w.heap.size = k := ⟨_, rfl⟩
  obtain ⟨W2, hW2⟩ : ∃ X, (((w.alloc (.cells #[.int .i64 (BB : Int)] 3)).alloc (.cells #[.int .i64 least] 2)).alloc (.map #[] 0)).alloc (.cells #[.map (some (w.heap.size + 1 + 1))] 188) = X := ⟨_, rfl⟩
  rw [hW2] at HV0 ⊢
  rw [hBX] at HV0 ⊢
  obtain ⟨LB, hLB⟩ : ∃ k, BX + 1 = k := ⟨_, rfl⟩
  rw [hLB] at HV0 ⊢
  obtain ⟨MB, hMB⟩ : ∃ k, LB + 1 = k := ⟨_, rfl⟩
  rw [hMB] at HV0 ⊢
  obtain ⟨TB, hTB⟩ : ∃ k, MB + 1 = k := ⟨_, rfl⟩
  rw [hTB] at HV0 ⊢
  clear hW2
  go_upto_region 3 with fail
  go_loopw [17] (fun iv wr => ∃ (t : Nat) (D : DataW Unit), t ≤ n ∧ iv = .int .i64 (t : Int) ∧ TD D (FL.take t) ∧ Have w wr [boxT TB 188 #[.map (some MB)], mapT MB t D, boxT LB 2 #[.int .i64 least], boxT BX 3 #[.int .i64 (BB : Int)]]) (fun iv _ => 5000 - (intOf iv).toNat)
  case atStart => exact ⟨0, .map [], Nat.zero_le _, rfl, TD.nil, HV0.out⟩
  case round =>
    obtain ⟨t, D, ht, rfl, hD, hv⟩ := hrel
    have HVr := Lib.hid hv
    have HTD := Lib.hid hD
    clear hv hD
    by_cases hmore : t < n
    · have lt0 : (0 : Int) ≤ (t : Int) := by omega
      have lt1 : (t : Int) < (n : Int) := by omega
      obtain ⟨q, hq⟩ : ∃ q, FL[t]? = some q := ⟨_, List.getElem?_eq_getElem (by rw [HLEN.out]; exact hmore)⟩
      have hqm := List.mem_of_getElem? hq
      obtain ⟨q1, q2⟩ := HFI.out q hqm
      obtain ⟨q3, q4⟩ := HFB.out q hqm
      have hnew := HFW.out t q hq
      have htk := take_next hq
      have HRR := Lib.hid ((strI HR.out).up HVr.out.below)
      obtain ⟨aa, g, o, rfl, hadd, hat⟩ := HRR.out.at hq (v0 := .int .i64 (q.1.1 : Int)) rfl
      have r0 := hat 0 (.int .i64 (q.1.1 : Int)) rfl
      have r1 := hat 1 (.int .u64 (q.1.2 : Int)) rfl
      have r2 := hat 2 (.int .i64 q.2) rfl
      rw [Nat.add_zero] at r0
      have HPK := Lib.hid (pkl_ok (L := q.1.1) (i := q.1.2) q1 q2)
      have HWF : Hid ((Lit.int .i64 q.2).wf = true) := Lib.hid (WalkArith.wf_i64 ⟨q3, q4⟩)
      have HTN := Lib.hid (HTD.out.put (n := q.2) q1 q2 hnew)
      have hqe : FL.take (t + 1) = FL.take t ++ [((q.1.1, q.1.2), q.2)] := htk
      rw [← hqe] at HTN
      obtain ⟨ql, hql⟩ : ∃ v, q.1.1 = v := ⟨_, rfl⟩
      obtain ⟨qi, hqi⟩ : ∃ v, q.1.2 = v := ⟨_, rfl⟩
      obtain ⟨qn, hqn⟩ : ∃ v, q.2 = v := ⟨_, rfl⟩
      rw [hql] at r0 HPK HTN
      rw [hqi] at r1 HPK HTN
      rw [hqn] at r2 HWF HTN
      clear hat hq hqm q1 q2 q3 q4 hnew htk hqe hql hqi hqn
      go_upto_region 5 with fail
      have HVb := Lib.hid (HVr.out.push (boxT wr.heap.size 85 #[.int .i64 (ql : Int), .int .u64 (qi : Int), .int .i64 qn]) (Lw.below_alloc (Below.refl _ _) _) (heap_alloc_new wr _) (fun k hk => Nat.le_of_eq hk.symm))
      obtain ⟨WB, hWB⟩ : ∃ X, wr.alloc (.cells #[.int .i64 (ql : Int), .int .u64 (qi : Int), .int .i64 qn] 85) = X := ⟨_, rfl⟩
      rw [hWB] at HVb ⊢
      obtain ⟨u0, u1, u2⟩ := cbox3r HVb.out.i0
      have u3 := box_cell HVb.out.i1 (i := 0) rfl
      have HMP := Lib.hid (mapI HVb.out.i2)
      clear hWB r0 r1 r2
      go_wp2_with (at_mapUpdate; refine wpList_mapUpdate_own _ rfl _ _ _ _ rfl 82 2 pk_law mp_u (plainElem Tryz.prog 2) MB t D rfl HMP.out (by unfold maxLen; omega) _ _ (pkl ql qi) rfl rfl HPK.out _ [] (plainElem_int mp_e HWF.out) ?_; intro w7 hown7 hgrow7)
      have HV7 := Lib.hid (map_turn2 HVb.out hown7 hgrow7)
      go_roundw
      case rel => exact ⟨t + 1, _, by omega, by go_num, HTN.out, HV7.out.drop_0.up (by repeat' (first | (with_reducible first | exact Below.refl _ _ | assumption | refine below_over ?_ _ _ | refine Lw.below_alloc ?_ _ | refine Below.drew ?_ | refine below_drewN ?_ _ | refine Below.setCell ?_ ?_ _) | go_size))⟩
      case measure => simp [intOf]; omega
    · have lt1 : ¬ (t : Int) < (n : Int) := by omega
      have et : FL.take t = FL := List.take_of_length_le (by rw [HLEN.out]; omega)
      rw [et] at HTD
      have HMT0 := HTD.out
      rw [← HFL.out] at HMT0
      have HMT := Lib.hid (map_told HMT0)
      have HT5 : Hid (t ≤ 5000) := Lib.hid (by omega)
      clear et HMT0 hmore ht
      have u3 := box_cell HVr.out.i3 (i := 0) rfl
      go_upto_region 8 with fail
      have HV8 := Lib.hid (three_new HVr.out (vs := madeCells #[.slice none 0 0] (BB + 1)) (us := #[.slice (some ⟨wr.heap.size, 0, none⟩) (BB + 1) (BB + 1)]) (zs := #[.bool true]) (e := 45) (f := 189) (h' := 4))
      obtain ⟨KB, hKB⟩ : ∃ k, wr.heap.size = k := ⟨_, rfl⟩
      obtain ⟨W8, hW8⟩ : ∃ X, ((wr.alloc (.cells (madeCells #[.slice none 0 0] (BB + 1)) 45)).alloc (.cells #[.slice (some ⟨wr.heap.size, 0, none⟩) (BB + 1) (BB + 1)] 189)).alloc (.cells #[.bool true] 4) = X := ⟨_, rfl⟩
      rw [hW8] at HV8 ⊢
      rw [hKB] at HV8 ⊢
      obtain ⟨SB, hSB⟩ : ∃ k, KB + 1 = k := ⟨_, rfl⟩
      rw [hSB] at HV8 ⊢
      obtain ⟨AB, hAB⟩ : ∃ k, SB + 1 = k := ⟨_, rfl⟩
      rw [hAB] at HV8 ⊢
      clear hW8 u3
      go_upto_region 9 with fail
      have HV9 := Lib.hid (HV8.out.push (boxT W8.heap.size 190 #[.nilFunc]) (Lw.below_alloc (Below.refl _ _) _) (heap_alloc_new W8 _) (fun k hk => Nat.le_of_eq hk.symm))
      obtain ⟨GB, hGB⟩ : ∃ k, W8.heap.size = k := ⟨_, rfl⟩
      obtain ⟨W9, hW9⟩ : ∃ X, W8.alloc (.cells #[.nilFunc] 190) = X := ⟨_, rfl⟩
      rw [hW9] at HV9 ⊢
      rw [hGB] at HV9 ⊢
      clear hW9
      have g0 := box_cell HV9.out.i0 (i := 0) rfl
      have g1 := Qnt.blk_frozen HV9.out.i0 0
      go_upto_region 10 with fail
      have HV10 := Lib.hid (box_put1 HV9.out (.func (.func 97) #[] #[.pointer (some ⟨TB, 0, none⟩), .pointer (some ⟨BX, 0, none⟩), .pointer (some ⟨GB, 0, none⟩), .pointer (some ⟨AB, 0, none⟩), .pointer (some ⟨LB, 0, none⟩), .pointer (some ⟨SB, 0, none⟩)]))
      obtain ⟨W10, hW10⟩ : ∃ X, W9.setCell ⟨GB, 0, none⟩ (.func (.func 97) #[] #[.pointer (some ⟨TB, 0, none⟩), .pointer (some ⟨BX, 0, none⟩), .pointer (some ⟨GB, 0, none⟩), .pointer (some ⟨AB, 0, none⟩), .pointer (some ⟨LB, 0, none⟩), .pointer (some ⟨SB, 0, none⟩)]) = X := ⟨_, rfl⟩
      rw [hW10] at HV10 ⊢
      clear hW10 g0 g1
      have hlt1 : TB < KB := by rw [← hKB]; exact heap_lt HVr.out.i0
      have hlt2 : AB < GB := by rw [← hGB]; exact heap_lt HV8.out.i0
      have HC10 : Hid (CTI TB MB BX GB LB SB KB (BB + 1) BB D least (fnV TB BX GB AB LB SB) W10) := Lib.hid ⟨box_cell (have_ip HV10.out (j := 4) rfl) (i := 0) rfl, World.ownsMap.mono (mapI (have_ip HV10.out (j := 5) rfl)) HT5.out, box_cell (have_ip HV10.out (j := 7) rfl) (i := 0) rfl, box_cell (have_ip HV10.out (j := 0) rfl) (i := 0) rfl, box_cell (have_ip HV10.out (j := 6) rfl) (i := 0) rfl, box_cell (have_ip HV10.out (j := 2) rfl) (i := 0) rfl⟩
      have HG10 := Lib.hid (gk_made (B0 := W10.heap.size) (have_ip HV10.out (j := 3) rfl) (have_ip HV10.out (j := 1) rfl) (by omega) (heap_lt (have_ip HV10.out (j := 3) rfl)) (heap_lt (have_ip HV10.out (j := 1) rfl)))
      have HD10 : Hid (∀ k, ctF TB MB BX GB LB SB k → ¬ gkF KB AB (madeCells #[.slice none 0 0] (BB + 1)) k) := Lib.hid (fun k hk h1 => by
        unfold ctF at hk
        rcases h1 with h1 | h1 | ⟨M, v, h1, h2⟩
        · omega
        · omega
        · rw [made_nil h1] at h2
          cases h2)
      have hgat := gat_all TB MB BX GB LB SB KB AB (BB + 1) BB W10.heap.size D least (toldQ pt least BB) HTB.out HMT.out HB59.out rfl BB (Nat.le_refl _) 0 (Nat.two_pow_pos _) (madeCells #[.slice none 0 0] (BB + 1)) (fun _ => []) true W10 HC10.out HG10.out HD10.out (fun M => by
        have h5 := HLL.out M
        have h6 := HLEN.out
        simp only [List.nil_append]
        omega) (Nat.le_refl _)
      have HGAT : Hid (Calls Tryz.prog 97 #[.agg #[.int .i64 (BB : Int), .int .u64 0], .pointer (some ⟨TB, 0, none⟩), .pointer (some ⟨BX, 0, none⟩), .pointer (some ⟨GB, 0, none⟩), .pointer (some ⟨AB, 0, none⟩), .pointer (some ⟨LB, 0, none⟩), .pointer (some ⟨SB, 0, none⟩)] W10 fun e w' => ∃ hv' : Array Value, e = .returned (.agg #[.int .i64 (Wid.fh (gW (toldQ pt least BB) least BB 0)), .int .u64 (Wid.fl (gW (toldQ pt least BB) least BB 0))]) ∧ GK W10.heap.size KB AB (BB + 1) hv' (fun M => gL (toldQ pt least BB) least BB 0 M) (gF (toldQ pt least BB) least BB 0) w' ∧ Kept (gkF KB AB (madeCells #[.slice none 0 0] (BB + 1))) W10 w' ∧ (∀ k, gkF KB AB hv' k → gkF KB AB (madeCells #[.slice none 0 0] (BB + 1)) k ∨ W10.heap.size ≤ k)) := Lib.hid hgat
      have HWK : Hid (w.heap.size ≤ KB) := Lib.hid (by rw [← hKB]; exact HVr.out.below.size)
      have HBLO : Hid (∀ q, gkF KB AB (madeCells #[.slice none 0 0] (BB + 1)) q → w.heap.size ≤ q) := Lib.hid (fun q h1 => by
        rcases h1 with h1 | h1 | ⟨M, v, h1, h2⟩
        · have h5 := HWK.out; omega
        · have h5 := HWK.out; omega
        · rw [made_nil h1] at h2
          cases h2)
      rw [HFT.out] at HGAT
      have b0 := HC10.out.bcell
      have b1 : W10.cell? ⟨GB, 0, none⟩ = some (.func (.func 97) #[] #[.pointer (some ⟨TB, 0, none⟩), .pointer (some ⟨BX, 0, none⟩), .pointer (some ⟨GB, 0, none⟩), .pointer (some ⟨AB, 0, none⟩), .pointer (some ⟨LB, 0, none⟩), .pointer (some ⟨SB, 0, none⟩)]) := HC10.out.gcell
      clear hgat
      go_upto_region 11 with (go_at_call 97; (with_reducible refine HGAT.out.mono ?_); rintro e w6 ⟨hvq, rfl, hg6, hk6, hF6⟩; have HG6 := Lib.hid hg6; have HC6 := Lib.hid (HC10.out.keep hk6 HD10.out); have HL6 := Lib.hid (hk6.low HV10.out.below HV10.out.below.size HBLO.out); clear hg6 hk6 hF6)
      have HRW := Lib.hid (rows_of HG6.out)
      have HCAT := Lib.hid (fun w' h => concat_any KB (BB + 1) (fun M => (hvq[M]?).getD undef) (fun M => gL (toldQ pt least BB) least BB 0 M) w' h (by have := HB59.out; omega) (by have h5 := HCL.out; have h6 := HLEN.out; omega))
      have x0 := HC6.out.scell
      have x1 := box_cell (w := w6) (b := AB) (e := 4) (vs := #[.bool FT]) HG6.out.flag (i := 0) rfl
      clear b0 b1
      go_cut [6, 7] (fun s6 s7 wx => ∃ (A2 : Option Addr) (n2 cap2 : Nat), s6 = .slice A2 n2 cap2 ∧ s7 = .bool FT ∧ wx.ownsRow w6.heap.size 101 4 (.slice A2 n2 cap2) n2 ((catK (fun M => gL (toldQ pt least BB) least BB 0 M) (BB + 1)).flatMap encR) ∧ Hid (n2 = (catK (fun M => gL (toldQ pt least BB) least BB 0 M) (BB + 1)).length) ∧ Below w6.heap.size w6 wx)
      case first =>
        go_region_held3 (fun w' => w'.cell? ⟨SB, 0, none⟩ = some (.slice (some ⟨KB, 0, none⟩) (BB + 1) (BB + 1)) ∧ w'.cell? ⟨AB, 0, none⟩ = some (.bool FT)) (first | (exact ⟨y0, y1⟩) | (exact ⟨cell_up x0 (by (repeat' (first | (with_reducible first | exact Below.refl _ _ | assumption | refine below_over ?_ _ _ | refine Lw.below_alloc ?_ _ | refine Below.drew ?_ | refine below_drewN ?_ _ | refine Below.setCell ?_ ?_ _) | go_size))), cell_up x1 (by (repeat' (first | (with_reducible first | exact Below.refl _ _ | assumption | refine below_over ?_ _ _ | refine Lw.below_alloc ?_ _ | refine Below.drew ?_ | refine below_drewN ?_ _ | refine Below.setCell ?_ ?_ _) | go_size)))⟩)) (first
          | (go_at_call 101; (with_reducible refine (HCAT.out _ (HRW.out.up (by (repeat' (first | (with_reducible first | exact Below.refl _ _ | assumption | refine below_over ?_ _ _ | refine Lw.below_alloc ?_ _ | refine Below.drew ?_ | refine below_drewN ?_ _ | refine Below.setCell ?_ ?_ _) | go_size))))).mono ?_); rintro e w8 ⟨A2, n2, cap2, rfl, hown, hn2, hb⟩; have HOW := Lib.hid hown; have HN2 := Lib.hid hn2; have HBW : Hid (Below w6.heap.size w6 w8) := Lib.hid (below_call (by (repeat' (first | (with_reducible first | exact Below.refl _ _ | assumption | refine below_over ?_ _ _ | refine Lw.below_alloc ?_ _ | refine Below.drew ?_ | refine below_drewN ?_ _ | refine Below.setCell ?_ ?_ _) | go_size))) hb (Nat.le_refl _)); have y0 := cell_up x0 HBW.out; have y1 := cell_up x1 HBW.out; clear hown hn2 hb))
        all_goals (try go_wp2_with fail)
        all_goals go_meet
        all_goals exact ⟨A2, n2, cap2, rfl, rfl, HOW.out, HN2, HBW.out⟩
      case rest =>
        obtain ⟨A2, n2, cap2, rfl, rfl, hown, HN2, hb⟩ := hcut
        have HOW := Lib.hid hown
        have HBW := Lib.hid hb
        clear hown hb x0 x1
        go_wp2
        refine bodyPost_ret (v := .tuple #[.slice A2 n2 cap2, .bool FT]) (by simp [results, Tryz.results57, go_sem]) rfl ?_
        exact ⟨A2, n2, cap2, rfl, own_base HOW.out HL6.out.size, HN2.out, HL6.out.trans (HBW.out.mono HL6.out.size)⟩
end Go.Proofs.YtkflggojiiebeaaGreat.Hvy
namespace Go.Proofs.YtkflggojiiebeaaGreat.Hvy
open Go Go.RowKit Lw Grd Lin Con Shp Sk Exa Lev Stk Pcs Spn Qnt
set_option linter.unusedVariables false
set_option linter.unusedSimpArgs false
set_option linter.unusedSimpArgs false
theorem hv_zero {c : Cfg} {pt : Nat → Int → Int} {least bud : Int} (h : hvC c pt least bud = 0) : bud ≤ 4096 ∧ ((countQ pt least c.bt.toNat (c.bt.toNat + 1) : Nat) : Int) ≤ bud ∧ hvL c pt least bud = foundQ pt least c.bt.toNat (c.bt.toNat + 1) := by
  have h1 : ¬ (least < 1 ∨ 4096 < bud) := fun h2 => by rw [(hv_arg h2).1] at h; cases h
  have h2 : ¬ bud < ((countQ pt least c.bt.toNat (c.bt.toNat + 1) : Nat) : Int) := fun h3 => by rw [(hv_over (by omega) (by omega) h3).1] at h; cases h
  exact ⟨by omega, by omega, (hv_yes (by omega) (by omega) (by omega)).2⟩
theorem hier_gat (c : Cfg) (pt : Nat → Int → Int) (least : Int) : hierQ c pt least = if gF (toldQ pt least c.bt.toNat) least c.bt.toNat 0 = true then some (catK (fun M => gL (toldQ pt least c.bt.toNat) least c.bt.toNat 0 M) (c.bt.toNat + 1)) else none := gat_hier pt least c.bt.toNat
set_option maxRecDepth 100000 in
set_option maxHeartbeats 4000000 in
theorem hv_hier (p : Addr) (F : Nat → Prop) (c : Cfg) (sts : List LS) (least bud : Int) (w : World) (h : ST w p F c sts) (l0 : -9223372036854775808 ≤ least) (l1 : least ≤ 9223372036854775807) (u0 : -9223372036854775808 ≤ bud) (u1 : bud ≤ 9223372036854775807) :
    Calls Tryz.prog 19 #[.pointer (some p), .int .i64 least, .int .i64 bud] w fun e w' => ∃ (A : Option Addr) (n cap : Nat), e = .returned (.tuple #[.slice A n cap, .int .i64 (hrC c (fun L i => spV c sts (L : Int) i) least bud)]) ∧ (stRowT 4 encR A n cap (hrL c (fun L i => spV c sts (L : Int) i) least bud)).I w' ∧ (∀ q, (stRowT 4 encR A n cap (hrL c (fun L i => spV c sts (L : Int) i) least bud)).F q → w.heap.size ≤ q) ∧ Below w.heap.size w w' := by
  have CH := Lib.hid (hv_heavy p F c sts least bud w h l0 l1 u0 u1)
  have HS := Lib.hid h
  have CC := Lib.hid (fun w hs => cs_config p F c sts w hs)
  have hbt := h.1.1
  have hbt2 := h.1.2.1
  by_cases hc : hvC c (fun L i => spV c sts (L : Int) i) least bud = 0
  · obtain ⟨z1, z2, z3⟩ := hv_zero hc
    have hhg := hier_gat c (fun L i => spV c sts (L : Int) i) least
    have hcl := cat_len (fun L i => spV c sts (L : Int) i) least c.bt.toNat
    have hfl := foundQ_le (fun L i => spV c sts (L : Int) i) least c.bt.toNat (c.bt.toNat + 1)
    obtain ⟨BB, hBB⟩ : ∃ B, c.bt.toNat = B := ⟨_, rfl⟩
    have hcb : c.bt = (BB : Int) := by omega
    have hfd : ∀ w, (Instr.field 24 (.agg #[.int .i64 c.bt, .int .i64 c.rw, .int .i64 c.wd, .int .i64 c.md, .int .u64 c.sd]) 0).run Tryz.prog w = .ok (.int .i64 (BB : Int)) w := fun w => by
      have h5 := cfg_bt c w
      rw [h5, hcb]
    rw [hBB] at z2 z3 hhg hcl hfl
    rw [hc, z3] at CH
    have HKP := Lib.hid (fun A n cap w hr hn => keep_any (fun L i => spV c sts (L : Int) i) least BB A n cap w hr (fun L i => sp_in16 HS.out (L : Int) i) (by omega) hn)
    by_cases hg : gF (toldQ (fun L i => spV c sts (L : Int) i) least BB) least BB 0 = true
    · rw [if_pos hg] at hhg
      obtain ⟨y1, y2⟩ := hr_yes hc hhg
      rw [y1, y2]
      rw [hg] at HKP
      have HFL := Lib.hid (show (foundQ (fun L i => spV c sts (L : Int) i) least BB (BB + 1)).length ≤ 4096 by omega)
      obtain ⟨KL, hKL⟩ : ∃ l, catK (fun M => gL (toldQ (fun L i => spV c sts (L : Int) i) least BB) least BB 0 M) (BB + 1) = l := ⟨_, rfl⟩
      rw [hKL]
      rw [hKL] at HKP
      clear h hbt hbt2 hc z1 z2 z3 hhg hcl hfl hBB hcb hg y1 y2 hKL l0 l1 u0 u1
      go_enter Tryz.func19, Tryz.ntmps19
      go_wp2_with (first
        | (go_at_call 17; (with_reducible refine CH.out.mono ?_); rintro e w1 ⟨A, n, cap, rfl, hI, hF, hb⟩; have HI1 := Lib.hid hI; have HB1 := Lib.hid hb; have HNL : Hid (n ≤ 4096) := Lib.hid (by rw [← (strI hI).len]; exact HFL.out); clear hI hF hb)
        | (go_at_call 53; (with_reducible refine (CC.out _ (HS.out.up HB1.out)).mono ?_); rintro e w2 ⟨rfl, hb⟩; have HI2 := Lib.hid ((stRowT 3 encF A n cap _).keep w1 w2 (fun _ => False) HI1.out (Kept.of_below hb) (fun _ _ h => h)); have HB2 := Lib.hid (HB1.out.trans (hb.mono HB1.out.size)); clear hb)
        | (go_at_call 57; (with_reducible refine (HKP.out A n cap _ HI2.out HNL.out).mono ?_); rintro e w3 ⟨A2, n2, cap2, rfl, hown, hn2, hb⟩; have HOW := Lib.hid hown; have HN2 := Lib.hid hn2; have HB3 := Lib.hid (HB2.out.trans (hb.mono HB2.out.size)); clear hown hn2 hb))
      refine bodyPost_ret (v := .tuple #[.slice A2 n2 cap2, .int .i64 0]) (by simp [results, Tryz.results19, go_sem]) rfl ?_
      obtain ⟨A3, cap3, e3, hI3, hF3⟩ := st_own encR_len (own_base HOW.out HB2.out.size) HN2.out.symm
      injection e3 with e3a e3b e3c
      subst e3a e3c
      exact ⟨A2, n2, cap2, rfl, hI3, hF3, HB3.out⟩
    · have hg2 : gF (toldQ (fun L i => spV c sts (L : Int) i) least BB) least BB 0 = false := by simpa using hg
      rw [if_neg hg] at hhg
      obtain ⟨y1, y2⟩ := hr_over hc hhg
      rw [y1, y2]
      rw [hg2] at HKP
      have HFL := Lib.hid (show (foundQ (fun L i => spV c sts (L : Int) i) least BB (BB + 1)).length ≤ 4096 by omega)
      obtain ⟨KL, hKL⟩ : ∃ l, catK (fun M => gL (toldQ (fun L i => spV c sts (L : Int) i) least BB) least BB 0 M) (BB + 1) = l := ⟨_, rfl⟩
      rw [hKL] at HKP
      clear h hbt hbt2 hc z1 z2 z3 hhg hcl hfl hBB hcb hg hg2 y1 y2 hKL l0 l1 u0 u1
      go_enter Tryz.func19, Tryz.ntmps19
      go_wp2_with (first
        | (go_at_call 17; (with_reducible refine CH.out.mono ?_); rintro e w1 ⟨A, n, cap, rfl, hI, hF, hb⟩; have HI1 := Lib.hid hI; have HB1 := Lib.hid hb; have HNL : Hid (n ≤ 4096) := Lib.hid (by rw [← (strI hI).len]; exact HFL.out); clear hI hF hb)
        | (go_at_call 53; (with_reducible refine (CC.out _ (HS.out.up HB1.out)).mono ?_); rintro e w2 ⟨rfl, hb⟩; have HI2 := Lib.hid ((stRowT 3 encF A n cap _).keep w1 w2 (fun _ => False) HI1.out (Kept.of_below hb) (fun _ _ h => h)); have HB2 := Lib.hid (HB1.out.trans (hb.mono HB1.out.size)); clear hb)
        | (go_at_call 57; (with_reducible refine (HKP.out A n cap _ HI2.out HNL.out).mono ?_); rintro e w3 ⟨A2, n2, cap2, rfl, hown, hn2, hb⟩; have HB3 := Lib.hid (HB2.out.trans (hb.mono HB2.out.size)); clear hown hn2 hb))
      refine bodyPost_ret (v := .tuple #[.slice none 0 0, .int .i64 4]) (by simp [results, Tryz.results19, go_sem]) rfl ?_
      exact ⟨none, 0, 0, rfl, st_nil 4 encR _, (fun q hq => by obtain ⟨a, e, _⟩ := hq; cases e), HB3.out⟩
  · obtain ⟨y1, y2⟩ := hr_no hc
    rw [y1, y2]
    obtain ⟨HC, hHC⟩ : ∃ x, hvC c (fun L i => spV c sts (L : Int) i) least bud = x := ⟨_, rfl⟩
    rw [hHC] at CH hc
    rw [hHC]
    clear h hbt hbt2 y1 y2 hHC l0 l1 u0 u1
    go_enter Tryz.func19, Tryz.ntmps19
    go_wp2_with (go_at_call 17; (with_reducible refine CH.out.mono ?_); rintro e w1 ⟨A, n, cap, rfl, hI, hF, hb⟩; have HB1 := Lib.hid hb; clear hI hF hb)
    refine bodyPost_ret (v := .tuple #[.slice none 0 0, .int .i64 HC]) (by simp [results, Tryz.results19, go_sem]) rfl ?_
    exact ⟨none, 0, 0, rfl, st_nil 4 encR _, (fun q hq => by obtain ⟨a, e, _⟩ := hq; cases e), HB1.out⟩
end Go.Proofs.YtkflggojiiebeaaGreat.Hvy
namespace Go.Proofs.YtkflggojiiebeaaGreat.Hvy
open Go Go.RowKit Lw Grd Lin Con Shp Sk Exa Lev Stk Pcs Spn Qnt
set_option linter.unusedVariables false
set_option linter.unusedSimpArgs false
theorem f_4 : foundQ (fun L i => spV lH (stsOf lH [(1, 5), (2, 3)]) (L : Int) i) 4 2 3 = [((2, 0), (8 : Int)), ((1, 0), 5), ((0, 1), 5)] := by decide
theorem n_4 : countQ (fun L i => spV lH (stsOf lH [(1, 5), (2, 3)]) (L : Int) i) 4 2 3 = 5 := by decide
theorem n_3 : countQ (fun L i => spV lH (stsOf lH [(1, 5), (2, 3)]) (L : Int) i) 3 2 3 = 7 := by decide
theorem r_3 : hierQ lH (fun L i => spV lH (stsOf lH [(1, 5), (2, 3)]) (L : Int) i) 3 = some [((0, 1), (5 : Int), (5 : Int)), ((0, 2), 3, 3)] := by decide
theorem h_47 : hvC lH (fun L i => spV lH (stsOf lH [(1, 5), (2, 3)]) (L : Int) i) 4 7 = 0 ∧ hvL lH (fun L i => spV lH (stsOf lH [(1, 5), (2, 3)]) (L : Int) i) 4 7 = [((2, 0), (8 : Int)), ((1, 0), 5), ((0, 1), 5)] := by
  have h := hv_yes (c := lH) (pt := (fun L i => spV lH (stsOf lH [(1, 5), (2, 3)]) (L : Int) i)) (least := 4) (bud := 7) (by decide) (by decide) (by rw [show lH.bt.toNat = 2 from rfl, n_4]; decide)
  exact ⟨h.1, h.2.trans f_4⟩
theorem h_44 : hvC lH (fun L i => spV lH (stsOf lH [(1, 5), (2, 3)]) (L : Int) i) 4 4 = 7 ∧ hvL lH (fun L i => spV lH (stsOf lH [(1, 5), (2, 3)]) (L : Int) i) 4 4 = [] :=
  hv_over (c := lH) (pt := (fun L i => spV lH (stsOf lH [(1, 5), (2, 3)]) (L : Int) i)) (least := 4) (bud := 4) (by decide) (by decide) (by rw [show lH.bt.toNat = 2 from rfl, n_4]; decide)
theorem h_07 : hvC lH (fun L i => spV lH (stsOf lH [(1, 5), (2, 3)]) (L : Int) i) 0 7 = 1 ∧ hvL lH (fun L i => spV lH (stsOf lH [(1, 5), (2, 3)]) (L : Int) i) 0 7 = [] := hv_arg (.inl (by decide))
theorem h_37 : hrC lH (fun L i => spV lH (stsOf lH [(1, 5), (2, 3)]) (L : Int) i) 3 7 = 0 ∧ hrL lH (fun L i => spV lH (stsOf lH [(1, 5), (2, 3)]) (L : Int) i) 3 7 = [((0, 1), (5 : Int), (5 : Int)), ((0, 2), 3, 3)] :=
  hr_yes (hv_yes (c := lH) (pt := (fun L i => spV lH (stsOf lH [(1, 5), (2, 3)]) (L : Int) i)) (least := 3) (bud := 7) (by decide) (by decide) (by rw [show lH.bt.toNat = 2 from rfl, n_3]; decide)).1 r_3
theorem th_any (p : Addr) (F : Nat → Prop) (least bud x : Int) (l : List ((Nat × Nat) × Int)) (w : World) (h : ST w p F lH (stsOf lH [(1, 5), (2, 3)])) (l0 : -9223372036854775808 ≤ least) (l1 : least ≤ 9223372036854775807) (u0 : -9223372036854775808 ≤ bud) (u1 : bud ≤ 9223372036854775807) (hv : hvC lH (fun L i => spV lH (stsOf lH [(1, 5), (2, 3)]) (L : Int) i) least bud = x ∧ hvL lH (fun L i => spV lH (stsOf lH [(1, 5), (2, 3)]) (L : Int) i) least bud = l) :
    Calls Tryz.prog 17 #[.pointer (some p), .int .i64 least, .int .i64 bud] w fun e w' => ∃ (A : Option Addr) (cap : Nat), e = .returned (.tuple #[.slice A l.length cap, .int .i64 x]) ∧ StV 3 encF w' A l.length cap l ∧ Below w.heap.size w w' := by
  refine (hv_heavy p F lH (stsOf lH [(1, 5), (2, 3)]) least bud w h l0 l1 u0 u1).mono ?_
  rintro e w' ⟨A, n, cap, rfl, h1, h2, hb⟩
  rw [hv.2] at h1
  rw [hv.1]
  obtain rfl : l.length = n := (strI h1).len
  exact ⟨A, cap, rfl, strI h1, hb⟩
theorem tr_37 (p : Addr) (F : Nat → Prop) (w : World) (h : ST w p F lH (stsOf lH [(1, 5), (2, 3)])) :
    Calls Tryz.prog 19 #[.pointer (some p), .int .i64 3, .int .i64 7] w fun e w' => ∃ (A : Option Addr) (cap : Nat), e = .returned (.tuple #[.slice A 2 cap, .int .i64 0]) ∧ StV 4 encR w' A 2 cap [((0, 1), (5 : Int), (5 : Int)), ((0, 2), 3, 3)] ∧ Below w.heap.size w w' := by
  refine (hv_hier p F lH (stsOf lH [(1, 5), (2, 3)]) 3 7 w h (by decide) (by decide) (by decide) (by decide)).mono ?_
  rintro e w' ⟨A, n, cap, rfl, h1, h2, hb⟩
  rw [h_37.2] at h1
  rw [h_37.1]
  obtain rfl : 2 = n := (strI h1).len
  exact ⟨A, cap, rfl, strI h1, hb⟩
set_option maxRecDepth 100000 in
set_option maxHeartbeats 8000000 in
theorem shown_any (w : World) : Calls Tryz.prog 11 #[] w fun e w' => e = .returned (.bool true) ∧ Below w.heap.size w w' := by
  have HV0 : Hid (Have w w []) := Lib.hid (Below.refl _ _)
  go_enter Tryz.func11, Tryz.ntmps11
  go_upto_region 10 with (first
    | (go_at_call 19; (with_reducible refine (tr_37 p F2 _ (stI HV6.out.i0)).mono ?_); rintro e w7 ⟨A2, cap2, rfl, hr, hb⟩; have RB := Lib.hid hr; have RD := Lib.hid (RD.out.up hb); have HV7 := Lib.hid (HV6.out.up hb); clear hb hr)
    | (go_at_call 17; (with_reducible refine (th_any p F2 _ _ _ [] _ (stI HV5.out.i0) (by decide) (by decide) (by decide) (by decide) h_07).mono ?_); rintro e w6 ⟨Aw6, capw6, rfl, hr, hb⟩; have RD := Lib.hid (RD.out.up hb); have HV6 := Lib.hid (HV5.out.up hb); clear hb; clear hr)
    | (go_at_call 17; (with_reducible refine (th_any p F2 _ _ _ [] _ (stI HV4.out.i0) (by decide) (by decide) (by decide) (by decide) h_44).mono ?_); rintro e w5 ⟨Aw5, capw5, rfl, hr, hb⟩; have RD := Lib.hid (RD.out.up hb); have HV5 := Lib.hid (HV4.out.up hb); clear hb; clear hr)
    | (go_at_call 17; (with_reducible refine (th_any p F2 _ _ _ [((2, 0), (8 : Int)), ((1, 0), 5), ((0, 1), 5)] _ (stI HV3.out.i0) (by decide) (by decide) (by decide) (by decide) h_47).mono ?_); rintro e w4 ⟨Aw4, capw4, rfl, hr, hb⟩; have RD := Lib.hid hr; have HV4 := Lib.hid (HV3.out.up hb); clear hb; clear hr)
    | (go_at_call 15; (with_reducible refine (hu_any p F1 _ _ _ _ _ _ (stI HV2.out.i0) (by decide) (by decide) (by decide) (by decide) sH_2).mono ?_); rintro e w3 ⟨rfl, F2, h1, h2, h3⟩; have HV3 := Lib.hid (HV2.out.turn_0 (stT p F2 lH (stsOf lH [(1, 5), (2, 3)])) h1 h2 h3); clear h1 h2 h3)
    | (go_at_call 15; (with_reducible refine (hu_any p F _ _ _ _ _ _ (stI HV1.out.i0) (by decide) (by decide) (by decide) (by decide) sH_1).mono ?_); rintro e w2 ⟨rfl, F1, h1, h2, h3⟩; have HV2 := Lib.hid (HV1.out.turn_0 (stT p F1 lH (stsOf lH [(1, 5)])) h1 h2 h3); clear h1 h2 h3)
    | (go_at_call 13; (with_reducible refine (hn_1 _).mono ?_); rintro e w1 ⟨p, F, rfl, h1, h2, hb⟩; have HV1 := Lib.hid (HV0.out.push (stT p F lH (stsOf lH [])) hb h1 h2); clear h1 h2 hb))
  obtain ⟨a, g, o, rfl, ha, c0⟩ := RD.out.at (i := 0) rfl rfl
  obtain ⟨a', g2, o2, e2, ha2, c2⟩ := RD.out.at (i := 2) rfl rfl
  obtain ⟨b, g3, o3, rfl, hb3, d1⟩ := RB.out.at (i := 1) rfl rfl
  injection e2 with e2
  subst e2
  have x0 := c0 0 _ rfl
  have x1 := c0 1 _ rfl
  have x2 := c0 2 _ rfl
  have y0 := c2 0 _ rfl
  have y1 := c2 1 _ rfl
  have y2 := c2 2 _ rfl
  have z0 := d1 0 _ rfl
  have z1 := d1 1 _ rfl
  have z2 := d1 2 _ rfl
  have z3 := d1 3 _ rfl
  simp only [Nat.add_zero] at x0 y0 z0
  have ha0 : a.add 0 = ⟨g, o, none⟩ := ha
  have ha6 : a.add 6 = ⟨g2, o2, none⟩ := ha2
  have hb4 : b.add 4 = ⟨g3, o3, none⟩ := hb3
  clear c0 c2 d1 ha ha2 hb3
  go_wp2
  go_ret
  exact ⟨ret_bs (by first | rfl | (simp [*]; done)), HV7.out.below⟩
end Go.Proofs.YtkflggojiiebeaaGreat.Hvy
