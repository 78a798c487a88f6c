/- The walks of package grid (the code's): a grid that another one is put to: Plus, Minus. -/
import Derived.Test.YtonbidohhgenlaaGrdCode
import Derived.Deep.LoopGhost
import Derived.Deep.RegionHeld3
import Derived.Deep.QuietTactic
import Derived.BigQuiet
import Derived.Laws.Cover3
import Derived.WalkMore
namespace Go.Proofs.Ytonbidohhgenlaa.Grd
open Go Go.RowKit Lw
set_option linter.unusedVariables false
set_option linter.unusedSimpArgs false
set_option maxRecDepth 100000 in
theorem alike_nil (p : Addr) (f : Value) (w : World) :
    Calls Try.prog 48 #[.agg #[.pointer (some p), .pointer none, f]] w fun e w' => e = .returned (.bool false) ∧ Below w.heap.size w w' := by
  go_enter Try.func48, Try.ntmps48
  go_wp2
  go_quiet (fail)
  go_wp2
  go_ret
  exact ⟨rfl, below_drewN (Lw.below_alloc (Below.refl _ _) _) _⟩
set_option maxRecDepth 100000 in
set_option maxHeartbeats 4000000 in
theorem alike_any (p q : Addr) (F G : Nat → Prop) (m n m' n' : Nat) (L M : List (List Int)) (f : Value) (w : World) (h : PG w p F m n L) (g : PG w q G m' n' M) :
    Calls Try.prog 48 #[.agg #[.pointer (some p), .pointer (some q), f]] w fun e w' => e = .returned (.bool (decide (m = m' ∧ n = n'))) ∧ Below w.heap.size w w' := by
  have HP : Hid (∀ o d, PG ((w.alloc o).drewN d) p F m n L) := Lib.hid (fun o d => pg_drewN (pg_alloc h o) d)
  have HQ : Hid (∀ o d, PG ((w.alloc o).drewN d) q G m' n' M) := Lib.hid (fun o d => pg_drewN (pg_alloc g o) d)
  have m8 := h.1.m8
  have n8 := h.1.n128
  have m8' := g.1.m8
  have n8' := g.1.n128
  clear h g
  by_cases hm : m' = m
  · subst hm
    by_cases hn : n' = n
    · subst hn
      have e : decide (m' = m' ∧ n' = n') = true := by simp
      rw [e]
      clear e
      go_enter Try.func48, Try.ntmps48
      go_wp2
      go_quiet (first
        | (go_at_call 55; with_reducible refine Calls.quiet_of_same (rows_eq p F m' n' L _ (HP.out _ _)))
        | (go_at_call 55; with_reducible refine Calls.quiet_of_same (rows_eq q G m' n' M _ (HQ.out _ _)))
        | (go_at_call 56; with_reducible refine Calls.quiet_of_same (width_eq p F m' n' L _ (HP.out _ _)))
        | (go_at_call 56; with_reducible refine Calls.quiet_of_same (width_eq q G m' n' M _ (HQ.out _ _))))
      go_wp2
      go_ret
      exact ⟨rfl, below_drewN (Lw.below_alloc (Below.refl _ _) _) _⟩
    · have e : decide (m' = m' ∧ n = n') = false := by simp; omega
      have t1 : ((n' : Int) == (n : Int)) = false := by simp; omega
      have t2 : decide ((n' : Int) = (n : Int)) = false := by simp; omega
      rw [e]
      clear e
      go_enter Try.func48, Try.ntmps48
      go_wp2
      go_quiet (first
        | (go_at_call 55; with_reducible refine Calls.quiet_of_same (rows_eq p F m' n L _ (HP.out _ _)))
        | (go_at_call 55; with_reducible refine Calls.quiet_of_same (rows_eq q G m' n' M _ (HQ.out _ _)))
        | (go_at_call 56; with_reducible refine Calls.quiet_of_same (width_eq p F m' n L _ (HP.out _ _)))
        | (go_at_call 56; with_reducible refine Calls.quiet_of_same (width_eq q G m' n' M _ (HQ.out _ _))))
      go_wp2
      go_ret
      exact ⟨rfl, below_drewN (Lw.below_alloc (Below.refl _ _) _) _⟩
  · have e : decide (m = m' ∧ n = n') = false := by simp; omega
    have t1 : ((m' : Int) == (m : Int)) = false := by simp; omega
    have t2 : decide ((m' : Int) = (m : Int)) = false := by simp; omega
    rw [e]
    clear e
    go_enter Try.func48, Try.ntmps48
    go_wp2
    go_quiet (first
      | (go_at_call 55; with_reducible refine Calls.quiet_of_same (rows_eq p F m n L _ (HP.out _ _)))
      | (go_at_call 55; with_reducible refine Calls.quiet_of_same (rows_eq q G m' n' M _ (HQ.out _ _)))
      | (go_at_call 56; with_reducible refine Calls.quiet_of_same (width_eq p F m n L _ (HP.out _ _)))
      | (go_at_call 56; with_reducible refine Calls.quiet_of_same (width_eq q G m' n' M _ (HQ.out _ _))))
    go_wp2
    go_ret
    exact ⟨rfl, below_drewN (Lw.below_alloc (Below.refl _ _) _) _⟩
/-- Below, of a world that is drawn, allotted, grown. -/
theorem jplus (a b : Int) (w : World) (a0 : -9223372036854775808 ≤ a) (a1 : a ≤ 9223372036854775807) (b0 : -9223372036854775808 ≤ b) (b1 : b ≤ 9223372036854775807) :
    Calls Try.prog 26 #[.int .i64 a, .int .i64 b] w fun e w' => e = .returned (.tuple #[.int .i64 (Wid.f64 (a + 1 * b)), .bool (Wid.fit64 (a + 1 * b))]) ∧ Below w.heap.size w w' := by
  rw [Int.one_mul]
  exact Wid.plus_any a b w a0 a1 b0 b1
theorem flat_join {s : Int} {n : Nat} : ∀ {L M : List (List Int)}, (∀ r ∈ L, r.length = n) → (∀ r ∈ M, r.length = n) → L.length = M.length → (gridS s L M).flatten = rowS s L.flatten M.flatten
  | [], [], _, _, _ => rfl
  | [], _ :: _, _, _, h => by simp at h
  | _ :: _, [], _, _, h => by simp at h
  | x :: xs, y :: ys, h1, h2, h => by
    have ih := flat_join (s := s) (L := xs) (M := ys) (fun r hr => h1 r (by simp [hr])) (fun r hr => h2 r (by simp [hr])) (by simpa using h)
    have hl : x.length = y.length := by rw [h1 x (by simp), h2 y (by simp)]
    unfold gridS rowS at ih ⊢
    simp only [List.zipWith_cons_cons, List.flatten_cons, ih]
    rw [List.zipWith_append hl]
theorem join_dims {m n : Nat} {L M : List (List Int)} (h : Dims m n L) (g : Dims m n M) (s : Int) : (gridS s L M).flatten = rowS s L.flatten M.flatten :=
  flat_join (fun r hr => (h.rows r hr).1) (fun r hr => (g.rows r hr).1) (by rw [h.len, g.len])
theorem flat_fits (J : List (List Int)) : fitsAll J = J.flatten.all Wid.fit64 := by
  unfold fitsAll
  rw [List.all_flatten]
theorem flat_in64 {m n : Nat} {L : List (List Int)} (h : Dims m n L) : In64 L.flatten := by
  intro v hv
  obtain ⟨r, hr, hv⟩ := List.mem_flatten.1 hv
  exact (h.rows r hr).2 v hv
theorem kept_low {w w2 w5 : World} {g : Nat} (h : Kept (fun q => q = g) w2 w5) (hb : Below w.heap.size w w2) (hg : w.heap.size < g) : Below w.heap.size w w5 :=
  h.low hb hb.size (fun q hq => by omega)
/-- The first k of the numbers X are joined with those of Y. -/
def mix (s : Int) (X Y : List Int) (k : Nat) : List Int := (rowS s X Y).take k ++ X.drop k
theorem mix_start (s : Int) (X Y : List Int) : mix s X Y 0 = X := by simp [mix]
theorem mix_end (s : Int) {X Y : List Int} {q : Nat} (hX : X.length = q) (hY : Y.length = q) : mix s X Y q = rowS s X Y := by
  have h : (rowS s X Y).length = q := by unfold rowS; rw [List.length_zipWith]; omega
  unfold mix
  rw [List.drop_of_length_le (by omega), List.append_nil, List.take_of_length_le (by omega)]
theorem row_get (s : Int) {X Y : List Int} {k : Nat} {x y : Int} (hx : X[k]? = some x) (hy : Y[k]? = some y) : (rowS s X Y)[k]? = some (x + s * y) := by
  unfold rowS
  rw [List.getElem?_zipWith, hx, hy]
theorem mix_len (s : Int) {X Y : List Int} {q k : Nat} (hX : X.length = q) (hY : Y.length = q) (hk : k ≤ q) : ((rowS s X Y).take k).length = k := by
  rw [List.length_take]
  unfold rowS
  rw [List.length_zipWith]
  omega
theorem mix_get (s : Int) {X Y : List Int} {q k : Nat} (hX : X.length = q) (hY : Y.length = q) {x : Int} (hx : X[k]? = some x) : (mix s X Y k)[k]? = some x := by
  have hk : k < X.length := (List.getElem?_eq_some_iff.1 hx).1
  have hl := mix_len s hX hY (k := k) (by omega)
  unfold mix
  rw [List.getElem?_append_right (by omega), List.getElem?_drop, hl]
  simpa using hx
theorem mix_set (s : Int) {X Y : List Int} {q k : Nat} (hX : X.length = q) (hY : Y.length = q) {x y : Int} (hx : X[k]? = some x) (hy : Y[k]? = some y) : (mix s X Y k).set k (x + s * y) = mix s X Y (k + 1) := by
  have hk : k < X.length := (List.getElem?_eq_some_iff.1 hx).1
  have hl := mix_len s hX hY (k := k) (by omega)
  have hg := row_get s hx hy
  have hz : k < (rowS s X Y).length := (List.getElem?_eq_some_iff.1 hg).1
  have he : (rowS s X Y)[k] = x + s * y := (List.getElem?_eq_some_iff.1 hg).2
  unfold mix
  rw [List.set_append_right _ _ (by omega), hl, Nat.sub_self, List.take_succ_eq_append_getElem hz, he, List.append_assoc]
  congr 1
  rw [List.drop_eq_getElem_cons hk]
  rfl
/-- The first k sums fit. -/
def fitK (s : Int) (X Y : List Int) (k : Nat) : Prop := ((rowS s X Y).take k).all Wid.fit64 = true
theorem fitK_next {s : Int} {X Y : List Int} {k : Nat} {x y : Int} (h : fitK s X Y k) (hx : X[k]? = some x) (hy : Y[k]? = some y) (hf : Wid.fit64 (x + s * y) = true) : fitK s X Y (k + 1) := by
  have hg := row_get s hx hy
  have hz : k < (rowS s X Y).length := (List.getElem?_eq_some_iff.1 hg).1
  have he : (rowS s X Y)[k] = x + s * y := (List.getElem?_eq_some_iff.1 hg).2
  unfold fitK at *
  rw [List.take_succ_eq_append_getElem hz, List.all_append, h, he]
  simp [hf]
theorem fitK_no {s : Int} {X Y : List Int} {k : Nat} {x y : Int} (hx : X[k]? = some x) (hy : Y[k]? = some y) (hf : Wid.fit64 (x + s * y) = false) : (rowS s X Y).all Wid.fit64 = false := by
  have hg := row_get s hx hy
  cases h : (rowS s X Y).all Wid.fit64 with
  | false => rfl
  | true =>
    rw [List.all_eq_true] at h
    have := h _ (List.mem_of_getElem? hg)
    rw [hf] at this
    cases this
theorem fitK_all {s : Int} {X Y : List Int} {q : Nat} (hX : X.length = q) (hY : Y.length = q) (h : fitK s X Y q) : (rowS s X Y).all Wid.fit64 = true := by
  unfold fitK at h
  rwa [List.take_of_length_le (by unfold rowS; rw [List.length_zipWith]; omega)] at h
set_option maxRecDepth 100000 in
set_option maxHeartbeats 4000000 in
/-- joined, of two grids of the same rows and columns. -/
theorem joined_jplus (p q : Addr) (F G : Nat → Prop) (m n : Nat) (L M : List (List Int)) (w : World) (h : PG w p F m n L) (g : PG w q G m n M) :
    Calls Try.prog 49 #[.agg #[.pointer (some p), .pointer (some q), .func (.func 26) #[] #[]]] w fun e w' => ∃ (B : Option Addr) (l cap : Nat) (ok : Bool), e = .returned (.tuple #[.slice B l cap, .bool ok]) ∧ ok = fitsAll (gridS (1) L M) ∧ (ok = true → ∃ gb, B = some ⟨gb, 0, none⟩ ∧ l = m * n ∧ m * n ≤ cap ∧ cap ≤ maxLen ∧ w.heap.size ≤ gb ∧ Ord.Mid w' gb 0 (gridS (1) L M).flatten) ∧ Below w.heap.size w w' := by
  have hd := h.1
  have gd := g.1
  have HP : Hid (∀ o, PG (w.alloc o) p F m n L) := Lib.hid (fun o => pg_alloc h o)
  have HJ := Lib.hid (join_dims hd gd (1))
  have HF := Lib.hid (flat_fits (gridS (1) L M))
  have HXL := Lib.hid (flat_dims hd)
  have HYL := Lib.hid (flat_dims gd)
  have HXB := Lib.hid (flat_in64 hd)
  have HYB := Lib.hid (flat_in64 gd)
  have hmn : m * n ≤ 1024 := Nat.mul_le_mul hd.m8 hd.n128
  rw [HJ.out] at HF
  obtain ⟨X, hX⟩ : ∃ X, X = L.flatten := ⟨_, rfl⟩
  obtain ⟨Y, hY⟩ : ∃ Y, Y = M.flatten := ⟨_, rfl⟩
  obtain ⟨Q, hQ⟩ : ∃ Q, Q = m * n := ⟨_, rfl⟩
  have C : Hid (∀ o, Calls Try.prog 14 #[.pointer (some p)] (w.alloc o) fun e w' => ∃ (g cap : Nat), e = .returned (.slice (some ⟨g, 0, none⟩) (m * n) cap) ∧ Ord.Mid w' g 0 L.flatten ∧ (w.alloc o).heap.size ≤ g ∧ m * n ≤ cap ∧ cap ≤ maxLen ∧ Below (w.alloc o).heap.size (w.alloc o) w') := Lib.hid (fun o => cells_mid p F m n L _ (pg_alloc h o))
  obtain ⟨-, qb, qg, qcap, rfl, qh, qm, qc, qx, -⟩ := g
  have q2 := grd_cell qh 2 (v := .slice (some ⟨qg, 0, none⟩) (m * n) qcap) rfl
  obtain ⟨qad, hqad⟩ : ∃ qad : Addr, (⟨qg, 0, none⟩ : Addr) = qad := ⟨_, rfl⟩
  have qr := qm.rd
  rw [← hX, ← hY] at HF HJ
  rw [← hX, ← hQ] at HXL C
  rw [← hX] at HXB
  rw [← hY] at HYB qr
  rw [← hY, ← hQ] at HYL
  rw [hqad] at q2 qr
  rw [← hQ] at q2 hmn qc ⊢
  rw [HJ.out]
  have HQR := Lib.hid qr
  have qlt := size_of_heap qh
  clear h hd gd qm qh HP hX hY hQ hqad qr HJ
  go_enter Try.func49, Try.ntmps49
  go_wp2_with (go_at_call 14; ((with_reducible refine (C.out _).mono ?_)); rintro e w2 ⟨g2, cap2, rfl, hm2, hg2, h1, h2, hb2⟩; have HM2 := Lib.hid hm2; have HB2 := Lib.hid hb2; clear hm2 hb2; have k1 := cell_up (grd_cell (heap_alloc_new w (.cells #[.pointer (some p), .pointer (some ⟨qb, 0, none⟩), .func (.func 26) #[] #[]] 73)) 1 (v := .pointer (some ⟨qb, 0, none⟩)) rfl) HB2.out; have k2 := cell_up (grd_cell (heap_alloc_new w (.cells #[.pointer (some p), .pointer (some ⟨qb, 0, none⟩), .func (.func 26) #[] #[]] 73)) 2 (v := .func (.func 26) #[] #[]) rfl) HB2.out; have k3 := cell_up (cell_up q2 (Lw.below_alloc (Below.refl _ _) (.cells #[.pointer (some p), .pointer (some ⟨qb, 0, none⟩), .func (.func 26) #[] #[]] 73))) HB2.out)
  have hgw : w.heap.size < g2 := by rw [World.size_alloc] at hg2; omega
  obtain ⟨gad, hgad⟩ : ∃ gad : Addr, (⟨g2, 0, none⟩ : Addr) = gad := ⟨_, rfl⟩
  have HG := Lib.hid hgad
  have HW2 : Hid (Below w.heap.size w w2) := Lib.hid ((Lw.below_alloc (Below.refl _ _) _).trans (HB2.out.mono (by simp)))
  have HQ2 : Hid (Rd .i64 w2 (some qad) Y) := Lib.hid (HQR.out.up HW2.out)
  have HQG : Hid (∀ j v, Y[j]? = some v → qad.block ≠ g2) := Lib.hid (fun j v hv => by
    have h := cell_lt (HQR.out.at hv)
    have e : (qad.add j).block = qad.block := by unfold Addr.add; split <;> rfl
    rw [e] at h
    omega)
  rw [hgad]
  unfold maxLen at qx h2
  go_loopw [18] (fun i wr => ∃ (k : Nat), k ≤ Q ∧ i = .int .i64 k ∧ fitK (1) X Y k ∧ Ord.Mid wr g2 0 (mix (1) X Y k) ∧ Kept (fun q => q = g2) w2 wr) (fun i _ => Q - (intOf i).toNat)
  case atStart => exact ⟨0, Nat.zero_le _, rfl, rfl, by rw [mix_start]; exact HM2.out, Kept.refl _ _⟩
  case round =>
    obtain ⟨k, hk, rfl, hfit, hmid, hkept⟩ := hrel
    have HFI := Lib.hid hfit
    have HMI := Lib.hid hmid
    have HK := Lib.hid hkept
    clear hfit hmid hkept
    by_cases hlt : k < Q
    · obtain ⟨x, hx⟩ : ∃ x, X[k]? = some x := ⟨_, List.getElem?_eq_getElem (by rw [HXL.out]; exact hlt)⟩
      obtain ⟨y, hy⟩ : ∃ y, Y[k]? = some y := ⟨_, List.getElem?_eq_getElem (by rw [HYL.out]; exact hlt)⟩
      have xb := HXB.out.at hx
      have yb := HYB.out.at hy
      have c1 := HMI.out.rd.at (mix_get (1) HXL.out HYL.out hx)
      rw [hgad] at c1
      have c2 := HK.out.cell (HQ2.out.at hy) (by have e : (qad.add k).block = qad.block := by { unfold Addr.add; split <;> rfl }
                                                 rw [e]; exact HQG.out k y hy)
      have c3 := HK.out.cell k2 (by show ¬ (w.heap.size = g2); omega)
      have CJ := Lib.hid (fun w => jplus x y w xb.1 xb.2 yb.1 yb.2)
      obtain ⟨z, hz⟩ : ∃ z, z = x + (1) * y := ⟨_, rfl⟩
      rw [← hz] at CJ
      have HN := Lib.hid (fun h => fitK_next (s := 1) HFI.out hx hy h)
      have HNO := Lib.hid (fun h => fitK_no (s := 1) hx hy h)
      have HS := Lib.hid (mix_set (1) HXL.out HYL.out hx hy)
      rw [← hz] at HN HNO HS
      clear hx hy hz
      cases hf : Wid.fit64 z with
      | true =>
        have e : Wid.f64 z = z := by unfold Wid.f64; rw [if_pos hf]
        have zb := fit64_in hf
        rw [hf, e] at CJ
        have HN2 := Lib.hid (HN.out hf)
        clear HN HNO e hf
        go_wp2
        go_region_held3 (fun w' => w'.cell? ⟨w.heap.size, 2, none⟩ = some (.func (.func 26) #[] #[]) ∧ w'.cell? (gad.add k) = some (.int .i64 x)) (first | (refine ⟨cell_up c3 ?_, cell_up c1 ?_⟩ <;> (repeat' (first | (with_reducible exact Below.refl _ _) | (with_reducible assumption) | (with_reducible exact HB5.out) | (with_reducible refine below_over ?_ _ _) | (with_reducible refine Lw.below_alloc ?_ _) | (with_reducible refine Below.drew ?_) | (with_reducible refine below_drewN ?_ _) | go_size)))) (first
          | (go_at_call 26; ((with_reducible refine (CJ.out _).mono ?_)); rintro e5 w5 ⟨rfl, hb5⟩; have hbw5 : Below wr.heap.size wr w5 := below_call (by repeat' (first | (with_reducible exact Below.refl _ _) | (with_reducible refine Below.drew ?_) | (with_reducible refine below_drewN ?_ _))) hb5 (Nat.le_refl _); have fz5 := (HMI.out.up hbw5).frozen (0 + k); rw [← Ord.add_at, hgad] at fz5; have HB5 := Lib.hid hbw5; clear hb5 hbw5))
        go_wp2
        go_roundw
        case rel =>
          have hm6 := (HMI.out.up HB5.out).set k z
          have hk6 : Kept (fun q => q = g2) w2 (w5.setCell ⟨g2, 0 + k, none⟩ (.int .i64 z)) := (HK.out.then HB5.out).set (.inl rfl) _ _
          rw [HS.out, ← Ord.add_at, hgad] at hm6
          rw [← Ord.add_at, hgad] at hk6
          exact ⟨k + 1, by omega, by go_num, HN2.out, hm6, hk6⟩
        case measure => simp [intOf]; omega
      | false =>
        have e := HNO.out hf
        rw [hf] at CJ
        clear HN HNO HS
        go_wp2
        go_region_held3 (fun w' => w'.cell? ⟨w.heap.size, 2, none⟩ = some (.func (.func 26) #[] #[]) ∧ w'.cell? (gad.add k) = some (.int .i64 x)) (first | (refine ⟨cell_up c3 ?_, cell_up c1 ?_⟩ <;> (repeat' (first | (with_reducible exact Below.refl _ _) | (with_reducible assumption) | (with_reducible exact HB5.out) | (with_reducible refine below_over ?_ _ _) | (with_reducible refine Lw.below_alloc ?_ _) | (with_reducible refine Below.drew ?_) | (with_reducible refine below_drewN ?_ _) | go_size)))) (first
          | (go_at_call 26; ((with_reducible refine (CJ.out _).mono ?_)); rintro e5 w5 ⟨rfl, hb5⟩; have hbw5 : Below wr.heap.size wr w5 := below_call (by repeat' (first | (with_reducible exact Below.refl _ _) | (with_reducible refine Below.drew ?_) | (with_reducible refine below_drewN ?_ _))) hb5 (Nat.le_refl _); have fz5 := (HMI.out.up hbw5).frozen (0 + k); rw [← Ord.add_at, hgad] at fz5; have HB5 := Lib.hid hbw5; clear hb5 hbw5))
        go_wp2
        go_ret2
        refine ⟨none, 0, 0, false, rfl, ?_, (fun h => by cases h), ?_⟩
        · rw [HF.out, e]
        · exact kept_low (HK.out.then HB5.out) HW2.out hgw
    · have e : k = Q := by omega
      subst e
      have hall := fitK_all HXL.out HYL.out HFI.out
      have hend := mix_end (1) HXL.out HYL.out
      have HMI2 := HMI.out
      rw [hend] at HMI2
      have HM3 := Lib.hid HMI2
      have HAL := Lib.hid hall
      clear hall HMI2 hend
      go_wp2
      go_ret2
      refine ⟨some gad, k, cap2, true, rfl, ?_, fun _ => ⟨g2, ?_, rfl, h1, by unfold maxLen; omega, by omega, HM3.out⟩, kept_low HK.out HW2.out hgw⟩
      · rw [HF.out, HAL.out]
      · rw [hgad]
set_option maxRecDepth 100000 in
set_option maxHeartbeats 4000000 in
theorem pput_jplus (p q : Addr) (F G : Nat → Prop) (m n m' n' : Nat) (L M : List (List Int)) (w : World) (h : PG w p F m n L) (g : PG w q G m' n' M) :
    Calls Try.prog 35 #[.agg #[.pointer (some p), .pointer (some q), .func (.func 26) #[] #[]]] w fun e w' => e = .returned (.int .i64 (jcode (1) m n m' n' L M)) ∧ ∃ F', PG w' p F' m n (jres (1) m n m' n' L M) ∧ Kept F w w' ∧ (∀ k, F' k → F k ∨ w.heap.size ≤ k) := by
  have HP : Hid (∀ w', Below w.heap.size w w' → PG w' p F m n L) := Lib.hid (fun w' hb => pg_up h hb)
  have HQ : Hid (∀ w', Below w.heap.size w w' → PG w' q G m' n' M) := Lib.hid (fun w' hb => pg_up g hb)
  have CA := Lib.hid (fun w' hb => alike_any p q F G m n m' n' L M (.func (.func 26) #[] #[]) w' (HP.out w' hb) (HQ.out w' hb))
  have hd := h.1
  have gd := g.1
  by_cases hmn : m = m' ∧ n = n'
  · obtain ⟨rfl, rfl⟩ := hmn
    have CJ := Lib.hid (fun w' hb => joined_jplus p q F G m n L M w' (HP.out w' hb) (HQ.out w' hb))
    have e : decide (m = m ∧ n = n) = true := by simp
    rw [e] at CA
    have HJ := Lib.hid (join_dims hd gd (1))
    cases hf : fitsAll (gridS (1) L M) with
    | false =>
      have e2 := jcode_no (m := m) (n := n) hf
      rw [e2.1, e2.2]
      rw [hf] at CJ
      clear h g hd gd HJ hf e2 e
      go_enter Try.func35, Try.ntmps35
      go_wp2_with (first
        | (go_at_call 48; (with_reducible refine (CA.out _ (Lw.below_alloc (Below.refl _ _) _)).mono ?_); rintro e3 w3 ⟨rfl, hb3⟩; have c0 := cell_up (grd_cell (heap_alloc_new w (.cells #[.pointer (some p), .pointer (some q), .func (.func 26) #[] #[]] 73)) 0 (v := .pointer (some p)) rfl) hb3; have c1 := cell_up (grd_cell (heap_alloc_new w (.cells #[.pointer (some p), .pointer (some q), .func (.func 26) #[] #[]] 73)) 1 (v := .pointer (some q)) rfl) hb3; have c2 := cell_up (grd_cell (heap_alloc_new w (.cells #[.pointer (some p), .pointer (some q), .func (.func 26) #[] #[]] 73)) 2 (v := .func (.func 26) #[] #[]) rfl) hb3; have HB3 := Lib.hid ((Lw.below_alloc (Below.refl _ _) (.cells #[.pointer (some p), .pointer (some q), .func (.func 26) #[] #[]] 73)).trans (hb3.mono (by rw [World.size_alloc]; omega))); clear hb3)
        | (go_at_call 49; (with_reducible refine (CJ.out _ HB3.out).mono ?_); rintro e4 w4 ⟨B, l, cap, ok, rfl, hok, hgo, hb4⟩; subst hok; have HB4 := Lib.hid (below_call HB3.out hb4 (Nat.le_refl _)); clear hgo hb4))
      go_ret
      exact ⟨rfl, F, HP.out _ HB4.out, Kept.of_below HB4.out, fun k hk => .inl hk⟩
    | true =>
      have e2 := jcode_yes (m := m) (n := n) hf
      have HDJ := Lib.hid (hd.join gd hf)
      rw [e2.1, e2.2]
      rw [hf] at CJ
      obtain ⟨-, b, g0, cap0, rfl, hb, -, -, -, -, rfl⟩ := h
      have HBB := Lib.hid hb
      have hbl := size_of_heap hb
      clear g hd gd HJ hf e2 e hb
      go_enter Try.func35, Try.ntmps35
      go_wp2_with (first
        | (go_at_call 48; (with_reducible refine (CA.out _ (Lw.below_alloc (Below.refl _ _) _)).mono ?_); rintro e3 w3 ⟨rfl, hb3⟩; have c0 := cell_up (grd_cell (heap_alloc_new w (.cells #[.pointer (some ⟨b, 0, none⟩), .pointer (some q), .func (.func 26) #[] #[]] 73)) 0 (v := .pointer (some ⟨b, 0, none⟩)) rfl) hb3; have c1 := cell_up (grd_cell (heap_alloc_new w (.cells #[.pointer (some ⟨b, 0, none⟩), .pointer (some q), .func (.func 26) #[] #[]] 73)) 1 (v := .pointer (some q)) rfl) hb3; have c2 := cell_up (grd_cell (heap_alloc_new w (.cells #[.pointer (some ⟨b, 0, none⟩), .pointer (some q), .func (.func 26) #[] #[]] 73)) 2 (v := .func (.func 26) #[] #[]) rfl) hb3; have HB3 := Lib.hid ((Lw.below_alloc (Below.refl _ _) (.cells #[.pointer (some ⟨b, 0, none⟩), .pointer (some q), .func (.func 26) #[] #[]] 73)).trans (hb3.mono (by rw [World.size_alloc]; omega))); clear hb3)
        | (go_at_call 49; (with_reducible refine (CJ.out _ HB3.out).mono ?_); rintro e4 w4 ⟨B, l, cap, ok, rfl, hok, hgo, hb4⟩; subst hok; have HB4 := Lib.hid (below_call HB3.out hb4 (Nat.le_refl _)); obtain ⟨gb, rfl, rfl, hc1, hc2, hg, hm⟩ := hgo rfl; have HM := Lib.hid hm; have HH := Lib.hid (HB4.out.block b hbl |>.trans HBB.out); have c6 := cell_up c0 hb4; have f6 := grd_frozen HH.out 2; have l6 := cell_up (grd_cell HBB.out 2 (v := .slice (some ⟨g0, 0, none⟩) (m * n) cap0) rfl) HB4.out; have hgw : w.heap.size ≤ gb := Nat.le_trans HB3.out.size hg; clear hgo hb4 hm hg))
      go_ret
      have hh : (w4.setCell ⟨b, 2, none⟩ (.slice (some ⟨gb, 0, none⟩) (m * n) cap)).heap[b]? = some (.cells #[.int .i64 m, .int .i64 n, .slice (some ⟨gb, 0, none⟩) (m * n) cap] 58 (0, 0)) := by
        simp [World.setCell, Array.getElem?_modify, HH.out]
      have hk5 : Kept (fun k => k = b) w4 (w4.setCell ⟨b, 2, none⟩ (.slice (some ⟨gb, 0, none⟩) (m * n) cap)) := (Kept.refl (fun k => k = b) w4).set (.inl rfl) 2 _
      have hk6 : Kept (fun k => k = b ∨ k = g0) w (w4.setCell ⟨b, 2, none⟩ (.slice (some ⟨gb, 0, none⟩) (m * n) cap)) := (Kept.of_below HB4.out).trans hk5 (fun k _ hk => .inl hk)
      exact ⟨rfl, fun k => k = b ∨ k = gb, ⟨HDJ.out, b, gb, cap, rfl, hh, HM.out.keep hk5 (by omega), hc1, hc2, by omega, rfl⟩, hk6, fun k hk => by omega⟩
  · have e : decide (m = m' ∧ n = n') = false := decide_eq_false hmn
    have e2 : jcode (1) m n m' n' L M = 5 := by unfold jcode; rw [if_neg hmn]
    have e3 : jres (1) m n m' n' L M = L := by unfold jres; rw [if_neg (fun h => hmn ⟨h.1, h.2.1⟩)]
    rw [e] at CA
    rw [e2, e3]
    clear h g hd gd hmn e e2 e3
    go_enter Try.func35, Try.ntmps35
    go_wp2_with (go_at_call 48; (with_reducible refine (CA.out _ (Lw.below_alloc (Below.refl _ _) _)).mono ?_); rintro e3 w3 ⟨rfl, hb3⟩; have c0 := cell_up (grd_cell (heap_alloc_new w (.cells #[.pointer (some p), .pointer (some q), .func (.func 26) #[] #[]] 73)) 0 (v := .pointer (some p)) rfl) hb3; have c1 := cell_up (grd_cell (heap_alloc_new w (.cells #[.pointer (some p), .pointer (some q), .func (.func 26) #[] #[]] 73)) 1 (v := .pointer (some q)) rfl) hb3; have c2 := cell_up (grd_cell (heap_alloc_new w (.cells #[.pointer (some p), .pointer (some q), .func (.func 26) #[] #[]] 73)) 2 (v := .func (.func 26) #[] #[]) rfl) hb3; have HB3 := Lib.hid ((Lw.below_alloc (Below.refl _ _) (.cells #[.pointer (some p), .pointer (some q), .func (.func 26) #[] #[]] 73)).trans (hb3.mono (by rw [World.size_alloc]; omega))); clear hb3)
    go_ret
    exact ⟨rfl, F, HP.out _ HB3.out, Kept.of_below HB3.out, fun k hk => .inl hk⟩
theorem pnil_jplus (p : Addr) (w : World) :
    Calls Try.prog 35 #[.agg #[.pointer (some p), .pointer none, .func (.func 26) #[] #[]]] w fun e w' => e = .returned (.int .i64 5) ∧ Below w.heap.size w w' := by
  have CA := Lib.hid (fun w' => alike_nil p (.func (.func 26) #[] #[]) w')
  go_enter Try.func35, Try.ntmps35
  go_wp2_with (go_at_call 48; (with_reducible refine (CA.out _).mono ?_); rintro e3 w3 ⟨rfl, hb3⟩; have HB3 := Lib.hid ((Lw.below_alloc (Below.refl _ _) (.cells #[.pointer (some p), .pointer none, .func (.func 26) #[] #[]] 73)).trans (hb3.mono (by rw [World.size_alloc]; omega))); clear hb3)
  go_ret
  exact ⟨rfl, HB3.out⟩
theorem plus_all (p q : Addr) (F G : Nat → Prop) (m n m' n' : Nat) (L M : List (List Int)) (w : World) (h : PG w p F m n L) (g : PG w q G m' n' M) :
    Calls Try.prog 21 #[.pointer (some p), .pointer (some q)] w fun e w' => e = .returned (.int .i64 (jcode (1) m n m' n' L M)) ∧ ∃ F', PG w' p F' m n (jres (1) m n m' n' L M) ∧ Kept F w w' ∧ (∀ k, F' k → F k ∨ w.heap.size ≤ k) := by
  have C := Lib.hid (pput_jplus p q F G m n m' n' L M w h g)
  obtain ⟨c, hc⟩ : ∃ c, c = jcode (1) m n m' n' L M := ⟨_, rfl⟩
  rw [← hc] at C ⊢
  clear h g hc
  go_enter Try.func21, Try.ntmps21
  go_wp2_with (go_at_call 35; (with_reducible refine C.out.mono ?_); rintro e4 w4 ⟨rfl, h4⟩; have H4 := Lib.hid h4; clear h4)
  go_ret
  exact ⟨rfl, H4.out⟩
theorem plus_any (p : Addr) (F : Nat → Prop) (m n : Nat) (L : List (List Int)) (q : Addr) (G : Nat → Prop) (m' n' : Nat) (M : List (List Int)) (w : World) (h : PG w p F m n L) (g : PG w q G m' n' M) (hFG : ∀ k, F k → ¬ G k) :
    Calls Try.prog 21 #[.pointer (some p), .pointer (some q)] w fun e w' => e = .returned (.int .i64 (jcode (1) m n m' n' L M)) ∧ ∃ F', PG w' p F' m n (jres (1) m n m' n' L M) ∧ Kept F w w' ∧ (∀ k, F' k → F k ∨ w.heap.size ≤ k) := plus_all p q F G m n m' n' L M w h g
theorem plus_self (p : Addr) (F : Nat → Prop) (m n : Nat) (L : List (List Int)) (w : World) (h : PG w p F m n L) :
    Calls Try.prog 21 #[.pointer (some p), .pointer (some p)] w fun e w' => e = .returned (.int .i64 (jcode (1) m n m n L L)) ∧ ∃ F', PG w' p F' m n (jres (1) m n m n L L) ∧ Kept F w w' ∧ (∀ k, F' k → F k ∨ w.heap.size ≤ k) := plus_all p p F F m n m n L L w h h
theorem plus_nil (p : Addr) (F : Nat → Prop) (m n : Nat) (L : List (List Int)) (w : World) (h : PG w p F m n L) :
    Calls Try.prog 21 #[.pointer (some p), .pointer none] w fun e w' => e = .returned (.int .i64 5) ∧ Below w.heap.size w w' := by
  have C := Lib.hid (pnil_jplus p w)
  clear h
  go_enter Try.func21, Try.ntmps21
  go_wp2_with (go_at_call 35; (with_reducible refine C.out.mono ?_); rintro e4 w4 ⟨rfl, h4⟩)
  go_ret
  exact ⟨rfl, h4⟩
end Go.Proofs.Ytonbidohhgenlaa.Grd
