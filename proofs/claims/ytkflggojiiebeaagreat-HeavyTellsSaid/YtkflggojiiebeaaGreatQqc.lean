import Derived.Test.YtkflggojiiebeaaGreatQqa
namespace Go.Proofs.YtkflggojiiebeaaGreat.Hvy
open Go Go.RowKit Lw Grd Lin Con Shp Sk Exa Lev Stk Pcs Spn Qnt
set_option linter.unusedVariables false
set_option linter.unusedSimpArgs false
set_option linter.unusedSimpArgs false
theorem w_add (x y : Int) (w : World) (hx : -85070591730234615865843651857942052864 ≤ x ∧ x ≤ 85070591730234615865843651857942052863) (hy : -85070591730234615865843651857942052864 ≤ y ∧ y ≤ 85070591730234615865843651857942052863) :
    Calls Tryz.prog 98 #[.agg #[.int .i64 (Wid.fh (x)), .int .u64 (Wid.fl (x))], .agg #[.int .i64 (Wid.fh (y)), .int .u64 (Wid.fl (y))]] w fun e w' => e = .returned (.tuple #[.agg #[.int .i64 (Wid.fh (x + y)), .int .u64 (Wid.fl (x + y))], .bool true]) ∧ Below w.heap.size w w' := by
  have h1 := Wid.fh_bd x
  have h2 := Wid.fl_bd x
  have h3 := Wid.fh_bd y
  have h4 := Wid.fl_bd y
  have h := Wid.add_any (Wid.fh x) (Wid.fl x) (Wid.fh y) (Wid.fl y) w h1.1 h1.2 h2.1 h2.2 h3.1 h3.2 h4.1 h4.2
  rw [Wid.vl_fit x (by omega) (by omega), Wid.vl_fit y (by omega) (by omega), (Wid.fit_yes (z := x + y) (by omega) (by omega)).1] at h
  exact h
theorem w_sub (x y : Int) (w : World) (hx : -85070591730234615865843651857942052864 ≤ x ∧ x ≤ 85070591730234615865843651857942052863) (hy : -85070591730234615865843651857942052864 ≤ y ∧ y ≤ 85070591730234615865843651857942052863) :
    Calls Tryz.prog 129 #[.agg #[.int .i64 (Wid.fh (x)), .int .u64 (Wid.fl (x))], .agg #[.int .i64 (Wid.fh (y)), .int .u64 (Wid.fl (y))]] w fun e w' => e = .returned (.tuple #[.agg #[.int .i64 (Wid.fh (x - y)), .int .u64 (Wid.fl (x - y))], .bool true]) ∧ Below w.heap.size w w' := by
  have h1 := Wid.fh_bd x
  have h2 := Wid.fl_bd x
  have h3 := Wid.fh_bd y
  have h4 := Wid.fl_bd y
  have h := Wid.sub_any (Wid.fh x) (Wid.fl x) (Wid.fh y) (Wid.fl y) w h1.1 h1.2 h2.1 h2.2 h3.1 h3.2 h4.1 h4.2
  rw [Wid.vl_fit x (by omega) (by omega), Wid.vl_fit y (by omega) (by omega), (Wid.fit_yes (z := x - y) (by omega) (by omega)).1] at h
  exact h
theorem w_int (x : Int) (w : World) (hx : -170141183460469231731687303715884105728 ≤ x ∧ x < 170141183460469231731687303715884105728) :
    Calls Tryz.prog 116 #[.agg #[.int .i64 (Wid.fh (x)), .int .u64 (Wid.fl (x))]] w fun e w' => e = .returned (.tuple #[.int .i64 (Wid.f64 x), .bool (Wid.fit64 x)]) ∧ Below w.heap.size w w' := by
  have h1 := Wid.fh_bd x
  have h2 := Wid.fl_bd x
  have h := Wid.int_any (Wid.fh x) (Wid.fl x) w h1.1 h1.2 h2.1 h2.2
  rw [Wid.vl_fit x hx.1 hx.2] at h
  exact h
set_option maxRecDepth 100000 in
set_option maxHeartbeats 4000000 in
theorem without_any (n s : Int) (w : World) (n0 : -9223372036854775808 ≤ n) (n1 : n ≤ 9223372036854775807) (hs : -42535295865117307932921825928971026432 ≤ s ∧ s ≤ 42535295865117307932921825928971026431) :
    Calls Tryz.prog 99 #[.int .i64 n, .agg #[.int .i64 (Wid.fh (s)), .int .u64 (Wid.fl (s))]] w fun e w' => e = .returned (.tuple #[.int .i64 (Wid.f64 (n - s)), .bool (Wid.fit64 (n - s))]) ∧ Below w.heap.size w w' := by
  have CO := Lib.hid (fun w => Wid.of_any n w n0 n1)
  have CS := Lib.hid (fun w => w_sub n s w (by omega) (by omega))
  have CI := Lib.hid (fun w => w_int (n - s) w (by omega))
  obtain ⟨D, hD⟩ : ∃ D, n - s = D := ⟨_, rfl⟩
  rw [hD] at CS CI
  rw [hD]
  obtain ⟨SH, hSH⟩ : ∃ v, Wid.fh s = v := ⟨_, rfl⟩
  obtain ⟨SL, hSL⟩ : ∃ v, Wid.fl s = v := ⟨_, rfl⟩
  obtain ⟨NH, hNH⟩ : ∃ v, Wid.fh n = v := ⟨_, rfl⟩
  obtain ⟨NL, hNL⟩ : ∃ v, Wid.fl n = v := ⟨_, rfl⟩
  obtain ⟨DH, hDH⟩ : ∃ v, Wid.fh D = v := ⟨_, rfl⟩
  obtain ⟨DL, hDL⟩ : ∃ v, Wid.fl D = v := ⟨_, rfl⟩
  obtain ⟨R, hR⟩ : ∃ v, Wid.f64 D = v := ⟨_, rfl⟩
  obtain ⟨T, hT⟩ : ∃ v, Wid.fit64 D = v := ⟨_, rfl⟩
  rw [hSH, hSL, hNH, hNL, hDH, hDL] at CS
  rw [hNH, hNL] at CO
  rw [hDH, hDL, hR, hT] at CI
  rw [hSH, hSL, hR, hT]
  clear hD hSH hSL hNH hNL hDH hDL hR hT n0 n1 hs
  go_enter Tryz.func99, Tryz.ntmps99
  go_wp2
  have B0w : Below w.heap.size w (w.alloc (.cells #[.int .i64 SH, .int .u64 SL] 192)) := Lw.below_alloc (Below.refl _ _) _
  have q0 : (w.alloc (.cells #[.int .i64 SH, .int .u64 SL] 192)).cell? ⟨w.heap.size, 0, none⟩ = some (.int .i64 SH) := box_cell (heap_alloc_new w _) rfl
  have q1 : (w.alloc (.cells #[.int .i64 SH, .int .u64 SL] 192)).cell? ⟨w.heap.size, 1, none⟩ = some (.int .u64 SL) := box_cell (heap_alloc_new w _) rfl
  obtain ⟨W, hW⟩ : ∃ W, w.alloc (.cells #[.int .i64 SH, .int .u64 SL] 192) = W := ⟨_, rfl⟩
  have hWs : W.heap.size = w.heap.size + 1 := by rw [← hW]; simp
  rw [hW] at B0w q0 q1 ⊢
  clear hW
  go_cut [6, 7] (fun s6 s7 wx => ∃ a : Nat, s6 = .pointer (some ⟨a, 0, none⟩) ∧ s7 = .bool true ∧ Below W.heap.size W wx ∧ wx.heap[a]? = some (.cells #[.int .i64 DH, .int .u64 DL] 192 (0, 0)))
  case first =>
    go_region_held3 (fun w' => Below W.heap.size W w' ∧ w'.cell? ⟨w.heap.size, 0, none⟩ = some (.int .i64 SH) ∧ w'.cell? ⟨w.heap.size, 1, none⟩ = some (.int .u64 SL)) (first | (refine ⟨?_, ?_, ?_⟩ <;> (first | (with_reducible assumption) | (with_reducible refine cell_up q0 ?_) | (with_reducible refine cell_up q1 ?_) | skip) <;> (repeat' (first | (with_reducible first | exact Below.refl _ _ | assumption | refine below_over ?_ _ _ | refine Lw.below_alloc ?_ _ | refine Below.drew ?_ | refine below_drewN ?_ _ | refine Below.setCell ?_ ?_ _) | go_size)))) (first
      | (go_at_call 100; (with_reducible refine (CO.out _).mono ?_); rintro e w5 ⟨rfl, hb⟩; obtain ⟨bs, d, rfl⟩ := below_grow hb; clear hb)
      | (go_at_call 129; (with_reducible refine (CS.out _).mono ?_); rintro e w5 ⟨rfl, hb⟩; obtain ⟨bs, d, rfl⟩ := below_grow hb; clear hb))
    all_goals go_wp2_with fail
    all_goals go_meet
    all_goals refine ⟨_, rfl, rfl, (by (repeat' (first | (with_reducible first | exact Below.refl _ _ | assumption | refine below_over ?_ _ _ | refine Lw.below_alloc ?_ _ | refine Below.drew ?_ | refine below_drewN ?_ _ | refine Below.setCell ?_ ?_ _) | go_size))), ?_⟩
    all_goals (repeat' (first | (with_reducible refine blk_grow ?_) | (refine blk_new ?_; go_size; done) | (refine blk_new ?_; simp; omega) | (with_reducible refine blk_alloc ?_)))
  case rest =>
    obtain ⟨a, rfl, rfl, hb, ha0⟩ := hcut
    obtain ⟨wo, rfl⟩ : ∃ wo, wo = wc := ⟨_, rfl⟩
    have HBo := Lib.hid (B0w.trans (hb.mono (by omega)))
    have a0 := box_cell ha0 (i := 0) rfl
    have a1 := box_cell ha0 (i := 1) rfl
    clear ha0 q0 q1 hb B0w
    go_wp2_with (go_at_call 116; (with_reducible refine (CI.out _).mono ?_); rintro e w6 ⟨rfl, hb⟩; have HB6 := Lib.hid (HBo.out.trans (hb.mono HBo.out.size)); clear hb)
    refine bodyPost_ret (v := .tuple #[.int .i64 R, .bool T]) (by simp [results, Tryz.results99, go_sem]) rfl ?_
    exact ⟨rfl, HB6.out⟩
end Go.Proofs.YtkflggojiiebeaaGreat.Hvy
namespace Go.Proofs.YtkflggojiiebeaaGreat.Hvy
open Go Go.RowKit Go.Maps Lw Grd Lin Con Shp Sk Exa Lev Stk Pcs Spn Qnt
set_option linter.unusedVariables false
set_option linter.unusedSimpArgs false
set_option linter.unusedSimpArgs false
def fnV (tb bb gb ab lb sb : Nat) : Value := .func (.func 97) #[] #[.pointer (some ⟨tb, 0, none⟩), .pointer (some ⟨bb, 0, none⟩), .pointer (some ⟨gb, 0, none⟩), .pointer (some ⟨ab, 0, none⟩), .pointer (some ⟨lb, 0, none⟩), .pointer (some ⟨sb, 0, none⟩)]
/-- The closure, called of one piece. -/
def GatC (tb mb bb gb lb sb kb ab N BB B0 : Nat) (D : DataW Unit) (least : Int) (T : Nat → Nat → Option Int) (L i : Nat) : Prop := ∀ (hv : Array Value) (ls : Nat → List Kp) (b : Bool) (w : World), CTI tb mb bb gb lb sb kb N BB D least (fnV tb bb gb ab lb sb) w → GK B0 kb ab N hv ls b w → (∀ k, ctF tb mb bb gb lb sb k → ¬ gkF kb ab hv k) → (∀ M, (ls M ++ gL T least L i M).length ≤ 4096) → B0 ≤ w.heap.size →
    Calls Tryz.prog 97 #[.agg #[.int .i64 (L : Int), .int .u64 (i : Int)], .pointer (some ⟨tb, 0, none⟩), .pointer (some ⟨bb, 0, none⟩), .pointer (some ⟨gb, 0, none⟩), .pointer (some ⟨ab, 0, none⟩), .pointer (some ⟨lb, 0, none⟩), .pointer (some ⟨sb, 0, none⟩)] w fun e w' => ∃ hv' : Array Value, e = .returned (.agg #[.int .i64 (Wid.fh (gW T least L i)), .int .u64 (Wid.fl (gW T least L i))]) ∧ GK B0 kb ab N hv' (fun M => ls M ++ gL T least L i M) (b && gF T least L i) w' ∧ Kept (gkF kb ab hv) w w' ∧ (∀ k, gkF kb ab hv' k → gkF kb ab hv k ∨ w.heap.size ≤ k)
/-- What the map says of the pieces. -/
def MapT (D : DataW Unit) (T : Nat → Nat → Option Int) : Prop := ∀ L i : Nat, L ≤ 59 → i ≤ 576460752303423488 → (∀ n, T L i = some n → Maps.has D (pkl L i) = true ∧ ∀ z, D.atKey (pkl L i) z = .lit (.int .i64 n)) ∧ (T L i = none → Maps.has D (pkl L i) = false ∧ ∀ z, D.atKey (pkl L i) z = z)
theorem two_new {F0 : Nat → Prop} {w0 w : World} {ts : List Thing} (h : Hold F0 w0 w ts) (vs us : Array Value) (e f : TypeId) : Hold F0 w0 ((w.alloc (.cells vs e)).alloc (.cells us f)) (boxT (w.heap.size + 1) f us :: boxT w.heap.size e vs :: ts) := by
  have h1 := h.push (boxT w.heap.size e vs) (Lw.below_alloc (Below.refl _ _) _) (heap_alloc_new w _) (fun k hk => Nat.le_of_eq hk.symm)
  refine h1.push (boxT (w.heap.size + 1) f us) (Lw.below_alloc (Below.refl _ _) _) ?_ (fun k hk => ?_)
  · exact Qnt.blk_new (by simp)
  · have hk2 : k = w.heap.size + 1 := hk
    simp
    omega
theorem one_new {F0 : Nat → Prop} {w0 w : World} {ts : List Thing} (h : Hold F0 w0 w ts) (vs : Array Value) (e : TypeId) : Hold F0 w0 (w.alloc (.cells vs e)) (boxT w.heap.size e vs :: ts) := h.push (boxT w.heap.size e vs) (Lw.below_alloc (Below.refl _ _) _) (heap_alloc_new w _) (fun k hk => Nat.le_of_eq hk.symm)
theorem put_two {F0 : Nat → Prop} {w0 w : World} {fs ts : List Thing} {b : Nat} {e : TypeId} {u0 u1 : Value} (h : Hold F0 w0 w (fs ++ boxT b e #[u0, u1] :: ts)) (v0 v1 : Value) : Hold F0 w0 ((w.setCell ⟨b, 0, none⟩ v0).setCell ⟨b, 1, none⟩ v1) (fs ++ boxT b e #[v0, v1] :: ts) := by
  have h1 : (boxT b e #[u0, u1]).I w := h.i (by simp)
  refine h.turn (boxT b e #[v0, v1]) ?_ (((Kept.refl (fun k => k = b) w).set (.inl rfl) 0 v0).set (.inl rfl) 1 v1) (fun k hk => .inl hk)
  have h2 : w.heap[b]? = some (.cells #[u0, u1] e (0, 0)) := h1
  show ((w.setCell ⟨b, 0, none⟩ v0).setCell ⟨b, 1, none⟩ v1).heap[b]? = some (.cells #[v0, v1] e (0, 0))
  simp [World.setCell, Array.getElem?_modify, h2]
theorem hold_two {F0 : Nat → Prop} {w0 w : World} {ts : List Thing} (h : Hold F0 w0 w ts) {b : Nat} {e : TypeId} {v0 v1 : Value} (hm : boxT b e #[v0, v1] ∈ ts) : w.cell? ⟨b, 0, none⟩ = some v0 ∧ w.cell? ⟨b, 1, none⟩ = some v1 ∧ w.frozen? ⟨b, 0, none⟩ = false ∧ w.frozen? ⟨b, 1, none⟩ = false := by
  have h1 : (boxT b e #[v0, v1]).I w := h.i hm
  have h2 : w.heap[b]? = some (.cells #[v0, v1] e (0, 0)) := h1
  exact ⟨box_cell h1 rfl, box_cell h1 rfl, Qnt.blk_frozen h2 0, Qnt.blk_frozen h2 1⟩
theorem gk_of {F0 : Nat → Prop} {w0 w : World} {ts : List Thing} {B0 kb ab N : Nat} {hv : Array Value} {ls : Nat → List Kp} {b : Bool} (h : Hold F0 w0 w ts) (hm : gkT B0 kb ab N hv ls b ∈ ts) : GK B0 kb ab N hv ls b w ∧ ∀ k, gkF kb ab hv k → F0 k ∨ w0.heap.size ≤ k := ⟨h.i hm, (h.2.1 _ hm).2⟩
theorem ct_at {tb mb bb gb lb sb kb N BB : Nat} {D : DataW Unit} {least : Int} {fn : Value} {w0 w : World} {F0 : Nat → Prop} {ts : List Thing} (hc : CTI tb mb bb gb lb sb kb N BB D least fn w0) (h0 : ∀ k, ctF tb mb bb gb lb sb k → ¬ F0 k) (h : Hold F0 w0 w ts) : CTI tb mb bb gb lb sb kb N BB D least fn w := hc.keep h.1 h0
theorem chalf_two (BB LM ix I2 I3 : Nat) (w : World) (h1 : BB ≤ 59) (h2 : LM + 1 ≤ BB) (h3 : ix < 2 ^ (BB - (LM + 1))) (e2 : 2 * ix = I2) (e3 : 2 * ix + 1 = I3) :
    Calls Tryz.prog 95 #[.int .i64 (BB : Int), .agg #[.int .i64 ((LM + 1 : Nat) : Int), .int .u64 (ix : Int)]] w fun e w' => e = .returned (.tuple #[.agg #[.int .i64 (LM : Int), .int .u64 (I2 : Int)], .agg #[.int .i64 (LM : Int), .int .u64 (I3 : Int)], .bool true]) ∧ Below w.heap.size w w' := by
  have h := chalf_nat BB LM ix w h1 h2 h3
  subst e2 e3
  have e : ((2 * ix + 1 : Nat) : Int) = ((2 * ix : Nat) : Int) + 1 := rfl
  rw [e]
  exact h
/-- What is kept in the end. -/
theorem fin_no {T : Nat → Nat → Option Int} {least : Int} {i : Nat} {n : Int} {ls : Nat → List Kp} (h : T 0 i = some n) (hr : Wid.f64 (n - gS T least 0 i) < least) : (fun M => ls M ++ gL T least 0 i M) = ls := by
  funext M
  rw [gL, gTop, h]
  simp only
  rw [if_pos hr, ite_self, List.append_nil]
theorem fin_yes {T : Nat → Nat → Option Int} {least : Int} {i : Nat} {n : Int} {ls : Nat → List Kp} (h : T 0 i = some n) (hr : ¬ Wid.f64 (n - gS T least 0 i) < least) : (fun M => ls M ++ gL T least 0 i M) = putK ls 0 ((0, i), n, Wid.f64 (n - gS T least 0 i)) := by
  funext M
  rw [gL, gTop, h, putK]
  simp only
  rw [if_neg hr]
  split
  · rfl
  · rw [List.append_nil]
theorem fin_no' {T : Nat → Nat → Option Int} {least : Int} {L i : Nat} {n : Int} {ls : Nat → List Kp} (h : T (L + 1) i = some n) (hr : Wid.f64 (n - gS T least (L + 1) i) < least) : (fun M => ls M ++ gL T least (L + 1) i M) = (fun M => (fun M => ls M ++ gL T least L (2 * i) M) M ++ gL T least L (2 * i + 1) M) := by
  funext M
  rw [gL, gTop, h]
  simp only
  rw [if_pos hr, ite_self, List.append_nil, List.append_assoc]
theorem fin_yes' {T : Nat → Nat → Option Int} {least : Int} {L i : Nat} {n : Int} {ls : Nat → List Kp} (h : T (L + 1) i = some n) (hr : ¬ Wid.f64 (n - gS T least (L + 1) i) < least) : (fun M => ls M ++ gL T least (L + 1) i M) = putK (fun M => (fun M => ls M ++ gL T least L (2 * i) M) M ++ gL T least L (2 * i + 1) M) (L + 1) ((L + 1, i), n, Wid.f64 (n - gS T least (L + 1) i)) := by
  funext M
  rw [gL, gTop, h, putK]
  simp only
  rw [if_neg hr]
  split
  · simp [List.append_assoc]
  · simp [List.append_assoc]
theorem fin_none {T : Nat → Nat → Option Int} {least : Int} {L i : Nat} {ls : Nat → List Kp} (h : T L i = none) : (fun M => ls M ++ gL T least L i M) = ls := by
  funext M
  rw [gL_none h, List.append_nil]
theorem flag_put {F0 : Nat → Prop} {w0 w : World} {fs ts : List Thing} {B0 kb ab N : Nat} {hv : Array Value} {ls : Nat → List Kp} {b : Bool} (h : Hold F0 w0 w (fs ++ gkT B0 kb ab N hv ls b :: ts)) (b' : Bool) : Hold F0 w0 (w.setCell ⟨ab, 0, none⟩ (.bool b')) (fs ++ gkT B0 kb ab N hv ls b' :: ts) := by
  have h1 : GK B0 kb ab N hv ls b w := h.i (t := gkT B0 kb ab N hv ls b) (by simp)
  exact h.turn (gkT B0 kb ab N hv ls b') (h1.setFlag b') (h1.keptFlag b') (fun k hk => .inl hk)
theorem last_apart {F0 : Nat → Prop} {w0 w : World} {fs : List Thing} {b : Nat} {e : TypeId} {vs : Array Value} {t : Thing} (h : Hold F0 w0 w (fs ++ [boxT b e vs, t])) : ¬ t.F b := by
  have h1 := (Asun.append.1 h.2.2).2.1
  exact h1.1 t (by simp) b rfl
theorem enc_oneK (a b x y : Int) : ∀ u ∈ ([.int .i64 a, .int .u64 b, .int .i64 x, .int .i64 y] : List Value), u.oneCell' = true := by
  intro u hu
  simp at hu
  rcases hu with rfl | rfl | rfl | rfl <;> rfl
theorem cell_far {w : World} {g i : Nat} {v u : Value} {a : Addr} (h : w.cell? a = some u) (hne : a.block ≠ g) : (w.setCell ⟨g, i, none⟩ v).cell? a = some u := by
  rw [World.cell?_of_block (w := w) (set_heap hne)]
  exact h
theorem row_grown {X Y : World} {row : Option Nat} {k : Nat} {o : Obj} (hg : X.grownBy Y row) (h : X.heap[k]? = some o) (hn : some k ≠ row) : Y.heap[k]? = some o := by rw [hg.block k (heap_lt h) hn]; exact h
theorem up_to {F0 : Nat → Prop} {w0 w X Y : World} {ts : List Thing} {row : Option Nat} (h : Hold F0 w0 w ts) (hg : X.grownBy Y row) (hb : Below w.heap.size w X) : Hold F0 w0 X ts := h.up hb
theorem gk_app {F0 : Nat → Prop} {w0 w w' : World} {fs ts : List Thing} {B0 kb ab N : Nat} {hv : Array Value} {ls : Nat → List Kp} {b : Bool} (h : Hold F0 w0 w (fs ++ gkT B0 kb ab N hv ls b :: ts)) {L n0 : Nat} {v : Value} (hL : hv[L]? = some v) (hn : (ls L).length = n0) {x : Kp} {g cap : Nat}
    (hown : w'.ownsRow B0 101 4 (.slice (some ⟨g, 0, none⟩) (n0 + 1) cap) (n0 + 1) ((ls L).flatMap encR ++ encR x)) (hg : w.grownBy w' v.ownBlock) (hat : v.ownBlock = some g ∨ g = w.heap.size) :
    Hold F0 w0 (w'.setCell ⟨kb, L, none⟩ (.slice (some ⟨g, 0, none⟩) (n0 + 1) cap)) (fs ++ gkT B0 kb ab N (hv.set! L (.slice (some ⟨g, 0, none⟩) (n0 + 1) cap)) (putK ls L x) b :: ts) := by
  have h1 : GK B0 kb ab N hv ls b w := h.i (t := gkT B0 kb ab N hv ls b) (by simp)
  subst hn
  obtain ⟨a1, a2, a3⟩ := h1.app hL hown hg hat
  exact h.turn (gkT B0 kb ab N (hv.set! L (.slice (some ⟨g, 0, none⟩) ((ls L).length + 1) cap)) (putK ls L x) b) a1 a2 a3
theorem w_zero : Wid.fh 0 = 0 ∧ Wid.fl 0 = 0 := by decide
set_option maxRecDepth 100000 in
set_option maxHeartbeats 4000000 in
theorem gat_none (tb mb bb gb lb sb kb ab N BB B0 : Nat) (D : DataW Unit) (least : Int) (T : Nat → Nat → Option Int) (L i : Nat) (hMT : MapT D T) (hB : BB ≤ 59) (hL : L ≤ BB) (hi : i < 576460752303423488) (hn : T L i = none) : GatC tb mb bb gb lb sb kb ab N BB B0 D least T L i := by
  intro hv ls b w hct hgk hdis hlen hB0
  obtain ⟨hm1, hm2⟩ := (hMT L i (by omega) (by omega)).2 hn
  rw [gW_none hn, fin_none hn, gF_none hn, Bool.and_true, w_zero.1, w_zero.2]
  have HCT := Lib.hid hct
  have HDIS := Lib.hid hdis
  have HGK := Lib.hid (gk_start hgk)
  have HPK := Lib.hid (pkl_ok (L := L) (i := i) (by omega) (by omega))
  have hm0 := hm2 (.lit (.int .i64 0))
  have HM0 := Lib.hid hm0
  clear hct hgk hdis hlen hMT hn hm2 hm0 hB hL hi
  go_enter Tryz.func97, Tryz.ntmps97
  go_upto_region 1 with fail
  have HO := Lib.hid (two_new HGK.out #[.int .i64 (L : Int), .int .u64 (i : Int)] #[.int .i64 0, .int .u64 0] 82 192)
  obtain ⟨W, hW⟩ : ∃ W, (w.alloc (.cells #[.int .i64 (L : Int), .int .u64 (i : Int)] 82)).alloc (.cells #[.int .i64 0, .int .u64 0] 192) = W := ⟨_, rfl⟩
  rw [hW] at HO ⊢
  clear hW
  have HC := Lib.hid (ct_at HCT.out HDIS.out HO.out)
  have c1 := HC.out.tcell
  obtain ⟨p0, p1, -, -⟩ := hold_two HO.out (b := w.heap.size) (e := 82) (v0 := .int .i64 (L : Int)) (v1 := .int .u64 (i : Int)) (by simp)
  obtain ⟨r0, r1, z0, z1⟩ := hold_two HO.out (b := w.heap.size + 1) (e := 192) (v0 := .int .i64 0) (v1 := .int .u64 0) (by simp)
  go_wp2_with (at_lookup; refine wpList_lookup_own_ok_int _ rfl _ _ _ rfl _ _ .i64 pk_law mp_u mp_e (mp_zero _) mb 5000 D rfl HC.out.tmap _ (pkl L i) rfl HPK.out ?_; intro c hat hwc)
  have HO2 := Lib.hid (put_two (fs := []) HO.out (.int .i64 0) (.int .u64 0))
  obtain ⟨W2, hW2⟩ : ∃ W2, (W.setCell ⟨w.heap.size + 1, 0, none⟩ (.int .i64 0)).setCell ⟨w.heap.size + 1, 1, none⟩ (.int .u64 0) = W2 := ⟨_, rfl⟩
  rw [hW2] at HO2 ⊢
  clear hW2
  obtain ⟨v0, v1, -, -⟩ := hold_two HO2.out (b := w.heap.size + 1) (e := 192) (v0 := .int .i64 0) (v1 := .int .u64 0) (by simp)
  refine bodyPost_ret (v := .agg #[.int .i64 0, .int .u64 0]) (by simp [results, Tryz.results97, go_sem, v0, v1]) rfl ?_
  obtain ⟨g1, g2⟩ := gk_of HO2.out (B0 := B0) (kb := kb) (ab := ab) (N := N) (hv := hv) (ls := ls) (b := b) (by simp)
  exact ⟨hv, rfl, g1, HO2.out.1, g2⟩
end Go.Proofs.YtkflggojiiebeaaGreat.Hvy
namespace Go.Proofs.YtkflggojiiebeaaGreat.Hvy
open Go Go.RowKit Go.Maps Lw Grd Lin Con Shp Sk Exa Lev Stk Pcs Spn Qnt
set_option linter.unusedVariables false
set_option linter.unusedSimpArgs false
set_option linter.unusedSimpArgs false
set_option maxRecDepth 100000 in
set_option maxHeartbeats 8000000 in
theorem gat_0 (tb mb bb gb lb sb kb ab N BB B0 : Nat) (D : DataW Unit) (least : Int) (T : Nat → Nat → Option Int) (i : Nat) (n : Int) (hMT : MapT D T) (hB : BB ≤ 59) (hN : N = BB + 1) (hi : i < 576460752303423488) (hn : T 0 i = some n) (n0 : -9223372036854775808 ≤ n) (n1 : n ≤ 9223372036854775807) : GatC tb mb bb gb lb sb kb ab N BB B0 D least T 0 i := by
  intro hv ls b w hct hgk hdis hlen hB0
  obtain ⟨hm1, hm2⟩ := (hMT 0 i (by omega) (by omega)).1 n hn
  have HCT := Lib.hid hct
  have HDIS := Lib.hid hdis
  have HGK := Lib.hid (gk_start hgk)
  have HPK : Hid (keyOf Tryz.prog 82 (.agg #[.int .i64 0, .int .u64 (i : Int)]) = some (pkl 0 i)) := Lib.hid (pkl_ok (L := 0) (i := i) (by omega) (by omega))
  have HM0 := Lib.hid (hm2 (.lit (.int .i64 0)))
  have HCH := Lib.hid (fun w => chalves_0 (BB : Int) (i : Int) w)
  have HFN := Lib.hid (fun ls => fin_no (ls := ls) (least := least) hn)
  have HFY := Lib.hid (fun ls => fin_yes (ls := ls) (least := least) hn)
  have HWG : Hid (gW T least 0 i = if Wid.f64 (n - gS T least 0 i) < least then gS T least 0 i else n) := Lib.hid (by rw [gW_eq, gOne, hn])
  have HFF : Hid (gF T least 0 i = Wid.fit64 (n - gS T least 0 i)) := Lib.hid (by rw [gF, hn, gS, Int.sub_zero])
  have HLEN : Hid ((ls 0).length ≤ 4096) := Lib.hid (by have := hlen 0; rw [List.length_append] at this; omega)
  have HWO := Lib.hid (fun w => without_any n (gS T least 0 i) w n0 n1 (by rw [gS]; omega))
  have HOF := Lib.hid (fun w => Wid.of_any n w n0 n1)
  obtain ⟨S, hS⟩ : ∃ S, gS T least 0 i = S := ⟨_, rfl⟩
  obtain ⟨R, hR⟩ : ∃ R, Wid.f64 (n - S) = R := ⟨_, rfl⟩
  obtain ⟨FT, hFT⟩ : ∃ R, Wid.fit64 (n - S) = R := ⟨_, rfl⟩
  have hS0 : S = 0 := hS.symm
  rw [hS] at HWO HWG HFF
  have HSHL : Hid (Wid.fh S = 0 ∧ Wid.fl S = 0) := Lib.hid (by rw [hS0]; exact w_zero)
  rw [HSHL.out.1, HSHL.out.2] at HWO
  have HBB : Hid ((b && FT) = (b && FT)) := Lib.hid rfl
  have HLN : Hid (0 < N ∧ (0 : Int) ≤ 0 ∧ (0 : Int) < (N : Int)) := Lib.hid (by omega)
  have HB0 : Hid (B0 ≤ w.heap.size) := Lib.hid hB0
  rw [hS, hR] at HFN HFY
  rw [hR] at HWG
  rw [hR, hFT] at HWO
  rw [hFT] at HFF
  rw [HFF.out, HWG.out]
  clear hct hgk hdis hlen hMT hn hm2 hB hi hS hR hFT n0 n1 hB0 hS0 hN
  go_enter Tryz.func97, Tryz.ntmps97
  go_upto_region 1 with fail
  have HO := Lib.hid (two_new HGK.out #[.int .i64 0, .int .u64 (i : Int)] #[.int .i64 0, .int .u64 0] 82 192)
  obtain ⟨B7, hB7⟩ : ∃ k, w.heap.size = k := ⟨_, rfl⟩
  obtain ⟨W, hW⟩ : ∃ W, (w.alloc (.cells #[.int .i64 0, .int .u64 (i : Int)] 82)).alloc (.cells #[.int .i64 0, .int .u64 0] 192) = W := ⟨_, rfl⟩
  rw [hW] at HO
  try rw [hW]
  rw [hB7] at HO
  try rw [hB7]
  obtain ⟨B8, hB8⟩ : ∃ k, B7 + 1 = k := ⟨_, rfl⟩
  rw [hB8] at HO
  try rw [hB8]
  clear hW
  have HC := Lib.hid (ct_at HCT.out HDIS.out HO.out)
  have c1 := HC.out.tcell
  have c2 := HC.out.bcell
  obtain ⟨p0, p1, -, -⟩ := hold_two HO.out (b := B7) (e := 82) (v0 := .int .i64 0) (v1 := .int .u64 (i : Int)) (by simp)
  go_upto_region 4 with (at_lookup; refine wpList_lookup_own_ok_int _ rfl _ _ _ rfl _ _ .i64 pk_law mp_u mp_e (mp_zero _) mb 5000 D rfl HC.out.tmap _ (pkl 0 i) rfl HPK.out ?_; intro c hat hwc; obtain rfl : n = c := (by have h5 := HM0.out.symm.trans hat; injection h5 with h5; injection h5))
  have HO4 := Lib.hid (one_new HO.out #[.int .i64 0, .int .u64 0] 192)
  go_upto_region 5 with fail
  obtain ⟨B11, hB11⟩ : ∃ k, W.heap.size = k := ⟨_, rfl⟩
  rw [hB11] at HO4
  try rw [hB11]
  obtain ⟨W4, hW4⟩ : ∃ X, W.alloc (.cells #[.int .i64 0, .int .u64 0] 192) = X := ⟨_, rfl⟩
  rw [hW4] at HO4
  rw [hW4]
  clear hW4 HO HC c1 c2 p0 p1 hB11
  have HC4 := Lib.hid (ct_at HCT.out HDIS.out HO4.out)
  have c2 := HC4.out.bcell
  obtain ⟨p0, p1, -, -⟩ := hold_two HO4.out (b := B7) (e := 82) (v0 := .int .i64 0) (v1 := .int .u64 (i : Int)) (by simp)
  go_upto_region 9 with (go_at_call 95; (with_reducible refine (HCH.out _).mono ?_); rintro e w5 ⟨rfl, hb⟩; have HO5 := Lib.hid (HO4.out.up hb); clear hb)
  have HOT := Lib.hid (two_new HO5.out #[.int .i64 0, .int .u64 0] #[.int .i64 0, .int .u64 0] 82 82)
  obtain ⟨B12, hB12⟩ : ∃ k, w5.heap.size = k := ⟨_, rfl⟩
  obtain ⟨W9, hW9⟩ : ∃ X, (w5.alloc (.cells #[.int .i64 0, .int .u64 0] 82)).alloc (.cells #[.int .i64 0, .int .u64 0] 82) = X := ⟨_, rfl⟩
  rw [hW9] at HOT
  rw [hW9]
  rw [hB12] at HOT
  try rw [hB12]
  clear hW9 hB12 p0 p1 c2
  obtain ⟨s0, s1, -, -⟩ := hold_two HOT.out (b := B11) (e := 192) (v0 := .int .i64 0) (v1 := .int .u64 0) (by simp)
  go_upto_region 10 with (go_at_call 99; (with_reducible refine (HWO.out _).mono ?_); rintro e w9 ⟨rfl, hb⟩; have HO9 := Lib.hid (HOT.out.up hb); clear hb)
  clear s0 s1
  obtain ⟨g1, g2⟩ := gk_of HO9.out (B0 := B0) (kb := kb) (ab := ab) (N := N) (hv := hv) (ls := ls) (b := b) (by simp)
  have a0 := box_cell (w := w9) (b := ab) (e := 4) (vs := #[.bool b]) g1.flag (i := 0) rfl
  have a1 := Qnt.blk_frozen g1.flag 0
  clear g1 g2
  go_cut [55] (fun s55 wx => wx = w9.setCell ⟨ab, 0, none⟩ (.bool (b && FT)))
  case first =>
    rcases Bool.eq_false_or_eq_true (b) with hbx | hbx
    · have HBX := Lib.hid hbx
      rw [hbx] at a0
      clear hbx
      go_wp2_with fail
      go_meet
      rw [HBX.out]
      rfl
    · have HBX := Lib.hid hbx
      rw [hbx] at a0
      clear hbx
      go_wp2_with fail
      go_meet
      rw [HBX.out]
      rfl
  case rest =>
    obtain ⟨wo, hwo0⟩ : ∃ wo, wo = wc := ⟨_, rfl⟩
    rw [← hwo0] at hcut ⊢
    clear hwo0
    have HO10 : Hid (Hold (gkF kb ab hv) w wo ([boxT (B12 + 1) 82 #[.int .i64 0, .int .u64 0], boxT B12 82 #[.int .i64 0, .int .u64 0]] ++ [boxT B11 192 #[.int .i64 0, .int .u64 0], boxT B8 192 #[.int .i64 0, .int .u64 0], boxT B7 82 #[.int .i64 0, .int .u64 (i : Int)], gkT B0 kb ab N hv ls (b && FT)])) := Lib.hid (by rw [hcut]; exact flag_put (fs := [boxT (B12 + 1) 82 #[.int .i64 0, .int .u64 0], boxT B12 82 #[.int .i64 0, .int .u64 0]] ++ [_, _, _]) HO9.out (b && FT))
    clear hcut a0 a1 HO9 HOT HWO
    obtain ⟨b2, hb2⟩ : ∃ b2, (b && FT) = b2 := ⟨_, rfl⟩
    rw [hb2] at HO10
    have HB2 := Lib.hid hb2
    clear hb2
    have HC10 := Lib.hid (ct_at HCT.out HDIS.out HO10.out)
    have c5 := HC10.out.lcell
    by_cases hr : R < least
    · have g0 : decide (R < least) = true := decide_eq_true hr
      obtain ⟨s0, s1, -, -⟩ := hold_two HO10.out (b := B11) (e := 192) (v0 := .int .i64 0) (v1 := .int .u64 0) (by simp)
      obtain ⟨z0, z1, z2, z3⟩ := hold_two HO10.out (b := B8) (e := 192) (v0 := .int .i64 0) (v1 := .int .u64 0) (by simp)
      have HLS := Lib.hid (HFN.out ls (by omega))
      go_wp2
      have HOE : Hid (Hold (gkF kb ab hv) w ((wo.setCell ⟨B8, 0, none⟩ (.int .i64 0)).setCell ⟨B8, 1, none⟩ (.int .u64 0)) ([boxT (B12 + 1) 82 #[.int .i64 0, .int .u64 0], boxT B12 82 #[.int .i64 0, .int .u64 0]] ++ [boxT B11 192 #[.int .i64 0, .int .u64 0], boxT B8 192 #[.int .i64 0, .int .u64 0], boxT B7 82 #[.int .i64 0, .int .u64 (i : Int)], gkT B0 kb ab N hv ls b2])) := Lib.hid (put_two (fs := [boxT (B12 + 1) 82 #[.int .i64 0, .int .u64 0], boxT B12 82 #[.int .i64 0, .int .u64 0]] ++ [_]) HO10.out (.int .i64 0) (.int .u64 0))
      obtain ⟨we, hwe⟩ : ∃ we, (wo.setCell ⟨B8, 0, none⟩ (.int .i64 0)).setCell ⟨B8, 1, none⟩ (.int .u64 0) = we := ⟨_, rfl⟩
      rw [hwe] at HOE ⊢
      obtain ⟨v0, v1, -, -⟩ := hold_two HOE.out (b := B8) (e := 192) (v0 := .int .i64 0) (v1 := .int .u64 0) (by simp)
      refine bodyPost_ret (v := .agg #[.int .i64 0, .int .u64 0]) (by simp [results, Tryz.results97, go_sem, v0, v1]) rfl ?_
      obtain ⟨g1, g2⟩ := gk_of HOE.out (B0 := B0) (kb := kb) (ab := ab) (N := N) (hv := hv) (ls := ls) (b := b2) (by simp)
      exact ⟨by (try rw [if_pos hr]); rw [HSHL.out.1, HSHL.out.2], hv, by rw [HLS.out, HB2.out]; exact g1, HOE.out.1, fun k hk => (g2 k hk).imp id (fun h => by omega)⟩
    · have g0 : decide (R < least) = false := decide_eq_false hr
      have HLS := Lib.hid (HFY.out ls (by omega))
      obtain ⟨p0, p1, -, -⟩ := hold_two HO10.out (b := B7) (e := 82) (v0 := .int .i64 0) (v1 := .int .u64 (i : Int)) (by simp)
      have c6 := HC10.out.scell
      obtain ⟨hgk, hgf⟩ := gk_of HO10.out (B0 := B0) (kb := kb) (ab := ab) (N := N) (hv := hv) (ls := ls) (b := b2) (by simp)
      obtain ⟨v, hv_⟩ : ∃ v, hv[0]? = some v := ⟨_, Array.getElem?_eq_getElem (by rw [hgk.size]; exact HLN.out.1)⟩
      have ho := hgk.own _ _ hv_
      obtain ⟨n0, hn0⟩ : ∃ n, (ls 0).length = n := ⟨_, rfl⟩
      rw [hn0] at ho
      obtain ⟨-, A0, cap0, rfl⟩ := own_formK ho
      have hn4 : n0 ≤ 4096 := by rw [← hn0]; exact HLEN.out
      have k0 := box_cell (w := wo) (b := kb) hgk.row hv_
      have HKR := Lib.hid hgk.row
      have k1 : ∀ o : Obj, (wo.alloc o).cell? ⟨kb, 0, none⟩ = some (.slice A0 n0 cap0) := fun o => cell_up k0 (Lw.below_alloc (Below.refl _ _) o)
      have k2 : ∀ o : Obj, ((wo.alloc o).drew).cell? ⟨kb, 0, none⟩ = some (.slice A0 n0 cap0) := fun o => cell_up k0 (Below.drew (Lw.below_alloc (Below.refl _ _) o))
      have k3 : (wo.drew).cell? ⟨kb, 0, none⟩ = some (.slice A0 n0 cap0) := cell_up k0 (Below.drew (Below.refl _ _))
      have HOWN := Lib.hid ho
      have HN0 := Lib.hid hn0
      have HHV := Lib.hid hv_
      have HNS : Hid ((.slice A0 n0 cap0 : Value).ownBlock ≠ some sb) := Lib.hid (fun e => ct_far (w := w) HCT.out HDIS.out hgf sb (by unfold ctF; simp) (.inr (.inr ⟨_, _, hv_, e⟩)))
      have HN7 : Hid ((.slice A0 n0 cap0 : Value).ownBlock ≠ some B7) := Lib.hid (fun e => last_apart (fs := [boxT (B12 + 1) 82 #[.int .i64 0, .int .u64 0], boxT B12 82 #[.int .i64 0, .int .u64 0]] ++ [_, _]) HO10.out (show gkF kb ab hv B7 from .inr (.inr ⟨_, _, hv_, e⟩)))
      have HNK : Hid ((.slice A0 n0 cap0 : Value).ownBlock ≠ some kb) := Lib.hid (fun e => by have h5 := own_ge ho _ e; have h6 := hgk.far.1; omega)
      have hsk : sb ≠ kb := fun e => HDIS.out sb (by unfold ctF; simp) (.inl e)
      have h7k : B7 ≠ kb := fun e => last_apart (fs := [boxT (B12 + 1) 82 #[.int .i64 0, .int .u64 0], boxT B12 82 #[.int .i64 0, .int .u64 0]] ++ [_, _]) HO10.out (show gkF kb ab hv B7 from .inl e)
      have HBS : Hid (B0 ≤ wo.heap.size) := Lib.hid (Nat.le_trans HB0.out HO10.out.1.size)
      obtain ⟨j0, hj_, hy0, hy1, hy2⟩ := info_parts rs_info
      have l0 : (0 : Int) ≤ 0 := HLN.out.2.1
      have l1 : 0 < (N : Int) := HLN.out.2.2
      have l2 : 0 < N := HLN.out.1
      clear hgk hgf hv_ ho hn0
      go_upto_region 13 with fail
      go_cut [73] (fun s73 wx => ∃ hv2 : Array Value, Hold (gkF kb ab hv) w wx ([boxT (B12 + 1) 82 #[.int .i64 0, .int .u64 0], boxT B12 82 #[.int .i64 0, .int .u64 0]] ++ [boxT B11 192 #[.int .i64 0, .int .u64 0], boxT B8 192 #[.int .i64 0, .int .u64 0], boxT B7 82 #[.int .i64 0, .int .u64 (i : Int)], gkT B0 kb ab N hv2 (putK ls 0 ((0, i), n, R)) b2]))
      case first =>
        refine wp_region_held_drew (S := (fun w' => w'.cell? ⟨sb, 0, none⟩ = some (.slice (some ⟨kb, 0, none⟩) N N) ∧ w'.cell? ⟨B7, 0, none⟩ = some (.int .i64 0) ∧ w'.cell? ⟨B7, 1, none⟩ = some (.int .u64 (i : Int)))) (by kernel_rfl) ⟨cell_up c6 (by (repeat' (first | (with_reducible first | exact Below.refl _ _ | assumption | refine below_over ?_ _ _ | refine Lw.below_alloc ?_ _ | refine Below.drew ?_ | refine below_drewN ?_ _ | refine Below.setCell ?_ ?_ _) | go_size))), cell_up p0 (by (repeat' (first | (with_reducible first | exact Below.refl _ _ | assumption | refine below_over ?_ _ _ | refine Lw.below_alloc ?_ _ | refine Below.drew ?_ | refine below_drewN ?_ _ | refine Below.setCell ?_ ?_ _) | go_size))), cell_up p1 (by (repeat' (first | (with_reducible first | exact Below.refl _ _ | assumption | refine below_over ?_ _ _ | refine Lw.below_alloc ?_ _ | refine Below.drew ?_ | refine below_drewN ?_ _ | refine Below.setCell ?_ ?_ _) | go_size)))⟩ (fun hHeld => ?_)
        refine wpAnyH_take (i := 0) (v := ?_) rfl (by kernel_rfl) (by kernel_rfl) (by kernel_rfl) (fun _ _ _ h => h) (Or.inl ⟨by rfl, ?_⟩) hHeld ?_
        rotate_left
        · intro w hSw; (try dsimp only at hSw); go_simp; (try with_reducible rfl)
        (try simp only [List.getElem_toArray, List.getElem_cons_zero, List.getElem_cons_succ, Act.put, List.setIfInBounds_toArray, List.set_cons_zero, List.set_cons_succ])
        refine wpAnyH_take (i := 1) (v := ?_) rfl (by kernel_rfl) (by kernel_rfl) (by kernel_rfl) (fun _ _ _ h => h) (Or.inl ⟨by rfl, ?_⟩) hHeld ?_
        rotate_left
        · intro w hSw; (try dsimp only at hSw); go_simp; (try with_reducible rfl)
        (try simp only [List.getElem_toArray, List.getElem_cons_zero, List.getElem_cons_succ, Act.put, List.setIfInBounds_toArray, List.set_cons_zero, List.set_cons_succ])
        refine wpAnyH_take (i := 2) (v := ?_) rfl (by kernel_rfl) (by kernel_rfl) (by kernel_rfl) (fun _ _ _ h => h) (Or.inl ⟨by rfl, ?_⟩) hHeld ?_
        rotate_left
        · intro w hSw; (try dsimp only at hSw); go_simp; (try with_reducible rfl)
        (try simp only [List.getElem_toArray, List.getElem_cons_zero, List.getElem_cons_succ, Act.put, List.setIfInBounds_toArray, List.set_cons_zero, List.set_cons_succ])
        refine wpAnyH_take (i := 3) (v := ?_) rfl (by kernel_rfl) (by kernel_rfl) (by kernel_rfl) (fun _ _ _ h => h) (Or.inl ⟨by rfl, ?_⟩) hHeld ?_
        rotate_left
        · intro w hSw; (try dsimp only at hSw); go_simp; (try with_reducible rfl)
        (try simp only [List.getElem_toArray, List.getElem_cons_zero, List.getElem_cons_succ, Act.put, List.setIfInBounds_toArray, List.set_cons_zero, List.set_cons_succ])
        refine wpAnyH_take (i := 4) (v := ?_) rfl (by kernel_rfl) (by kernel_rfl) (by kernel_rfl) (fun _ _ _ h => h) (Or.inl ⟨by rfl, ?_⟩) hHeld ?_
        rotate_left
        · intro w hSw; (try dsimp only at hSw); go_simp; (try with_reducible rfl)
        (try simp only [List.getElem_toArray, List.getElem_cons_zero, List.getElem_cons_succ, Act.put, List.setIfInBounds_toArray, List.set_cons_zero, List.set_cons_succ])
        refine wpAnyH_take (i := 5) (v := ?_) rfl (by kernel_rfl) (by kernel_rfl) (by kernel_rfl) (fun _ _ _ h => h) (Or.inl ⟨by rfl, ?_⟩) hHeld ?_
        rotate_left
        · intro w hSw; (try dsimp only at hSw); go_simp; (try with_reducible rfl)
        (try simp only [List.getElem_toArray, List.getElem_cons_zero, List.getElem_cons_succ, Act.put, List.setIfInBounds_toArray, List.set_cons_zero, List.set_cons_succ])
        refine wpAnyH_take (i := 6) (v := ?_) rfl (by kernel_rfl) (by kernel_rfl) (by kernel_rfl) (fun _ _ _ h => h) (Or.inl ⟨by rfl, ?_⟩) hHeld ?_
        rotate_left
        · intro w hSw; (try dsimp only at hSw); go_simp; (try with_reducible rfl)
        (try simp only [List.getElem_toArray, List.getElem_cons_zero, List.getElem_cons_succ, Act.put, List.setIfInBounds_toArray, List.set_cons_zero, List.set_cons_succ])
        refine wpAnyH_take (i := 8) (v := ?_) rfl (by kernel_rfl) (by kernel_rfl) (by kernel_rfl) (fun _ _ _ h => h) (Or.inl ⟨by rfl, ?_⟩) hHeld ?_
        rotate_left
        · intro w hSw; (try dsimp only at hSw); go_simp; (try with_reducible rfl)
        (try simp only [List.getElem_toArray, List.getElem_cons_zero, List.getElem_cons_succ, Act.put, List.setIfInBounds_toArray, List.set_cons_zero, List.set_cons_succ])
        refine wpAnyH_take (i := 9) (v := ?_) rfl (by kernel_rfl) (by kernel_rfl) (by kernel_rfl) (fun _ _ _ h => h) (Or.inl ⟨by rfl, ?_⟩) hHeld ?_
        rotate_left
        · intro w hSw; (try dsimp only at hSw); go_simp; (try with_reducible rfl)
        (try simp only [List.getElem_toArray, List.getElem_cons_zero, List.getElem_cons_succ, Act.put, List.setIfInBounds_toArray, List.set_cons_zero, List.set_cons_succ])
        refine wpAnyH_take (i := 10) (v := ?_) rfl (by kernel_rfl) (by kernel_rfl) (by kernel_rfl) (fun _ _ _ h => h) (Or.inl ⟨by rfl, ?_⟩) hHeld ?_
        rotate_left
        · intro w hSw; (try dsimp only at hSw); go_simp; (try with_reducible rfl)
        (try simp only [List.getElem_toArray, List.getElem_cons_zero, List.getElem_cons_succ, Act.put, List.setIfInBounds_toArray, List.set_cons_zero, List.set_cons_succ])
        refine wpAnyH_take (i := 11) (v := ?_) rfl (by kernel_rfl) (by kernel_rfl) (by kernel_rfl) (fun _ _ _ h => h) (Or.inl ⟨by rfl, ?_⟩) hHeld ?_
        rotate_left
        · intro w hSw; (try dsimp only at hSw); go_simp; (try with_reducible rfl)
        (try simp only [List.getElem_toArray, List.getElem_cons_zero, List.getElem_cons_succ, Act.put, List.setIfInBounds_toArray, List.set_cons_zero, List.set_cons_succ])
        refine wpAnyH_ready (rs := [7, 12]) (by kernel_rfl) (by simp) ?_
        refine AllReadyH.cons rfl (fun K hK => ?_) (AllReadyH.cons rfl (fun K hK => ?_) AllReadyH.nil)
        · go_simp
          refine hK.out _ _ hHeld (fun hHeld => ?_)
          clear hK K
          (try simp only [List.getElem_toArray, List.getElem_cons_zero, List.getElem_cons_succ, Act.put, List.setIfInBounds_toArray, List.set_cons_zero, List.set_cons_succ])
          refine wpAnyH_ready (rs := [12]) (by kernel_rfl) (by simp) ?_
          refine AllReadyH.cons rfl (fun K hK => ?_) AllReadyH.nil
          go_simp
          refine hK.out _ _ ⟨cell_up c6 (by (repeat' (first | (with_reducible first | exact Below.refl _ _ | assumption | refine below_over ?_ _ _ | refine Lw.below_alloc ?_ _ | refine Below.drew ?_ | refine below_drewN ?_ _ | refine Below.setCell ?_ ?_ _) | go_size))), cell_up p0 (by (repeat' (first | (with_reducible first | exact Below.refl _ _ | assumption | refine below_over ?_ _ _ | refine Lw.below_alloc ?_ _ | refine Below.drew ?_ | refine below_drewN ?_ _ | refine Below.setCell ?_ ?_ _) | go_size))), cell_up p1 (by (repeat' (first | (with_reducible first | exact Below.refl _ _ | assumption | refine below_over ?_ _ _ | refine Lw.below_alloc ?_ _ | refine Below.drew ?_ | refine below_drewN ?_ _ | refine Below.setCell ?_ ?_ _) | go_size)))⟩ (fun hHeld => ?_)
          clear hK K
          (try simp only [List.getElem_toArray, List.getElem_cons_zero, List.getElem_cons_succ, Act.put, List.setIfInBounds_toArray, List.set_cons_zero, List.set_cons_succ])
          refine wpAnyH_ready (rs := [13]) (by kernel_rfl) (by simp) ?_
          refine AllReadyH.cons rfl (fun K hK => ?_) AllReadyH.nil
          (refine step_append_lies _ (by rfl) _ _ 45 (by rfl) B0 101 j0 (.agg #[.int .i64 0, .int .u64 0, .int .i64 0, .int .i64 0]) 4 32 rss_u hj_ hy0 hy1 hy2 (by rfl) (by decide) (.slice A0 n0 cap0) n0 ((ls 0).flatMap encR) (by rfl) ((Kept.of_below (F := fun _ => False) (by (repeat' (first | (with_reducible first | exact Below.refl _ _ | assumption | refine below_over ?_ _ _ | refine Lw.below_alloc ?_ _ | refine Below.drew ?_ | refine below_drewN ?_ _ | refine Below.setCell ?_ ?_ _) | go_size)))).own HOWN.out (fun _ _ h => h)) ⟨_, 0, none⟩ 1 1 [.int .i64 0, .int .u64 (i : Int), .int .i64 n, .int .i64 R] (by rfl) (by rfl) (World.news_of_block (heap_alloc_new _ _)) (enc_oneK _ _ _ _) (by decide) (by unfold maxLen; omega) (by omega) (by have := HBS.out; simp; omega) _ (by rfl) ?_; intro g7 cap7 w7 hown7 hgrow7 hat7 hlt7; have HOX := Lib.hid (up_to HO10.out hgrow7 (by (repeat' (first | (with_reducible first | exact Below.refl _ _ | assumption | refine below_over ?_ _ _ | refine Lw.below_alloc ?_ _ | refine Below.drew ?_ | refine below_drewN ?_ _ | refine Below.setCell ?_ ?_ _) | go_size)))); have x6 := hgrow7.cell (cell_up c6 (by (repeat' (first | (with_reducible first | exact Below.refl _ _ | assumption | refine below_over ?_ _ _ | refine Lw.below_alloc ?_ _ | refine Below.drew ?_ | refine below_drewN ?_ _ | refine Below.setCell ?_ ?_ _) | go_size)))) (fun e => HNS.out e.symm); have x0 := hgrow7.cell (cell_up p0 (by (repeat' (first | (with_reducible first | exact Below.refl _ _ | assumption | refine below_over ?_ _ _ | refine Lw.below_alloc ?_ _ | refine Below.drew ?_ | refine below_drewN ?_ _ | refine Below.setCell ?_ ?_ _) | go_size)))) (fun e => HN7.out e.symm); have x1 := hgrow7.cell (cell_up p1 (by (repeat' (first | (with_reducible first | exact Below.refl _ _ | assumption | refine below_over ?_ _ _ | refine Lw.below_alloc ?_ _ | refine Below.drew ?_ | refine below_drewN ?_ _ | refine Below.setCell ?_ ?_ _) | go_size)))) (fun e => HN7.out e.symm); have xk := hgrow7.cell (cell_up k0 (by (repeat' (first | (with_reducible first | exact Below.refl _ _ | assumption | refine below_over ?_ _ _ | refine Lw.below_alloc ?_ _ | refine Below.drew ?_ | refine below_drewN ?_ _ | refine Below.setCell ?_ ?_ _) | go_size)))) (fun e => HNK.out e.symm); have xf := Qnt.blk_frozen (row_grown hgrow7 (Qnt.blk_up HKR.out (by (repeat' (first | (with_reducible first | exact Below.refl _ _ | assumption | refine below_over ?_ _ _ | refine Lw.below_alloc ?_ _ | refine Below.drew ?_ | refine below_drewN ?_ _ | refine Below.setCell ?_ ?_ _) | go_size)))) (fun e => HNK.out e.symm)) 0; have HW7 := Lib.hid hown7; have HG7 := Lib.hid hgrow7; have HA7 := Lib.hid hat7; clear hown7 hgrow7 hat7 hlt7)
          refine hK.out _ _ ⟨x6, x0, x1⟩ (fun hHeld => ?_)
          clear hK K
          (try simp only [List.getElem_toArray, List.getElem_cons_zero, List.getElem_cons_succ, Act.put, List.setIfInBounds_toArray, List.set_cons_zero, List.set_cons_succ])
          refine wpAnyH_take (i := 14) (v := ?_) rfl (by kernel_rfl) (by kernel_rfl) (by kernel_rfl) (fun _ _ _ h => h) (Or.inl ⟨by rfl, ?_⟩) hHeld ?_
          rotate_left
          · intro w hSw; (try dsimp only at hSw); go_simp; (try with_reducible rfl)
          (try simp only [List.getElem_toArray, List.getElem_cons_zero, List.getElem_cons_succ, Act.put, List.setIfInBounds_toArray, List.set_cons_zero, List.set_cons_succ])
          refine wpAnyH_ready (rs := [15]) (by kernel_rfl) (by simp) ?_
          refine AllReadyH.cons rfl (fun K hK => ?_) AllReadyH.nil
          go_simp
          refine hK.out _ _ ⟨cell_far x6 hsk, cell_far x0 h7k, cell_far x1 h7k⟩ (fun hHeld => ?_)
          clear hK K
          (try simp only [List.getElem_toArray, List.getElem_cons_zero, List.getElem_cons_succ, Act.put, List.setIfInBounds_toArray, List.set_cons_zero, List.set_cons_succ])
          refine wpAnyH_done (by kernel_rfl) ?_ _
          (try go_wp2_with fail)
          go_meet
          exact ⟨_, gk_app (fs := [boxT (B12 + 1) 82 #[.int .i64 0, .int .u64 0], boxT B12 82 #[.int .i64 0, .int .u64 0]] ++ [_, _, _]) HOX.out HHV.out HN0.out (x := ((0, i), n, R)) HW7.out HG7.out HA7.out⟩
        · go_simp
          refine hK.out _ _ ⟨cell_up c6 (by (repeat' (first | (with_reducible first | exact Below.refl _ _ | assumption | refine below_over ?_ _ _ | refine Lw.below_alloc ?_ _ | refine Below.drew ?_ | refine below_drewN ?_ _ | refine Below.setCell ?_ ?_ _) | go_size))), cell_up p0 (by (repeat' (first | (with_reducible first | exact Below.refl _ _ | assumption | refine below_over ?_ _ _ | refine Lw.below_alloc ?_ _ | refine Below.drew ?_ | refine below_drewN ?_ _ | refine Below.setCell ?_ ?_ _) | go_size))), cell_up p1 (by (repeat' (first | (with_reducible first | exact Below.refl _ _ | assumption | refine below_over ?_ _ _ | refine Lw.below_alloc ?_ _ | refine Below.drew ?_ | refine below_drewN ?_ _ | refine Below.setCell ?_ ?_ _) | go_size)))⟩ (fun hHeld => ?_)
          clear hK K
          (try simp only [List.getElem_toArray, List.getElem_cons_zero, List.getElem_cons_succ, Act.put, List.setIfInBounds_toArray, List.set_cons_zero, List.set_cons_succ])
          refine wpAnyH_ready (rs := [7]) (by kernel_rfl) (by simp) ?_
          refine AllReadyH.cons rfl (fun K hK => ?_) AllReadyH.nil
          go_simp
          refine hK.out _ _ hHeld (fun hHeld => ?_)
          clear hK K
          (try simp only [List.getElem_toArray, List.getElem_cons_zero, List.getElem_cons_succ, Act.put, List.setIfInBounds_toArray, List.set_cons_zero, List.set_cons_succ])
          refine wpAnyH_ready (rs := [13]) (by kernel_rfl) (by simp) ?_
          refine AllReadyH.cons rfl (fun K hK => ?_) AllReadyH.nil
          (refine step_append_lies _ (by rfl) _ _ 45 (by rfl) B0 101 j0 (.agg #[.int .i64 0, .int .u64 0, .int .i64 0, .int .i64 0]) 4 32 rss_u hj_ hy0 hy1 hy2 (by rfl) (by decide) (.slice A0 n0 cap0) n0 ((ls 0).flatMap encR) (by rfl) ((Kept.of_below (F := fun _ => False) (by (repeat' (first | (with_reducible first | exact Below.refl _ _ | assumption | refine below_over ?_ _ _ | refine Lw.below_alloc ?_ _ | refine Below.drew ?_ | refine below_drewN ?_ _ | refine Below.setCell ?_ ?_ _) | go_size)))).own HOWN.out (fun _ _ h => h)) ⟨_, 0, none⟩ 1 1 [.int .i64 0, .int .u64 (i : Int), .int .i64 n, .int .i64 R] (by rfl) (by rfl) (World.news_of_block (heap_alloc_new _ _)) (enc_oneK _ _ _ _) (by decide) (by unfold maxLen; omega) (by omega) (by have := HBS.out; simp; omega) _ (by rfl) ?_; intro g7 cap7 w7 hown7 hgrow7 hat7 hlt7; have HOX := Lib.hid (up_to HO10.out hgrow7 (by (repeat' (first | (with_reducible first | exact Below.refl _ _ | assumption | refine below_over ?_ _ _ | refine Lw.below_alloc ?_ _ | refine Below.drew ?_ | refine below_drewN ?_ _ | refine Below.setCell ?_ ?_ _) | go_size)))); have x6 := hgrow7.cell (cell_up c6 (by (repeat' (first | (with_reducible first | exact Below.refl _ _ | assumption | refine below_over ?_ _ _ | refine Lw.below_alloc ?_ _ | refine Below.drew ?_ | refine below_drewN ?_ _ | refine Below.setCell ?_ ?_ _) | go_size)))) (fun e => HNS.out e.symm); have x0 := hgrow7.cell (cell_up p0 (by (repeat' (first | (with_reducible first | exact Below.refl _ _ | assumption | refine below_over ?_ _ _ | refine Lw.below_alloc ?_ _ | refine Below.drew ?_ | refine below_drewN ?_ _ | refine Below.setCell ?_ ?_ _) | go_size)))) (fun e => HN7.out e.symm); have x1 := hgrow7.cell (cell_up p1 (by (repeat' (first | (with_reducible first | exact Below.refl _ _ | assumption | refine below_over ?_ _ _ | refine Lw.below_alloc ?_ _ | refine Below.drew ?_ | refine below_drewN ?_ _ | refine Below.setCell ?_ ?_ _) | go_size)))) (fun e => HN7.out e.symm); have xk := hgrow7.cell (cell_up k0 (by (repeat' (first | (with_reducible first | exact Below.refl _ _ | assumption | refine below_over ?_ _ _ | refine Lw.below_alloc ?_ _ | refine Below.drew ?_ | refine below_drewN ?_ _ | refine Below.setCell ?_ ?_ _) | go_size)))) (fun e => HNK.out e.symm); have xf := Qnt.blk_frozen (row_grown hgrow7 (Qnt.blk_up HKR.out (by (repeat' (first | (with_reducible first | exact Below.refl _ _ | assumption | refine below_over ?_ _ _ | refine Lw.below_alloc ?_ _ | refine Below.drew ?_ | refine below_drewN ?_ _ | refine Below.setCell ?_ ?_ _) | go_size)))) (fun e => HNK.out e.symm)) 0; have HW7 := Lib.hid hown7; have HG7 := Lib.hid hgrow7; have HA7 := Lib.hid hat7; clear hown7 hgrow7 hat7 hlt7)
          refine hK.out _ _ ⟨x6, x0, x1⟩ (fun hHeld => ?_)
          clear hK K
          (try simp only [List.getElem_toArray, List.getElem_cons_zero, List.getElem_cons_succ, Act.put, List.setIfInBounds_toArray, List.set_cons_zero, List.set_cons_succ])
          refine wpAnyH_take (i := 14) (v := ?_) rfl (by kernel_rfl) (by kernel_rfl) (by kernel_rfl) (fun _ _ _ h => h) (Or.inl ⟨by rfl, ?_⟩) hHeld ?_
          rotate_left
          · intro w hSw; (try dsimp only at hSw); go_simp; (try with_reducible rfl)
          (try simp only [List.getElem_toArray, List.getElem_cons_zero, List.getElem_cons_succ, Act.put, List.setIfInBounds_toArray, List.set_cons_zero, List.set_cons_succ])
          refine wpAnyH_ready (rs := [15]) (by kernel_rfl) (by simp) ?_
          refine AllReadyH.cons rfl (fun K hK => ?_) AllReadyH.nil
          go_simp
          refine hK.out _ _ ⟨cell_far x6 hsk, cell_far x0 h7k, cell_far x1 h7k⟩ (fun hHeld => ?_)
          clear hK K
          (try simp only [List.getElem_toArray, List.getElem_cons_zero, List.getElem_cons_succ, Act.put, List.setIfInBounds_toArray, List.set_cons_zero, List.set_cons_succ])
          refine wpAnyH_done (by kernel_rfl) ?_ _
          (try go_wp2_with fail)
          go_meet
          exact ⟨_, gk_app (fs := [boxT (B12 + 1) 82 #[.int .i64 0, .int .u64 0], boxT B12 82 #[.int .i64 0, .int .u64 0]] ++ [_, _, _]) HOX.out HHV.out HN0.out (x := ((0, i), n, R)) HW7.out HG7.out HA7.out⟩
      case rest =>
        obtain ⟨hv2, hq⟩ := hcut
        have HO13 := Lib.hid hq
        clear hq p0 p1 c5 c6 k0 k1 k2 k3
        go_wp2_with (go_at_call 100; (with_reducible refine (HOF.out _).mono ?_); rintro e wf ⟨rfl, hb⟩; have HO14 := Lib.hid (HO13.out.up hb); clear hb; obtain ⟨z0, z1, z2, z3⟩ := hold_two HO14.out (b := B8) (e := 192) (v0 := .int .i64 0) (v1 := .int .u64 0) (by simp))
        have HOE : Hid (Hold (gkF kb ab hv) w ((wf.setCell ⟨B8, 0, none⟩ (.int .i64 (Wid.fh n))).setCell ⟨B8, 1, none⟩ (.int .u64 (Wid.fl n))) ([boxT (B12 + 1) 82 #[.int .i64 0, .int .u64 0], boxT B12 82 #[.int .i64 0, .int .u64 0]] ++ [boxT B11 192 #[.int .i64 0, .int .u64 0], boxT B8 192 #[.int .i64 (Wid.fh n), .int .u64 (Wid.fl n)], boxT B7 82 #[.int .i64 0, .int .u64 (i : Int)], gkT B0 kb ab N hv2 (putK ls 0 ((0, i), n, R)) b2])) := Lib.hid (put_two (fs := [boxT (B12 + 1) 82 #[.int .i64 0, .int .u64 0], boxT B12 82 #[.int .i64 0, .int .u64 0]] ++ [_]) HO14.out (.int .i64 (Wid.fh n)) (.int .u64 (Wid.fl n)))
        obtain ⟨we, hwe⟩ : ∃ we, (wf.setCell ⟨B8, 0, none⟩ (.int .i64 (Wid.fh n))).setCell ⟨B8, 1, none⟩ (.int .u64 (Wid.fl n)) = we := ⟨_, rfl⟩
        rw [hwe] at HOE ⊢
        obtain ⟨v0, v1, -, -⟩ := hold_two HOE.out (b := B8) (e := 192) (v0 := .int .i64 (Wid.fh n)) (v1 := .int .u64 (Wid.fl n)) (by simp)
        refine bodyPost_ret (v := .agg #[.int .i64 (Wid.fh n), .int .u64 (Wid.fl n)]) (by simp [results, Tryz.results97, go_sem, v0, v1]) rfl ?_
        obtain ⟨g1, g2⟩ := gk_of HOE.out (B0 := B0) (kb := kb) (ab := ab) (N := N) (hv := hv2) (ls := (putK ls 0 ((0, i), n, R))) (b := b2) (by simp)
        exact ⟨by first | rfl | rw [if_neg hr], hv2, by rw [HLS.out, HB2.out]; exact g1, HOE.out.1, fun k hk => (g2 k hk).imp id (fun h => by omega)⟩
end Go.Proofs.YtkflggojiiebeaaGreat.Hvy
namespace Go.Proofs.YtkflggojiiebeaaGreat.Hvy
open Go Go.RowKit Go.Maps Lw Grd Lin Con Shp Sk Exa Lev Stk Pcs Spn Qnt
set_option linter.unusedVariables false
set_option linter.unusedSimpArgs false
set_option linter.unusedSimpArgs false
theorem box_ne {F0 : Nat → Prop} {w0 w : World} {fs ms ts : List Thing} {b b' : Nat} {e e' : TypeId} {vs vs' : Array Value} (h : Hold F0 w0 w (fs ++ boxT b e vs :: (ms ++ boxT b' e' vs' :: ts))) : b ≠ b' := by
  have h1 := (Asun.append.1 h.2.2).2.1
  intro e9
  subst e9
  exact h1.1 (boxT b e' vs') (by simp) b rfl rfl
theorem gk_turn {F0 : Nat → Prop} {w0 w w' : World} {fs ts : List Thing} {B0 kb ab N : Nat} {hv hv' : Array Value} {ls ls' : Nat → List Kp} {b b' : Bool} (h : Hold F0 w0 w (fs ++ gkT B0 kb ab N hv ls b :: ts)) (hg : GK B0 kb ab N hv' ls' b' w') (hk : Kept (gkF kb ab hv) w w') (hF : ∀ k, gkF kb ab hv' k → gkF kb ab hv k ∨ w.heap.size ≤ k) : Hold F0 w0 w' (fs ++ gkT B0 kb ab N hv' ls' b' :: ts) := h.turn (gkT B0 kb ab N hv' ls' b') hg hk hF
theorem hb_up {w w' : World} {B0 : Nat} (h : B0 ≤ w.heap.size) (hb : Below w.heap.size w w') : B0 ≤ w'.heap.size := Nat.le_trans h hb.size
theorem pow_half {BB LM i : Nat} (h : LM + 1 ≤ BB) (hi : i < 2 ^ (BB - (LM + 1))) : 2 * i < 2 ^ (BB - LM) ∧ 2 * i + 1 < 2 ^ (BB - LM) := by
  have e : BB - LM = BB - (LM + 1) + 1 := by omega
  rw [e, Nat.pow_succ]
  omega
theorem sum_bds {T : Nat → Nat → Option Int} {least : Int} {LM i : Nat} (hT : ∀ (L i : Nat) (n : Int), T L i = some n → -9223372036854775808 ≤ n ∧ n ≤ 9223372036854775807) (h : LM + 1 ≤ 59) :
    (-21267647932558653966460912964485513216 ≤ gW T least LM i ∧ gW T least LM i ≤ 21267647932558653966460912964485513216) ∧ (-21267647932558653966460912964485513216 ≤ gS T least (LM + 1) i ∧ gS T least (LM + 1) i ≤ 21267647932558653966460912964485513216) := by
  have h1 := gW_bd (least := least) hT LM i
  have h2 := gS_bd (least := least) hT (LM + 1) i
  have h3 : (2 : Nat) ^ LM ≤ 2 ^ 59 := Nat.pow_le_pow_right (by omega) (by omega)
  have h4 : (2 : Nat) ^ (LM + 1) ≤ 2 ^ 59 := Nat.pow_le_pow_right (by omega) h
  have e59 : (2 : Nat) ^ 59 = 576460752303423488 := rfl
  have p1 : ((2 ^ LM : Nat) : Int) = (2 : Int) ^ LM := Int.natCast_pow 2 LM
  have p2 : ((2 ^ (LM + 1) : Nat) : Int) = (2 : Int) ^ (LM + 1) := Int.natCast_pow 2 (LM + 1)
  have h5 : ((2 ^ LM : Nat) : Int) ≤ 576460752303423488 := by rw [e59] at h3; exact Int.ofNat_le.2 h3
  have h6 : ((2 ^ (LM + 1) : Nat) : Int) ≤ 576460752303423488 := by rw [e59] at h4; exact Int.ofNat_le.2 h4
  rw [p1] at h5
  rw [p2] at h6
  clear p1 p2 h3 h4 e59 hT h
  generalize (2 : Int) ^ LM = P at *
  generalize (2 : Int) ^ (LM + 1) = Q at *
  omega
set_option maxRecDepth 100000 in
set_option maxHeartbeats 8000000 in
theorem gat_S (tb mb bb gb lb sb kb ab N BB B0 : Nat) (D : DataW Unit) (least : Int) (T : Nat → Nat → Option Int) (LM i : Nat) (n : Int) (IH : ∀ j, j < 2 ^ (BB - LM) → GatC tb mb bb gb lb sb kb ab N BB B0 D least T LM j) (hT : ∀ (L i : Nat) (n : Int), T L i = some n → -9223372036854775808 ≤ n ∧ n ≤ 9223372036854775807) (hMT : MapT D T) (hB : BB ≤ 59) (hN : N = BB + 1) (hL : LM + 1 ≤ BB) (hi : i < 2 ^ (BB - (LM + 1))) (hn : T (LM + 1) i = some n) : GatC tb mb bb gb lb sb kb ab N BB B0 D least T (LM + 1) i := by
  intro hv ls b w hct hgk hdis hlen hB0
  have hp59 : 2 ^ (BB - (LM + 1)) ≤ 2 ^ 59 := Nat.pow_le_pow_right (by omega) (by omega)
  have e59 : (2 : Nat) ^ 59 = 576460752303423488 := rfl
  have hi2 : i < 576460752303423488 := by omega
  obtain ⟨n0, n1⟩ := hT _ _ _ hn
  obtain ⟨hm1, hm2⟩ := (hMT (LM + 1) i (by omega) (by omega)).1 n hn
  have HCT := Lib.hid hct
  have HDIS := Lib.hid hdis
  have HGK := Lib.hid (gk_start hgk)
  have HB0 : Hid (B0 ≤ w.heap.size) := Lib.hid hB0
  have hc1 := fun w => chalf_two BB LM i (2 * i) (2 * i + 1) w hB hL hi rfl rfl
  have hq1 := IH (2 * i) (pow_half hL hi).1
  have hq2 := IH (2 * i + 1) (pow_half hL hi).2
  have hgl : ∀ M, gL T least (LM + 1) i M = gL T least LM (2 * i) M ++ gL T least LM (2 * i + 1) M ++ (if M = LM + 1 then gTop T least (LM + 1) i else []) := fun M => by rw [gL, hn]
  have hff : (b && gF T least (LM + 1) i) = (((b && gF T least LM (2 * i)) && gF T least LM (2 * i + 1)) && Wid.fit64 (n - gS T least (LM + 1) i)) := by
    rw [gF, hn]
    simp only [Bool.and_assoc]
  have hwg : gW T least (LM + 1) i = if Wid.f64 (n - gS T least (LM + 1) i) < least then gS T least (LM + 1) i else n := by rw [gW_eq, gOne, hn]
  have hfn := fin_no' (ls := ls) (least := least) hn
  have hfy := fin_yes' (ls := ls) (least := least) hn
  obtain ⟨bl, bs⟩ := sum_bds (i := 2 * i) (least := least) hT (show LM + 1 ≤ 59 by omega)
  obtain ⟨br, -⟩ := sum_bds (i := 2 * i + 1) (least := least) hT (show LM + 1 ≤ 59 by omega)
  obtain ⟨-, bs⟩ := sum_bds (i := i) (least := least) hT (show LM + 1 ≤ 59 by omega)
  have hsum : gW T least LM (2 * i) + gW T least LM (2 * i + 1) = gS T least (LM + 1) i := rfl
  have HADD0 := Lib.hid (fun w => w_add (gW T least LM (2 * i)) (gW T least LM (2 * i + 1)) w (by omega) (by omega))
  have HWO := Lib.hid (fun w => without_any n (gS T least (LM + 1) i) w n0 n1 (by omega))
  have HOF := Lib.hid (fun w => Wid.of_any n w n0 n1)
  rw [hsum] at HADD0
  have hpk := pkl_ok (L := LM + 1) (i := i) (by omega) (by omega)
  obtain ⟨I2, hI2⟩ : ∃ v, 2 * i = v := ⟨_, rfl⟩
  obtain ⟨I3, hI3⟩ : ∃ v, 2 * i + 1 = v := ⟨_, rfl⟩
  rw [hI2] at hI3
  rw [hI2, hI3] at hc1 hff hfn hfy HADD0
  rw [hI2] at hq1
  rw [hI2, hI3] at hq2
  have hgl2 : ∀ M, gL T least (LM + 1) i M = gL T least LM I2 M ++ gL T least LM I3 M ++ (if M = LM + 1 then gTop T least (LM + 1) i else []) := fun M => by rw [← hI3, ← hI2]; exact hgl M
  have hl1 : ∀ M, (ls M ++ gL T least LM I2 M).length ≤ 4096 := fun M => by
    have h5 := hlen M
    rw [hgl2 M] at h5
    simp only [List.length_append] at h5 ⊢
    omega
  have hl2 : ∀ M, ((fun M => ls M ++ gL T least LM I2 M) M ++ gL T least LM I3 M).length ≤ 4096 := fun M => by
    have h5 := hlen M
    rw [hgl2 M] at h5
    simp only [List.length_append] at h5 ⊢
    omega
  obtain ⟨ls0, hls0⟩ : ∃ l, (fun M => ls M ++ gL T least LM I2 M) = l := ⟨_, rfl⟩
  rw [hls0] at hfn hfy hl2
  obtain ⟨ls1, hls1⟩ : ∃ l, (fun M => ls0 M ++ gL T least LM I3 M) = l := ⟨_, rfl⟩
  rw [hls1] at hfn hfy
  have HLEN : Hid ((ls1 (LM + 1)).length ≤ 4096) := Lib.hid (by rw [← hls1]; exact hl2 (LM + 1))
  obtain ⟨b0, hb0⟩ : ∃ x, (b && gF T least LM I2) = x := ⟨_, rfl⟩
  obtain ⟨b1, hb1⟩ : ∃ x, (b0 && gF T least LM I3) = x := ⟨_, rfl⟩
  rw [hb0, hb1] at hff
  obtain ⟨XL, hXL⟩ : ∃ x, gW T least LM I2 = x := ⟨_, rfl⟩
  obtain ⟨XR, hXR⟩ : ∃ x, gW T least LM I3 = x := ⟨_, rfl⟩
  rw [hXL, hXR] at HADD0
  have HQL : Hid (∀ hx w', CTI tb mb bb gb lb sb kb N BB D least (fnV tb bb gb ab lb sb) w' → GK B0 kb ab N hx ls b w' → (∀ k, ctF tb mb bb gb lb sb k → ¬ gkF kb ab hx k) → B0 ≤ w'.heap.size → Calls Tryz.prog 97 #[.agg #[.int .i64 (LM : Int), .int .u64 (I2 : Int)], .pointer (some ⟨tb, 0, none⟩), .pointer (some ⟨bb, 0, none⟩), .pointer (some ⟨gb, 0, none⟩), .pointer (some ⟨ab, 0, none⟩), .pointer (some ⟨lb, 0, none⟩), .pointer (some ⟨sb, 0, none⟩)] w' fun e w2 => ∃ hy : Array Value, e = .returned (.agg #[.int .i64 (Wid.fh (XL)), .int .u64 (Wid.fl (XL))]) ∧ GK B0 kb ab N hy ls0 b0 w2 ∧ Kept (gkF kb ab hx) w' w2 ∧ (∀ k, gkF kb ab hy k → gkF kb ab hx k ∨ w'.heap.size ≤ k)) := Lib.hid (fun hx w' a1 a2 a3 a4 => by
    have h5 := hq1 hx ls b w' a1 a2 a3 hl1 a4
    rw [hls0, hb0, hXL] at h5
    exact h5)
  have HQR : Hid (∀ hx w', CTI tb mb bb gb lb sb kb N BB D least (fnV tb bb gb ab lb sb) w' → GK B0 kb ab N hx ls0 b0 w' → (∀ k, ctF tb mb bb gb lb sb k → ¬ gkF kb ab hx k) → B0 ≤ w'.heap.size → Calls Tryz.prog 97 #[.agg #[.int .i64 (LM : Int), .int .u64 (I3 : Int)], .pointer (some ⟨tb, 0, none⟩), .pointer (some ⟨bb, 0, none⟩), .pointer (some ⟨gb, 0, none⟩), .pointer (some ⟨ab, 0, none⟩), .pointer (some ⟨lb, 0, none⟩), .pointer (some ⟨sb, 0, none⟩)] w' fun e w2 => ∃ hy : Array Value, e = .returned (.agg #[.int .i64 (Wid.fh (XR)), .int .u64 (Wid.fl (XR))]) ∧ GK B0 kb ab N hy ls1 b1 w2 ∧ Kept (gkF kb ab hx) w' w2 ∧ (∀ k, gkF kb ab hy k → gkF kb ab hx k ∨ w'.heap.size ≤ k)) := Lib.hid (fun hx w' a1 a2 a3 a4 => by
    have h5 := hq2 hx ls0 b0 w' a1 a2 a3 hl2 a4
    rw [hls1, hb1, hXR] at h5
    exact h5)
  have HM0 := Lib.hid (hm2 (.lit (.int .i64 0)))
  obtain ⟨S, hS⟩ : ∃ S, gS T least (LM + 1) i = S := ⟨_, rfl⟩
  obtain ⟨R, hR⟩ : ∃ R, Wid.f64 (n - S) = R := ⟨_, rfl⟩
  obtain ⟨FT, hFT⟩ : ∃ R, Wid.fit64 (n - S) = R := ⟨_, rfl⟩
  obtain ⟨SH, hSH⟩ : ∃ R, Wid.fh S = R := ⟨_, rfl⟩
  obtain ⟨SL, hSL⟩ : ∃ R, Wid.fl S = R := ⟨_, rfl⟩
  rw [hS] at HWO hwg hff hfn hfy HADD0
  rw [hR] at hwg hfn hfy
  rw [hR, hFT] at HWO
  rw [hFT] at hff
  rw [hSH, hSL] at HWO HADD0
  have HSHL : Hid (Wid.fh S = SH ∧ Wid.fl S = SL) := Lib.hid ⟨hSH, hSL⟩
  obtain ⟨LV, hLV⟩ : ∃ v, LM + 1 = v := ⟨_, rfl⟩
  rw [hLV] at hwg hff hfn hfy HLEN HM0 hpk hm1 hc1
  rw [hLV]
  have HPK := Lib.hid hpk
  have HFN := Lib.hid hfn
  have HFY := Lib.hid hfy
  have HBB := Lib.hid hff
  have HCH := Lib.hid hc1
  have HLN : Hid (LV < N ∧ (0 : Int) ≤ (LV : Int) ∧ (LV : Int) < (N : Int)) := Lib.hid (by omega)
  rw [hwg]
  clear hct hgk hdis hlen hMT hn hm2 hB hi hi2 hS hR hFT n0 n1 hB0 hN hp59 e59 hc1 hq1 hq2 hgl hgl2 hff hwg hfn hfy bl bs br hsum hpk hI2 hI3 hl1 hl2 hls0 hls1 hb0 hb1 hXL hXR hSH hSL hLV IH hT hL
  go_enter Tryz.func97, Tryz.ntmps97
  go_upto_region 1 with fail
  have HO := Lib.hid (two_new HGK.out #[.int .i64 (LV : Int), .int .u64 (i : Int)] #[.int .i64 0, .int .u64 0] 82 192)
  obtain ⟨B7, hB7⟩ : ∃ k, w.heap.size = k := ⟨_, rfl⟩
  obtain ⟨W, hW⟩ : ∃ W, (w.alloc (.cells #[.int .i64 (LV : Int), .int .u64 (i : Int)] 82)).alloc (.cells #[.int .i64 0, .int .u64 0] 192) = W := ⟨_, rfl⟩
  rw [hW] at HO
  try rw [hW]
  rw [hB7] at HO
  try rw [hB7]
  obtain ⟨B8, hB8⟩ : ∃ k, B7 + 1 = k := ⟨_, rfl⟩
  rw [hB8] at HO
  try rw [hB8]
  clear hW
  have HC := Lib.hid (ct_at HCT.out HDIS.out HO.out)
  have c1 := HC.out.tcell
  obtain ⟨p0, p1, pf0, pf1⟩ := hold_two HO.out (b := B7) (e := 82) (v0 := .int .i64 (LV : Int)) (v1 := .int .u64 (i : Int)) (by simp)
  go_upto_region 4 with (at_lookup; refine wpList_lookup_own_ok_int _ rfl _ _ _ rfl _ _ .i64 pk_law mp_u mp_e (mp_zero _) mb 5000 D rfl HC.out.tmap _ (pkl LV i) rfl HPK.out ?_; intro c hat hwc; obtain rfl : n = c := (by have h5 := HM0.out.symm.trans hat; injection h5 with h5; injection h5))
  have HO4 := Lib.hid (one_new HO.out #[.int .i64 0, .int .u64 0] 192)
  go_upto_region 5 with fail
  obtain ⟨B11, hB11⟩ : ∃ k, W.heap.size = k := ⟨_, rfl⟩
  have hgB : gb ≠ B11 := by
    have h5 := HCT.out.lt gb (by unfold ctF; simp)
    have h6 := HO.out.1.size
    omega
  rw [hB11] at HO4
  try rw [hB11]
  obtain ⟨W4, hW4⟩ : ∃ X, W.alloc (.cells #[.int .i64 0, .int .u64 0] 192) = X := ⟨_, rfl⟩
  rw [hW4] at HO4
  rw [hW4]
  clear hW4 HO HC c1 p0 p1 pf0 pf1 hB11
  have HC4 := Lib.hid (ct_at HCT.out HDIS.out HO4.out)
  have c2 := HC4.out.bcell
  obtain ⟨p0, p1, pf0, pf1⟩ := hold_two HO4.out (b := B7) (e := 82) (v0 := .int .i64 (LV : Int)) (v1 := .int .u64 (i : Int)) (by simp)
  go_upto_region 7 with (go_at_call 95; (with_reducible refine (HCH.out _).mono ?_); rintro e w5 ⟨rfl, hb⟩; have HO5 := Lib.hid (HO4.out.up hb); clear hb)
  have HO7 := Lib.hid (two_new HO5.out #[.int .i64 (LM : Int), .int .u64 (I2 : Int)] #[.int .i64 (LM : Int), .int .u64 (I3 : Int)] 82 82)
  obtain ⟨B12, hB12⟩ : ∃ k, w5.heap.size = k := ⟨_, rfl⟩
  obtain ⟨W7, hW7⟩ : ∃ X, (w5.alloc (.cells #[.int .i64 (LM : Int), .int .u64 (I2 : Int)] 82)).alloc (.cells #[.int .i64 (LM : Int), .int .u64 (I3 : Int)] 82) = X := ⟨_, rfl⟩
  rw [hW7] at HO7
  rw [hW7]
  rw [hB12] at HO7
  try rw [hB12]
  obtain ⟨B13, hB13⟩ : ∃ k, B12 + 1 = k := ⟨_, rfl⟩
  rw [hB13] at HO7
  try rw [hB13]
  clear hW7 hB12 p0 p1 pf0 pf1 c2 HC4
  have HC7 := Lib.hid (ct_at HCT.out HDIS.out HO7.out)
  have c3 : W7.cell? ⟨gb, 0, none⟩ = some (.func (.func 97) #[] #[.pointer (some ⟨tb, 0, none⟩), .pointer (some ⟨bb, 0, none⟩), .pointer (some ⟨gb, 0, none⟩), .pointer (some ⟨ab, 0, none⟩), .pointer (some ⟨lb, 0, none⟩), .pointer (some ⟨sb, 0, none⟩)]) := HC7.out.gcell
  obtain ⟨q0, q1, qf0, qf1⟩ := hold_two HO7.out (b := B12) (e := 82) (v0 := .int .i64 (LM : Int)) (v1 := .int .u64 (I2 : Int)) (by simp)
  obtain ⟨ga, gf⟩ := gk_of HO7.out (B0 := B0) (kb := kb) (ab := ab) (N := N) (hv := hv) (ls := ls) (b := b) (by simp)
  have HGA := Lib.hid ga
  have HGD := Lib.hid (ct_far (w := w) HCT.out HDIS.out gf)
  have HB7 := Lib.hid (Nat.le_trans HB0.out HO7.out.1.size)
  clear ga gf
  go_upto_region 8 with (go_at_call 97; (with_reducible refine (HQL.out hv _ HC7.out HGA.out HGD.out HB7.out).mono ?_); rintro e w6 ⟨hv1, rfl, hg6, hk6, hF6⟩; have HO6 := Lib.hid (gk_turn (fs := [_, _, _, _, _]) HO7.out hg6 hk6 hF6); clear hg6 hk6 hF6)
  have HO8 := Lib.hid (one_new HO6.out #[.int .i64 (Wid.fh XL), .int .u64 (Wid.fl XL)] 192)
  obtain ⟨B15, hB15⟩ : ∃ k, w6.heap.size = k := ⟨_, rfl⟩
  rw [hB15] at HO8
  try rw [hB15]
  obtain ⟨W8, hW8⟩ : ∃ X, w6.alloc (.cells #[.int .i64 (Wid.fh XL), .int .u64 (Wid.fl XL)] 192) = X := ⟨_, rfl⟩
  rw [hW8] at HO8
  rw [hW8]
  clear hW8 hB15 c3 q0 q1 qf0 qf1 HGA HGD HB7 HC7
  have HC8 := Lib.hid (ct_at HCT.out HDIS.out HO8.out)
  have c3 : W8.cell? ⟨gb, 0, none⟩ = some (.func (.func 97) #[] #[.pointer (some ⟨tb, 0, none⟩), .pointer (some ⟨bb, 0, none⟩), .pointer (some ⟨gb, 0, none⟩), .pointer (some ⟨ab, 0, none⟩), .pointer (some ⟨lb, 0, none⟩), .pointer (some ⟨sb, 0, none⟩)]) := HC8.out.gcell
  obtain ⟨q0, q1, qf0, qf1⟩ := hold_two HO8.out (b := B13) (e := 82) (v0 := .int .i64 (LM : Int)) (v1 := .int .u64 (I3 : Int)) (by simp)
  obtain ⟨x0, x1, xf0, xf1⟩ := hold_two HO8.out (b := B15) (e := 192) (v0 := .int .i64 (Wid.fh XL)) (v1 := .int .u64 (Wid.fl XL)) (by simp)
  obtain ⟨-, gf⟩ := gk_of HO8.out (B0 := B0) (kb := kb) (ab := ab) (N := N) (hv := hv1) (ls := ls0) (b := b0) (by simp)
  have HGD := Lib.hid (ct_far (w := w) HCT.out HDIS.out gf)
  have HB8 := Lib.hid (Nat.le_trans HB0.out HO8.out.1.size)
  have h15 : B15 ≠ B11 := box_ne (fs := []) (ms := [_, _]) HO8.out
  have h13 : B13 ≠ B11 := box_ne (fs := [_]) (ms := [_]) HO8.out
  clear gf qf0 qf1 xf0 xf1
  go_cut [38] (fun s38 wx => ∃ hv2 : Array Value, Hold (gkF kb ab hv) w wx ([boxT B15 192 #[.int .i64 (Wid.fh XL), .int .u64 (Wid.fl XL)], boxT B13 82 #[.int .i64 (LM : Int), .int .u64 (I3 : Int)], boxT B12 82 #[.int .i64 (LM : Int), .int .u64 (I2 : Int)]] ++ [boxT B11 192 #[.int .i64 SH, .int .u64 SL], boxT B8 192 #[.int .i64 0, .int .u64 0], boxT B7 82 #[.int .i64 (LV : Int), .int .u64 (i : Int)], gkT B0 kb ab N hv2 ls1 b1]))
  case first =>
    go_region_held3 (fun w' => w'.cell? ⟨B15, 0, none⟩ = some (.int .i64 (Wid.fh XL)) ∧ w'.cell? ⟨B15, 1, none⟩ = some (.int .u64 (Wid.fl XL)) ∧ w'.cell? ⟨gb, 0, none⟩ = some (.func (.func 97) #[] #[.pointer (some ⟨tb, 0, none⟩), .pointer (some ⟨bb, 0, none⟩), .pointer (some ⟨gb, 0, none⟩), .pointer (some ⟨ab, 0, none⟩), .pointer (some ⟨lb, 0, none⟩), .pointer (some ⟨sb, 0, none⟩)]) ∧ w'.cell? ⟨B13, 0, none⟩ = some (.int .i64 (LM : Int)) ∧ w'.cell? ⟨B13, 1, none⟩ = some (.int .u64 (I3 : Int))) (first | (refine ⟨?_, ?_, ?_, ?_, ?_⟩ <;> (first | (with_reducible assumption) | (exact cell_far (cell_far y0 h15) h15) | (exact cell_far (cell_far y1 h15) h15) | (exact cell_far (cell_far y2 hgB) hgB) | (exact cell_far (cell_far y3 h13) h13) | (exact cell_far (cell_far y4 h13) h13) | (with_reducible refine cell_up x0 ?_) | (with_reducible refine cell_up x1 ?_) | (with_reducible refine cell_up c3 ?_) | (with_reducible refine cell_up q0 ?_) | (with_reducible refine cell_up q1 ?_) | skip) <;> (repeat' (first | (with_reducible first | exact Below.refl _ _ | assumption | refine below_over ?_ _ _ | refine Lw.below_alloc ?_ _ | refine Below.drew ?_ | refine below_drewN ?_ _ | refine Below.setCell ?_ ?_ _) | go_size)))) (first
      | (go_at_call 97; (with_reducible refine (HQR.out hv1 _ (HC8.out.up (by (repeat' (first | (with_reducible first | exact Below.refl _ _ | assumption | refine below_over ?_ _ _ | refine Lw.below_alloc ?_ _ | refine Below.drew ?_ | refine below_drewN ?_ _ | refine Below.setCell ?_ ?_ _) | go_size)))) (gk_of (HO8.out.up (by (repeat' (first | (with_reducible first | exact Below.refl _ _ | assumption | refine below_over ?_ _ _ | refine Lw.below_alloc ?_ _ | refine Below.drew ?_ | refine below_drewN ?_ _ | refine Below.setCell ?_ ?_ _) | go_size)))) (by simp)).1 HGD.out (hb_up HB8.out (by (repeat' (first | (with_reducible first | exact Below.refl _ _ | assumption | refine below_over ?_ _ _ | refine Lw.below_alloc ?_ _ | refine Below.drew ?_ | refine below_drewN ?_ _ | refine Below.setCell ?_ ?_ _) | go_size))))).mono ?_); rintro e w9 ⟨hv2, rfl, hg9, hk9, hF9⟩; have HO9 := Lib.hid (gk_turn (fs := [_, _, _, _, _, _]) (HO8.out.up (by (repeat' (first | (with_reducible first | exact Below.refl _ _ | assumption | refine below_over ?_ _ _ | refine Lw.below_alloc ?_ _ | refine Below.drew ?_ | refine below_drewN ?_ _ | refine Below.setCell ?_ ?_ _) | go_size)))) hg9 hk9 hF9); clear hg9 hk9 hF9; obtain ⟨y0, y1, -, -⟩ := hold_two HO9.out (b := B15) (e := 192) (v0 := .int .i64 (Wid.fh XL)) (v1 := .int .u64 (Wid.fl XL)) (by simp); have y2 : w9.cell? ⟨gb, 0, none⟩ = some (.func (.func 97) #[] #[.pointer (some ⟨tb, 0, none⟩), .pointer (some ⟨bb, 0, none⟩), .pointer (some ⟨gb, 0, none⟩), .pointer (some ⟨ab, 0, none⟩), .pointer (some ⟨lb, 0, none⟩), .pointer (some ⟨sb, 0, none⟩)]) := (ct_at HCT.out HDIS.out HO9.out).gcell; obtain ⟨y3, y4, -, -⟩ := hold_two HO9.out (b := B13) (e := 82) (v0 := .int .i64 (LM : Int)) (v1 := .int .u64 (I3 : Int)) (by simp))
      | (go_at_call 98; (with_reducible refine (HADD0.out _).mono ?_); rintro e w10 ⟨rfl, hb⟩; have HO10 := Lib.hid (HO9.out.up hb); clear hb y0 y1 y2 y3 y4; obtain ⟨y0, y1, -, -⟩ := hold_two HO10.out (b := B15) (e := 192) (v0 := .int .i64 (Wid.fh XL)) (v1 := .int .u64 (Wid.fl XL)) (by simp); have y2 : w10.cell? ⟨gb, 0, none⟩ = some (.func (.func 97) #[] #[.pointer (some ⟨tb, 0, none⟩), .pointer (some ⟨bb, 0, none⟩), .pointer (some ⟨gb, 0, none⟩), .pointer (some ⟨ab, 0, none⟩), .pointer (some ⟨lb, 0, none⟩), .pointer (some ⟨sb, 0, none⟩)]) := (ct_at HCT.out HDIS.out HO10.out).gcell; obtain ⟨y3, y4, -, -⟩ := hold_two HO10.out (b := B13) (e := 82) (v0 := .int .i64 (LM : Int)) (v1 := .int .u64 (I3 : Int)) (by simp); obtain ⟨t0, t1, t2, t3⟩ := hold_two HO10.out (b := B11) (e := 192) (v0 := .int .i64 0) (v1 := .int .u64 0) (by simp)))
    all_goals go_wp2_with fail
    all_goals go_meet
    all_goals exact ⟨_, put_two (fs := [_, _, _]) HO10.out (.int .i64 SH) (.int .u64 SL)⟩
  case rest =>
  obtain ⟨hv2, hq⟩ := hcut
  have HOT := Lib.hid hq
  clear hq c3 q0 q1 x0 x1 HGD HB8 HC8 h15 h13
  obtain ⟨s0, s1, -, -⟩ := hold_two HOT.out (b := B11) (e := 192) (v0 := .int .i64 SH) (v1 := .int .u64 SL) (by simp)
  go_upto_region 10 with (go_at_call 99; (with_reducible refine (HWO.out _).mono ?_); rintro e w9 ⟨rfl, hb⟩; have HO9 := Lib.hid (HOT.out.up hb); clear hb)
  clear s0 s1
  obtain ⟨g1, g2⟩ := gk_of HO9.out (B0 := B0) (kb := kb) (ab := ab) (N := N) (hv := hv2) (ls := ls1) (b := b1) (by simp)
  have a0 := box_cell (w := w9) (b := ab) (e := 4) (vs := #[.bool b1]) g1.flag (i := 0) rfl
  have a1 := Qnt.blk_frozen g1.flag 0
  clear g1 g2
  go_cut [55] (fun s55 wx => wx = w9.setCell ⟨ab, 0, none⟩ (.bool (b1 && FT)))
  case first =>
    rcases Bool.eq_false_or_eq_true (b1) with hbx | hbx
    · have HBX := Lib.hid hbx
      rw [hbx] at a0
      clear hbx
      go_wp2_with fail
      go_meet
      rw [HBX.out]
      rfl
    · have HBX := Lib.hid hbx
      rw [hbx] at a0
      clear hbx
      go_wp2_with fail
      go_meet
      rw [HBX.out]
      rfl
  case rest =>
    obtain ⟨wo, hwo0⟩ : ∃ wo, wo = wc := ⟨_, rfl⟩
    rw [← hwo0] at hcut ⊢
    clear hwo0
    have HO10 : Hid (Hold (gkF kb ab hv) w wo ([boxT B15 192 #[.int .i64 (Wid.fh XL), .int .u64 (Wid.fl XL)], boxT B13 82 #[.int .i64 (LM : Int), .int .u64 (I3 : Int)], boxT B12 82 #[.int .i64 (LM : Int), .int .u64 (I2 : Int)]] ++ [boxT B11 192 #[.int .i64 SH, .int .u64 SL], boxT B8 192 #[.int .i64 0, .int .u64 0], boxT B7 82 #[.int .i64 (LV : Int), .int .u64 (i : Int)], gkT B0 kb ab N hv2 ls1 (b1 && FT)])) := Lib.hid (by rw [hcut]; exact flag_put (fs := [boxT B15 192 #[.int .i64 (Wid.fh XL), .int .u64 (Wid.fl XL)], boxT B13 82 #[.int .i64 (LM : Int), .int .u64 (I3 : Int)], boxT B12 82 #[.int .i64 (LM : Int), .int .u64 (I2 : Int)]] ++ [_, _, _]) HO9.out (b1 && FT))
    clear hcut a0 a1 HO9 HOT HWO
    obtain ⟨b2, hb2⟩ : ∃ b2, (b1 && FT) = b2 := ⟨_, rfl⟩
    rw [hb2] at HO10
    have HB2 := Lib.hid hb2
    clear hb2
    have HC10 := Lib.hid (ct_at HCT.out HDIS.out HO10.out)
    have c5 := HC10.out.lcell
    by_cases hr : R < least
    · have g0 : decide (R < least) = true := decide_eq_true hr
      obtain ⟨s0, s1, -, -⟩ := hold_two HO10.out (b := B11) (e := 192) (v0 := .int .i64 SH) (v1 := .int .u64 SL) (by simp)
      obtain ⟨z0, z1, z2, z3⟩ := hold_two HO10.out (b := B8) (e := 192) (v0 := .int .i64 0) (v1 := .int .u64 0) (by simp)
      have HLS := Lib.hid (HFN.out  (by omega))
      go_wp2
      have HOE : Hid (Hold (gkF kb ab hv) w ((wo.setCell ⟨B8, 0, none⟩ (.int .i64 SH)).setCell ⟨B8, 1, none⟩ (.int .u64 SL)) ([boxT B15 192 #[.int .i64 (Wid.fh XL), .int .u64 (Wid.fl XL)], boxT B13 82 #[.int .i64 (LM : Int), .int .u64 (I3 : Int)], boxT B12 82 #[.int .i64 (LM : Int), .int .u64 (I2 : Int)]] ++ [boxT B11 192 #[.int .i64 SH, .int .u64 SL], boxT B8 192 #[.int .i64 SH, .int .u64 SL], boxT B7 82 #[.int .i64 (LV : Int), .int .u64 (i : Int)], gkT B0 kb ab N hv2 ls1 b2])) := Lib.hid (put_two (fs := [boxT B15 192 #[.int .i64 (Wid.fh XL), .int .u64 (Wid.fl XL)], boxT B13 82 #[.int .i64 (LM : Int), .int .u64 (I3 : Int)], boxT B12 82 #[.int .i64 (LM : Int), .int .u64 (I2 : Int)]] ++ [_]) HO10.out (.int .i64 SH) (.int .u64 SL))
      obtain ⟨we, hwe⟩ : ∃ we, (wo.setCell ⟨B8, 0, none⟩ (.int .i64 SH)).setCell ⟨B8, 1, none⟩ (.int .u64 SL) = we := ⟨_, rfl⟩
      rw [hwe] at HOE ⊢
      obtain ⟨v0, v1, -, -⟩ := hold_two HOE.out (b := B8) (e := 192) (v0 := .int .i64 SH) (v1 := .int .u64 SL) (by simp)
      refine bodyPost_ret (v := .agg #[.int .i64 SH, .int .u64 SL]) (by simp [results, Tryz.results97, go_sem, v0, v1]) rfl ?_
      obtain ⟨g1, g2⟩ := gk_of HOE.out (B0 := B0) (kb := kb) (ab := ab) (N := N) (hv := hv2) (ls := ls1) (b := b2) (by simp)
      exact ⟨by (try rw [if_pos hr]); rw [HSHL.out.1, HSHL.out.2], hv2, by rw [HLS.out, HBB.out, HB2.out]; exact g1, HOE.out.1, fun k hk => (g2 k hk).imp id (fun h => by omega)⟩
    · have g0 : decide (R < least) = false := decide_eq_false hr
      have HLS := Lib.hid (HFY.out  (by omega))
      obtain ⟨p0, p1, -, -⟩ := hold_two HO10.out (b := B7) (e := 82) (v0 := .int .i64 (LV : Int)) (v1 := .int .u64 (i : Int)) (by simp)
      have c6 := HC10.out.scell
      obtain ⟨hgk, hgf⟩ := gk_of HO10.out (B0 := B0) (kb := kb) (ab := ab) (N := N) (hv := hv2) (ls := ls1) (b := b2) (by simp)
      obtain ⟨v, hv_⟩ : ∃ v, hv2[LV]? = some v := ⟨_, Array.getElem?_eq_getElem (by rw [hgk.size]; exact HLN.out.1)⟩
      have ho := hgk.own _ _ hv_
      obtain ⟨n0, hn0⟩ : ∃ n, (ls1 LV).length = n := ⟨_, rfl⟩
      rw [hn0] at ho
      obtain ⟨-, A0, cap0, rfl⟩ := own_formK ho
      have hn4 : n0 ≤ 4096 := by rw [← hn0]; exact HLEN.out
      have k0 := box_cell (w := wo) (b := kb) hgk.row hv_
      have HKR := Lib.hid hgk.row
      have k1 : ∀ o : Obj, (wo.alloc o).cell? ⟨kb, LV, none⟩ = some (.slice A0 n0 cap0) := fun o => cell_up k0 (Lw.below_alloc (Below.refl _ _) o)
      have k2 : ∀ o : Obj, ((wo.alloc o).drew).cell? ⟨kb, LV, none⟩ = some (.slice A0 n0 cap0) := fun o => cell_up k0 (Below.drew (Lw.below_alloc (Below.refl _ _) o))
      have k3 : (wo.drew).cell? ⟨kb, LV, none⟩ = some (.slice A0 n0 cap0) := cell_up k0 (Below.drew (Below.refl _ _))
      have HOWN := Lib.hid ho
      have HN0 := Lib.hid hn0
      have HHV := Lib.hid hv_
      have HNS : Hid ((.slice A0 n0 cap0 : Value).ownBlock ≠ some sb) := Lib.hid (fun e => ct_far (w := w) HCT.out HDIS.out hgf sb (by unfold ctF; simp) (.inr (.inr ⟨_, _, hv_, e⟩)))
      have HN7 : Hid ((.slice A0 n0 cap0 : Value).ownBlock ≠ some B7) := Lib.hid (fun e => last_apart (fs := [boxT B15 192 #[.int .i64 (Wid.fh XL), .int .u64 (Wid.fl XL)], boxT B13 82 #[.int .i64 (LM : Int), .int .u64 (I3 : Int)], boxT B12 82 #[.int .i64 (LM : Int), .int .u64 (I2 : Int)]] ++ [_, _]) HO10.out (show gkF kb ab hv2 B7 from .inr (.inr ⟨_, _, hv_, e⟩)))
      have HNK : Hid ((.slice A0 n0 cap0 : Value).ownBlock ≠ some kb) := Lib.hid (fun e => by have h5 := own_ge ho _ e; have h6 := hgk.far.1; omega)
      have hsk : sb ≠ kb := fun e => HDIS.out sb (by unfold ctF; simp) (.inl e)
      have h7k : B7 ≠ kb := fun e => last_apart (fs := [boxT B15 192 #[.int .i64 (Wid.fh XL), .int .u64 (Wid.fl XL)], boxT B13 82 #[.int .i64 (LM : Int), .int .u64 (I3 : Int)], boxT B12 82 #[.int .i64 (LM : Int), .int .u64 (I2 : Int)]] ++ [_, _]) HO10.out (show gkF kb ab hv2 B7 from .inl e)
      have HBS : Hid (B0 ≤ wo.heap.size) := Lib.hid (Nat.le_trans HB0.out HO10.out.1.size)
      obtain ⟨j0, hj_, hy0, hy1, hy2⟩ := info_parts rs_info
      have l0 : (0 : Int) ≤ (LV : Int) := HLN.out.2.1
      have l1 : (LV : Int) < (N : Int) := HLN.out.2.2
      have l2 : LV < N := HLN.out.1
      clear hgk hgf hv_ ho hn0
      go_upto_region 13 with fail
      go_cut [73] (fun s73 wx => ∃ hv2 : Array Value, Hold (gkF kb ab hv) w wx ([boxT B15 192 #[.int .i64 (Wid.fh XL), .int .u64 (Wid.fl XL)], boxT B13 82 #[.int .i64 (LM : Int), .int .u64 (I3 : Int)], boxT B12 82 #[.int .i64 (LM : Int), .int .u64 (I2 : Int)]] ++ [boxT B11 192 #[.int .i64 SH, .int .u64 SL], boxT B8 192 #[.int .i64 0, .int .u64 0], boxT B7 82 #[.int .i64 (LV : Int), .int .u64 (i : Int)], gkT B0 kb ab N hv2 (putK ls1 LV ((LV, i), n, R)) b2]))
      case first =>
        refine wp_region_held_drew (S := (fun w' => w'.cell? ⟨sb, 0, none⟩ = some (.slice (some ⟨kb, 0, none⟩) N N) ∧ w'.cell? ⟨B7, 0, none⟩ = some (.int .i64 (LV : Int)) ∧ w'.cell? ⟨B7, 1, none⟩ = some (.int .u64 (i : Int)))) (by kernel_rfl) ⟨cell_up c6 (by (repeat' (first | (with_reducible first | exact Below.refl _ _ | assumption | refine below_over ?_ _ _ | refine Lw.below_alloc ?_ _ | refine Below.drew ?_ | refine below_drewN ?_ _ | refine Below.setCell ?_ ?_ _) | go_size))), cell_up p0 (by (repeat' (first | (with_reducible first | exact Below.refl _ _ | assumption | refine below_over ?_ _ _ | refine Lw.below_alloc ?_ _ | refine Below.drew ?_ | refine below_drewN ?_ _ | refine Below.setCell ?_ ?_ _) | go_size))), cell_up p1 (by (repeat' (first | (with_reducible first | exact Below.refl _ _ | assumption | refine below_over ?_ _ _ | refine Lw.below_alloc ?_ _ | refine Below.drew ?_ | refine below_drewN ?_ _ | refine Below.setCell ?_ ?_ _) | go_size)))⟩ (fun hHeld => ?_)
        refine wpAnyH_take (i := 0) (v := ?_) rfl (by kernel_rfl) (by kernel_rfl) (by kernel_rfl) (fun _ _ _ h => h) (Or.inl ⟨by rfl, ?_⟩) hHeld ?_
        rotate_left
        · intro w hSw; (try dsimp only at hSw); go_simp; (try with_reducible rfl)
        (try simp only [List.getElem_toArray, List.getElem_cons_zero, List.getElem_cons_succ, Act.put, List.setIfInBounds_toArray, List.set_cons_zero, List.set_cons_succ])
        refine wpAnyH_take (i := 1) (v := ?_) rfl (by kernel_rfl) (by kernel_rfl) (by kernel_rfl) (fun _ _ _ h => h) (Or.inl ⟨by rfl, ?_⟩) hHeld ?_
        rotate_left
        · intro w hSw; (try dsimp only at hSw); go_simp; (try with_reducible rfl)
        (try simp only [List.getElem_toArray, List.getElem_cons_zero, List.getElem_cons_succ, Act.put, List.setIfInBounds_toArray, List.set_cons_zero, List.set_cons_succ])
        refine wpAnyH_take (i := 2) (v := ?_) rfl (by kernel_rfl) (by kernel_rfl) (by kernel_rfl) (fun _ _ _ h => h) (Or.inl ⟨by rfl, ?_⟩) hHeld ?_
        rotate_left
        · intro w hSw; (try dsimp only at hSw); go_simp; (try with_reducible rfl)
        (try simp only [List.getElem_toArray, List.getElem_cons_zero, List.getElem_cons_succ, Act.put, List.setIfInBounds_toArray, List.set_cons_zero, List.set_cons_succ])
        refine wpAnyH_take (i := 3) (v := ?_) rfl (by kernel_rfl) (by kernel_rfl) (by kernel_rfl) (fun _ _ _ h => h) (Or.inl ⟨by rfl, ?_⟩) hHeld ?_
        rotate_left
        · intro w hSw; (try dsimp only at hSw); go_simp; (try with_reducible rfl)
        (try simp only [List.getElem_toArray, List.getElem_cons_zero, List.getElem_cons_succ, Act.put, List.setIfInBounds_toArray, List.set_cons_zero, List.set_cons_succ])
        refine wpAnyH_take (i := 4) (v := ?_) rfl (by kernel_rfl) (by kernel_rfl) (by kernel_rfl) (fun _ _ _ h => h) (Or.inl ⟨by rfl, ?_⟩) hHeld ?_
        rotate_left
        · intro w hSw; (try dsimp only at hSw); go_simp; (try with_reducible rfl)
        (try simp only [List.getElem_toArray, List.getElem_cons_zero, List.getElem_cons_succ, Act.put, List.setIfInBounds_toArray, List.set_cons_zero, List.set_cons_succ])
        refine wpAnyH_take (i := 5) (v := ?_) rfl (by kernel_rfl) (by kernel_rfl) (by kernel_rfl) (fun _ _ _ h => h) (Or.inl ⟨by rfl, ?_⟩) hHeld ?_
        rotate_left
        · intro w hSw; (try dsimp only at hSw); go_simp; (try with_reducible rfl)
        (try simp only [List.getElem_toArray, List.getElem_cons_zero, List.getElem_cons_succ, Act.put, List.setIfInBounds_toArray, List.set_cons_zero, List.set_cons_succ])
        refine wpAnyH_take (i := 6) (v := ?_) rfl (by kernel_rfl) (by kernel_rfl) (by kernel_rfl) (fun _ _ _ h => h) (Or.inl ⟨by rfl, ?_⟩) hHeld ?_
        rotate_left
        · intro w hSw; (try dsimp only at hSw); go_simp; (try with_reducible rfl)
        (try simp only [List.getElem_toArray, List.getElem_cons_zero, List.getElem_cons_succ, Act.put, List.setIfInBounds_toArray, List.set_cons_zero, List.set_cons_succ])
        refine wpAnyH_take (i := 8) (v := ?_) rfl (by kernel_rfl) (by kernel_rfl) (by kernel_rfl) (fun _ _ _ h => h) (Or.inl ⟨by rfl, ?_⟩) hHeld ?_
        rotate_left
        · intro w hSw; (try dsimp only at hSw); go_simp; (try with_reducible rfl)
        (try simp only [List.getElem_toArray, List.getElem_cons_zero, List.getElem_cons_succ, Act.put, List.setIfInBounds_toArray, List.set_cons_zero, List.set_cons_succ])
        refine wpAnyH_take (i := 9) (v := ?_) rfl (by kernel_rfl) (by kernel_rfl) (by kernel_rfl) (fun _ _ _ h => h) (Or.inl ⟨by rfl, ?_⟩) hHeld ?_
        rotate_left
        · intro w hSw; (try dsimp only at hSw); go_simp; (try with_reducible rfl)
        (try simp only [List.getElem_toArray, List.getElem_cons_zero, List.getElem_cons_succ, Act.put, List.setIfInBounds_toArray, List.set_cons_zero, List.set_cons_succ])
        refine wpAnyH_take (i := 10) (v := ?_) rfl (by kernel_rfl) (by kernel_rfl) (by kernel_rfl) (fun _ _ _ h => h) (Or.inl ⟨by rfl, ?_⟩) hHeld ?_
        rotate_left
        · intro w hSw; (try dsimp only at hSw); go_simp; (try with_reducible rfl)
        (try simp only [List.getElem_toArray, List.getElem_cons_zero, List.getElem_cons_succ, Act.put, List.setIfInBounds_toArray, List.set_cons_zero, List.set_cons_succ])
        refine wpAnyH_take (i := 11) (v := ?_) rfl (by kernel_rfl) (by kernel_rfl) (by kernel_rfl) (fun _ _ _ h => h) (Or.inl ⟨by rfl, ?_⟩) hHeld ?_
        rotate_left
        · intro w hSw; (try dsimp only at hSw); go_simp; (try with_reducible rfl)
        (try simp only [List.getElem_toArray, List.getElem_cons_zero, List.getElem_cons_succ, Act.put, List.setIfInBounds_toArray, List.set_cons_zero, List.set_cons_succ])
        refine wpAnyH_ready (rs := [7, 12]) (by kernel_rfl) (by simp) ?_
        refine AllReadyH.cons rfl (fun K hK => ?_) (AllReadyH.cons rfl (fun K hK => ?_) AllReadyH.nil)
        · go_simp
          refine hK.out _ _ hHeld (fun hHeld => ?_)
          clear hK K
          (try simp only [List.getElem_toArray, List.getElem_cons_zero, List.getElem_cons_succ, Act.put, List.setIfInBounds_toArray, List.set_cons_zero, List.set_cons_succ])
          refine wpAnyH_ready (rs := [12]) (by kernel_rfl) (by simp) ?_
          refine AllReadyH.cons rfl (fun K hK => ?_) AllReadyH.nil
          go_simp
          refine hK.out _ _ ⟨cell_up c6 (by (repeat' (first | (with_reducible first | exact Below.refl _ _ | assumption | refine below_over ?_ _ _ | refine Lw.below_alloc ?_ _ | refine Below.drew ?_ | refine below_drewN ?_ _ | refine Below.setCell ?_ ?_ _) | go_size))), cell_up p0 (by (repeat' (first | (with_reducible first | exact Below.refl _ _ | assumption | refine below_over ?_ _ _ | refine Lw.below_alloc ?_ _ | refine Below.drew ?_ | refine below_drewN ?_ _ | refine Below.setCell ?_ ?_ _) | go_size))), cell_up p1 (by (repeat' (first | (with_reducible first | exact Below.refl _ _ | assumption | refine below_over ?_ _ _ | refine Lw.below_alloc ?_ _ | refine Below.drew ?_ | refine below_drewN ?_ _ | refine Below.setCell ?_ ?_ _) | go_size)))⟩ (fun hHeld => ?_)
          clear hK K
          (try simp only [List.getElem_toArray, List.getElem_cons_zero, List.getElem_cons_succ, Act.put, List.setIfInBounds_toArray, List.set_cons_zero, List.set_cons_succ])
          refine wpAnyH_ready (rs := [13]) (by kernel_rfl) (by simp) ?_
          refine AllReadyH.cons rfl (fun K hK => ?_) AllReadyH.nil
          (refine step_append_lies _ (by rfl) _ _ 45 (by rfl) B0 101 j0 (.agg #[.int .i64 0, .int .u64 0, .int .i64 0, .int .i64 0]) 4 32 rss_u hj_ hy0 hy1 hy2 (by rfl) (by decide) (.slice A0 n0 cap0) n0 ((ls1 LV).flatMap encR) (by rfl) ((Kept.of_below (F := fun _ => False) (by (repeat' (first | (with_reducible first | exact Below.refl _ _ | assumption | refine below_over ?_ _ _ | refine Lw.below_alloc ?_ _ | refine Below.drew ?_ | refine below_drewN ?_ _ | refine Below.setCell ?_ ?_ _) | go_size)))).own HOWN.out (fun _ _ h => h)) ⟨_, 0, none⟩ 1 1 [.int .i64 (LV : Int), .int .u64 (i : Int), .int .i64 n, .int .i64 R] (by rfl) (by rfl) (World.news_of_block (heap_alloc_new _ _)) (enc_oneK _ _ _ _) (by decide) (by unfold maxLen; omega) (by omega) (by have := HBS.out; simp; omega) _ (by rfl) ?_; intro g7 cap7 w7 hown7 hgrow7 hat7 hlt7; have HOX := Lib.hid (up_to HO10.out hgrow7 (by (repeat' (first | (with_reducible first | exact Below.refl _ _ | assumption | refine below_over ?_ _ _ | refine Lw.below_alloc ?_ _ | refine Below.drew ?_ | refine below_drewN ?_ _ | refine Below.setCell ?_ ?_ _) | go_size)))); have x6 := hgrow7.cell (cell_up c6 (by (repeat' (first | (with_reducible first | exact Below.refl _ _ | assumption | refine below_over ?_ _ _ | refine Lw.below_alloc ?_ _ | refine Below.drew ?_ | refine below_drewN ?_ _ | refine Below.setCell ?_ ?_ _) | go_size)))) (fun e => HNS.out e.symm); have x0 := hgrow7.cell (cell_up p0 (by (repeat' (first | (with_reducible first | exact Below.refl _ _ | assumption | refine below_over ?_ _ _ | refine Lw.below_alloc ?_ _ | refine Below.drew ?_ | refine below_drewN ?_ _ | refine Below.setCell ?_ ?_ _) | go_size)))) (fun e => HN7.out e.symm); have x1 := hgrow7.cell (cell_up p1 (by (repeat' (first | (with_reducible first | exact Below.refl _ _ | assumption | refine below_over ?_ _ _ | refine Lw.below_alloc ?_ _ | refine Below.drew ?_ | refine below_drewN ?_ _ | refine Below.setCell ?_ ?_ _) | go_size)))) (fun e => HN7.out e.symm); have xk := hgrow7.cell (cell_up k0 (by (repeat' (first | (with_reducible first | exact Below.refl _ _ | assumption | refine below_over ?_ _ _ | refine Lw.below_alloc ?_ _ | refine Below.drew ?_ | refine below_drewN ?_ _ | refine Below.setCell ?_ ?_ _) | go_size)))) (fun e => HNK.out e.symm); have xf := Qnt.blk_frozen (row_grown hgrow7 (Qnt.blk_up HKR.out (by (repeat' (first | (with_reducible first | exact Below.refl _ _ | assumption | refine below_over ?_ _ _ | refine Lw.below_alloc ?_ _ | refine Below.drew ?_ | refine below_drewN ?_ _ | refine Below.setCell ?_ ?_ _) | go_size)))) (fun e => HNK.out e.symm)) LV; have HW7 := Lib.hid hown7; have HG7 := Lib.hid hgrow7; have HA7 := Lib.hid hat7; clear hown7 hgrow7 hat7 hlt7)
          refine hK.out _ _ ⟨x6, x0, x1⟩ (fun hHeld => ?_)
          clear hK K
          (try simp only [List.getElem_toArray, List.getElem_cons_zero, List.getElem_cons_succ, Act.put, List.setIfInBounds_toArray, List.set_cons_zero, List.set_cons_succ])
          refine wpAnyH_take (i := 14) (v := ?_) rfl (by kernel_rfl) (by kernel_rfl) (by kernel_rfl) (fun _ _ _ h => h) (Or.inl ⟨by rfl, ?_⟩) hHeld ?_
          rotate_left
          · intro w hSw; (try dsimp only at hSw); go_simp; (try with_reducible rfl)
          (try simp only [List.getElem_toArray, List.getElem_cons_zero, List.getElem_cons_succ, Act.put, List.setIfInBounds_toArray, List.set_cons_zero, List.set_cons_succ])
          refine wpAnyH_ready (rs := [15]) (by kernel_rfl) (by simp) ?_
          refine AllReadyH.cons rfl (fun K hK => ?_) AllReadyH.nil
          go_simp
          refine hK.out _ _ ⟨cell_far x6 hsk, cell_far x0 h7k, cell_far x1 h7k⟩ (fun hHeld => ?_)
          clear hK K
          (try simp only [List.getElem_toArray, List.getElem_cons_zero, List.getElem_cons_succ, Act.put, List.setIfInBounds_toArray, List.set_cons_zero, List.set_cons_succ])
          refine wpAnyH_done (by kernel_rfl) ?_ _
          (try go_wp2_with fail)
          go_meet
          exact ⟨_, gk_app (fs := [boxT B15 192 #[.int .i64 (Wid.fh XL), .int .u64 (Wid.fl XL)], boxT B13 82 #[.int .i64 (LM : Int), .int .u64 (I3 : Int)], boxT B12 82 #[.int .i64 (LM : Int), .int .u64 (I2 : Int)]] ++ [_, _, _]) HOX.out HHV.out HN0.out (x := ((LV, i), n, R)) HW7.out HG7.out HA7.out⟩
        · go_simp
          refine hK.out _ _ ⟨cell_up c6 (by (repeat' (first | (with_reducible first | exact Below.refl _ _ | assumption | refine below_over ?_ _ _ | refine Lw.below_alloc ?_ _ | refine Below.drew ?_ | refine below_drewN ?_ _ | refine Below.setCell ?_ ?_ _) | go_size))), cell_up p0 (by (repeat' (first | (with_reducible first | exact Below.refl _ _ | assumption | refine below_over ?_ _ _ | refine Lw.below_alloc ?_ _ | refine Below.drew ?_ | refine below_drewN ?_ _ | refine Below.setCell ?_ ?_ _) | go_size))), cell_up p1 (by (repeat' (first | (with_reducible first | exact Below.refl _ _ | assumption | refine below_over ?_ _ _ | refine Lw.below_alloc ?_ _ | refine Below.drew ?_ | refine below_drewN ?_ _ | refine Below.setCell ?_ ?_ _) | go_size)))⟩ (fun hHeld => ?_)
          clear hK K
          (try simp only [List.getElem_toArray, List.getElem_cons_zero, List.getElem_cons_succ, Act.put, List.setIfInBounds_toArray, List.set_cons_zero, List.set_cons_succ])
          refine wpAnyH_ready (rs := [7]) (by kernel_rfl) (by simp) ?_
          refine AllReadyH.cons rfl (fun K hK => ?_) AllReadyH.nil
          go_simp
          refine hK.out _ _ hHeld (fun hHeld => ?_)
          clear hK K
          (try simp only [List.getElem_toArray, List.getElem_cons_zero, List.getElem_cons_succ, Act.put, List.setIfInBounds_toArray, List.set_cons_zero, List.set_cons_succ])
          refine wpAnyH_ready (rs := [13]) (by kernel_rfl) (by simp) ?_
          refine AllReadyH.cons rfl (fun K hK => ?_) AllReadyH.nil
          (refine step_append_lies _ (by rfl) _ _ 45 (by rfl) B0 101 j0 (.agg #[.int .i64 0, .int .u64 0, .int .i64 0, .int .i64 0]) 4 32 rss_u hj_ hy0 hy1 hy2 (by rfl) (by decide) (.slice A0 n0 cap0) n0 ((ls1 LV).flatMap encR) (by rfl) ((Kept.of_below (F := fun _ => False) (by (repeat' (first | (with_reducible first | exact Below.refl _ _ | assumption | refine below_over ?_ _ _ | refine Lw.below_alloc ?_ _ | refine Below.drew ?_ | refine below_drewN ?_ _ | refine Below.setCell ?_ ?_ _) | go_size)))).own HOWN.out (fun _ _ h => h)) ⟨_, 0, none⟩ 1 1 [.int .i64 (LV : Int), .int .u64 (i : Int), .int .i64 n, .int .i64 R] (by rfl) (by rfl) (World.news_of_block (heap_alloc_new _ _)) (enc_oneK _ _ _ _) (by decide) (by unfold maxLen; omega) (by omega) (by have := HBS.out; simp; omega) _ (by rfl) ?_; intro g7 cap7 w7 hown7 hgrow7 hat7 hlt7; have HOX := Lib.hid (up_to HO10.out hgrow7 (by (repeat' (first | (with_reducible first | exact Below.refl _ _ | assumption | refine below_over ?_ _ _ | refine Lw.below_alloc ?_ _ | refine Below.drew ?_ | refine below_drewN ?_ _ | refine Below.setCell ?_ ?_ _) | go_size)))); have x6 := hgrow7.cell (cell_up c6 (by (repeat' (first | (with_reducible first | exact Below.refl _ _ | assumption | refine below_over ?_ _ _ | refine Lw.below_alloc ?_ _ | refine Below.drew ?_ | refine below_drewN ?_ _ | refine Below.setCell ?_ ?_ _) | go_size)))) (fun e => HNS.out e.symm); have x0 := hgrow7.cell (cell_up p0 (by (repeat' (first | (with_reducible first | exact Below.refl _ _ | assumption | refine below_over ?_ _ _ | refine Lw.below_alloc ?_ _ | refine Below.drew ?_ | refine below_drewN ?_ _ | refine Below.setCell ?_ ?_ _) | go_size)))) (fun e => HN7.out e.symm); have x1 := hgrow7.cell (cell_up p1 (by (repeat' (first | (with_reducible first | exact Below.refl _ _ | assumption | refine below_over ?_ _ _ | refine Lw.below_alloc ?_ _ | refine Below.drew ?_ | refine below_drewN ?_ _ | refine Below.setCell ?_ ?_ _) | go_size)))) (fun e => HN7.out e.symm); have xk := hgrow7.cell (cell_up k0 (by (repeat' (first | (with_reducible first | exact Below.refl _ _ | assumption | refine below_over ?_ _ _ | refine Lw.below_alloc ?_ _ | refine Below.drew ?_ | refine below_drewN ?_ _ | refine Below.setCell ?_ ?_ _) | go_size)))) (fun e => HNK.out e.symm); have xf := Qnt.blk_frozen (row_grown hgrow7 (Qnt.blk_up HKR.out (by (repeat' (first | (with_reducible first | exact Below.refl _ _ | assumption | refine below_over ?_ _ _ | refine Lw.below_alloc ?_ _ | refine Below.drew ?_ | refine below_drewN ?_ _ | refine Below.setCell ?_ ?_ _) | go_size)))) (fun e => HNK.out e.symm)) LV; have HW7 := Lib.hid hown7; have HG7 := Lib.hid hgrow7; have HA7 := Lib.hid hat7; clear hown7 hgrow7 hat7 hlt7)
          refine hK.out _ _ ⟨x6, x0, x1⟩ (fun hHeld => ?_)
          clear hK K
          (try simp only [List.getElem_toArray, List.getElem_cons_zero, List.getElem_cons_succ, Act.put, List.setIfInBounds_toArray, List.set_cons_zero, List.set_cons_succ])
          refine wpAnyH_take (i := 14) (v := ?_) rfl (by kernel_rfl) (by kernel_rfl) (by kernel_rfl) (fun _ _ _ h => h) (Or.inl ⟨by rfl, ?_⟩) hHeld ?_
          rotate_left
          · intro w hSw; (try dsimp only at hSw); go_simp; (try with_reducible rfl)
          (try simp only [List.getElem_toArray, List.getElem_cons_zero, List.getElem_cons_succ, Act.put, List.setIfInBounds_toArray, List.set_cons_zero, List.set_cons_succ])
          refine wpAnyH_ready (rs := [15]) (by kernel_rfl) (by simp) ?_
          refine AllReadyH.cons rfl (fun K hK => ?_) AllReadyH.nil
          go_simp
          refine hK.out _ _ ⟨cell_far x6 hsk, cell_far x0 h7k, cell_far x1 h7k⟩ (fun hHeld => ?_)
          clear hK K
          (try simp only [List.getElem_toArray, List.getElem_cons_zero, List.getElem_cons_succ, Act.put, List.setIfInBounds_toArray, List.set_cons_zero, List.set_cons_succ])
          refine wpAnyH_done (by kernel_rfl) ?_ _
          (try go_wp2_with fail)
          go_meet
          exact ⟨_, gk_app (fs := [boxT B15 192 #[.int .i64 (Wid.fh XL), .int .u64 (Wid.fl XL)], boxT B13 82 #[.int .i64 (LM : Int), .int .u64 (I3 : Int)], boxT B12 82 #[.int .i64 (LM : Int), .int .u64 (I2 : Int)]] ++ [_, _, _]) HOX.out HHV.out HN0.out (x := ((LV, i), n, R)) HW7.out HG7.out HA7.out⟩
      case rest =>
        obtain ⟨hv2, hq⟩ := hcut
        have HO13 := Lib.hid hq
        clear hq p0 p1 c5 c6 k0 k1 k2 k3
        go_wp2_with (go_at_call 100; (with_reducible refine (HOF.out _).mono ?_); rintro e wf ⟨rfl, hb⟩; have HO14 := Lib.hid (HO13.out.up hb); clear hb; obtain ⟨z0, z1, z2, z3⟩ := hold_two HO14.out (b := B8) (e := 192) (v0 := .int .i64 0) (v1 := .int .u64 0) (by simp))
        have HOE : Hid (Hold (gkF kb ab hv) w ((wf.setCell ⟨B8, 0, none⟩ (.int .i64 (Wid.fh n))).setCell ⟨B8, 1, none⟩ (.int .u64 (Wid.fl n))) ([boxT B15 192 #[.int .i64 (Wid.fh XL), .int .u64 (Wid.fl XL)], boxT B13 82 #[.int .i64 (LM : Int), .int .u64 (I3 : Int)], boxT B12 82 #[.int .i64 (LM : Int), .int .u64 (I2 : Int)]] ++ [boxT B11 192 #[.int .i64 SH, .int .u64 SL], boxT B8 192 #[.int .i64 (Wid.fh n), .int .u64 (Wid.fl n)], boxT B7 82 #[.int .i64 (LV : Int), .int .u64 (i : Int)], gkT B0 kb ab N hv2 (putK ls1 LV ((LV, i), n, R)) b2])) := Lib.hid (put_two (fs := [boxT B15 192 #[.int .i64 (Wid.fh XL), .int .u64 (Wid.fl XL)], boxT B13 82 #[.int .i64 (LM : Int), .int .u64 (I3 : Int)], boxT B12 82 #[.int .i64 (LM : Int), .int .u64 (I2 : Int)]] ++ [_]) HO14.out (.int .i64 (Wid.fh n)) (.int .u64 (Wid.fl n)))
        obtain ⟨we, hwe⟩ : ∃ we, (wf.setCell ⟨B8, 0, none⟩ (.int .i64 (Wid.fh n))).setCell ⟨B8, 1, none⟩ (.int .u64 (Wid.fl n)) = we := ⟨_, rfl⟩
        rw [hwe] at HOE ⊢
        obtain ⟨v0, v1, -, -⟩ := hold_two HOE.out (b := B8) (e := 192) (v0 := .int .i64 (Wid.fh n)) (v1 := .int .u64 (Wid.fl n)) (by simp)
        refine bodyPost_ret (v := .agg #[.int .i64 (Wid.fh n), .int .u64 (Wid.fl n)]) (by simp [results, Tryz.results97, go_sem, v0, v1]) rfl ?_
        obtain ⟨g1, g2⟩ := gk_of HOE.out (B0 := B0) (kb := kb) (ab := ab) (N := N) (hv := hv2) (ls := (putK ls1 LV ((LV, i), n, R))) (b := b2) (by simp)
        exact ⟨by first | rfl | rw [if_neg hr], hv2, by rw [HLS.out, HBB.out, HB2.out]; exact g1, HOE.out.1, fun k hk => (g2 k hk).imp id (fun h => by omega)⟩
end Go.Proofs.YtkflggojiiebeaaGreat.Hvy
namespace Go.Proofs.YtkflggojiiebeaaGreat.Hvy
open Go Go.RowKit Go.Maps Lw Grd Lin Con Shp Sk Exa Lev Stk Pcs Spn Qnt
set_option linter.unusedVariables false
set_option linter.unusedSimpArgs false
set_option linter.unusedSimpArgs false
theorem gat_all (tb mb bb gb lb sb kb ab N BB B0 : Nat) (D : DataW Unit) (least : Int) (T : Nat → Nat → Option Int) (hT : ∀ (L i : Nat) (n : Int), T L i = some n → -9223372036854775808 ≤ n ∧ n ≤ 9223372036854775807) (hMT : MapT D T) (hB : BB ≤ 59) (hN : N = BB + 1) : ∀ L, L ≤ BB → ∀ i, i < 2 ^ (BB - L) → GatC tb mb bb gb lb sb kb ab N BB B0 D least T L i := by
  have e59 : (2 : Nat) ^ 59 = 576460752303423488 := rfl
  have hb : ∀ L i, i < 2 ^ (BB - L) → i < 576460752303423488 := fun L i h => by
    have h3 : 2 ^ (BB - L) ≤ 2 ^ 59 := Nat.pow_le_pow_right (by omega) (by omega)
    omega
  intro L
  induction L with
  | zero =>
    intro hL i hi
    cases hn : T 0 i with
    | none => exact gat_none tb mb bb gb lb sb kb ab N BB B0 D least T 0 i hMT hB hL (hb _ _ hi) hn
    | some n => exact gat_0 tb mb bb gb lb sb kb ab N BB B0 D least T i n hMT hB hN (hb _ _ hi) hn (hT _ _ _ hn).1 (hT _ _ _ hn).2
  | succ L ih =>
    intro hL i hi
    cases hn : T (L + 1) i with
    | none => exact gat_none tb mb bb gb lb sb kb ab N BB B0 D least T (L + 1) i hMT hB hL (hb _ _ hi) hn
    | some n => exact gat_S tb mb bb gb lb sb kb ab N BB B0 D least T L i n (fun j hj => ih (by omega) j hj) hT hMT hB hN hL hi hn
end Go.Proofs.YtkflggojiiebeaaGreat.Hvy
