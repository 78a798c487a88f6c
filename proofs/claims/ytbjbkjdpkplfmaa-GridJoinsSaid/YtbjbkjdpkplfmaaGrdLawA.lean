/- What the statements of layer 6 lean on. Printed by wip/gen/grdlaws.py. -/
import Derived.Test.YtbjbkjdpkplfmaaGrdPair
import Derived.Test.YtbjbkjdpkplfmaaGrdDoc
import Derived.Test.YtbjbkjdpkplfmaaGrdPut
import Derived.Test.YtbjbkjdpkplfmaaLaw
import Derived.Deep.LoopGhost
import Derived.Deep.RegionHeld3
import Derived.Deep.DeepCutAuto
import Derived.Deep.QuietTactic
import Derived.BigQuiet
namespace Go.Proofs.Ytbjbkjdpkplfmaa.Grd
open Go Go.RowKit Lw
set_option linter.unusedVariables false
set_option linter.unusedSimpArgs false
theorem pg0 {w0 w : World} {p : Addr} {F : Nat → Prop} {m n : Nat} {L : List (List Int)} {ts : List Thing} (h : Have w0 w (pgT p F m n L :: ts)) : PG w p F m n L := h.1
theorem pg1 {w0 w : World} {t0 : Thing} {p : Addr} {F : Nat → Prop} {m n : Nat} {L : List (List Int)} {ts : List Thing} (h : Have w0 w (t0 :: pgT p F m n L :: ts)) : PG w p F m n L := h.2.2.2.1
theorem pg2 {w0 w : World} {t0 t1 : Thing} {p : Addr} {F : Nat → Prop} {m n : Nat} {L : List (List Int)} {ts : List Thing} (h : Have w0 w (t0 :: t1 :: pgT p F m n L :: ts)) : PG w p F m n L := h.2.2.2.2.2.2.1
theorem pg3 {w0 w : World} {t0 t1 t2 : Thing} {p : Addr} {F : Nat → Prop} {m n : Nat} {L : List (List Int)} {ts : List Thing} (h : Have w0 w (t0 :: t1 :: t2 :: pgT p F m n L :: ts)) : PG w p F m n L := h.2.2.2.2.2.2.2.2.2.1
theorem pg4 {w0 w : World} {t0 t1 t2 t3 : Thing} {p : Addr} {F : Nat → Prop} {m n : Nat} {L : List (List Int)} {ts : List Thing} (h : Have w0 w (t0 :: t1 :: t2 :: t3 :: pgT p F m n L :: ts)) : PG w p F m n L := h.2.2.2.2.2.2.2.2.2.2.2.2.1
theorem pg5 {w0 w : World} {t0 t1 t2 t3 t4 : Thing} {p : Addr} {F : Nat → Prop} {m n : Nat} {L : List (List Int)} {ts : List Thing} (h : Have w0 w (t0 :: t1 :: t2 :: t3 :: t4 :: pgT p F m n L :: ts)) : PG w p F m n L := h.2.2.2.2.2.2.2.2.2.2.2.2.2.2.2.1
theorem dg0 {w0 w : World} {p : Addr} {F : Nat → Prop} {m n : Nat} {L : List (List Int)} {ts : List Thing} (h : Have w0 w (dgT p F m n L :: ts)) : DG w p F m n L := h.1
theorem dg1 {w0 w : World} {t0 : Thing} {p : Addr} {F : Nat → Prop} {m n : Nat} {L : List (List Int)} {ts : List Thing} (h : Have w0 w (t0 :: dgT p F m n L :: ts)) : DG w p F m n L := h.2.2.2.1
theorem dg2 {w0 w : World} {t0 t1 : Thing} {p : Addr} {F : Nat → Prop} {m n : Nat} {L : List (List Int)} {ts : List Thing} (h : Have w0 w (t0 :: t1 :: dgT p F m n L :: ts)) : DG w p F m n L := h.2.2.2.2.2.2.1
theorem dg3 {w0 w : World} {t0 t1 t2 : Thing} {p : Addr} {F : Nat → Prop} {m n : Nat} {L : List (List Int)} {ts : List Thing} (h : Have w0 w (t0 :: t1 :: t2 :: dgT p F m n L :: ts)) : DG w p F m n L := h.2.2.2.2.2.2.2.2.2.1
theorem dg4 {w0 w : World} {t0 t1 t2 t3 : Thing} {p : Addr} {F : Nat → Prop} {m n : Nat} {L : List (List Int)} {ts : List Thing} (h : Have w0 w (t0 :: t1 :: t2 :: t3 :: dgT p F m n L :: ts)) : DG w p F m n L := h.2.2.2.2.2.2.2.2.2.2.2.2.1
theorem dg5 {w0 w : World} {t0 t1 t2 t3 t4 : Thing} {p : Addr} {F : Nat → Prop} {m n : Nat} {L : List (List Int)} {ts : List Thing} (h : Have w0 w (t0 :: t1 :: t2 :: t3 :: t4 :: dgT p F m n L :: ts)) : DG w p F m n L := h.2.2.2.2.2.2.2.2.2.2.2.2.2.2.2.1
theorem rw0 {w0 w : World} {A : Option Addr} {Z : List Int} {ts : List Thing} (h : Have w0 w (rowT A Z :: ts)) : Row1 w A Z := h.1
theorem rw1 {w0 w : World} {t0 : Thing} {A : Option Addr} {Z : List Int} {ts : List Thing} (h : Have w0 w (t0 :: rowT A Z :: ts)) : Row1 w A Z := h.2.2.2.1
theorem rw2 {w0 w : World} {t0 t1 : Thing} {A : Option Addr} {Z : List Int} {ts : List Thing} (h : Have w0 w (t0 :: t1 :: rowT A Z :: ts)) : Row1 w A Z := h.2.2.2.2.2.2.1
theorem rw3 {w0 w : World} {t0 t1 t2 : Thing} {A : Option Addr} {Z : List Int} {ts : List Thing} (h : Have w0 w (t0 :: t1 :: t2 :: rowT A Z :: ts)) : Row1 w A Z := h.2.2.2.2.2.2.2.2.2.1
theorem bx0 {w0 w : World} {b : Nat} {e : TypeId} {vs : Array Value} {ts : List Thing} (h : Have w0 w (boxT b e vs :: ts)) {i : Nat} {v : Value} (hv : vs[i]? = some v) : w.cell? ⟨b, i, none⟩ = some v := box_cell h.1 hv
theorem bx1 {w0 w : World} {t0 : Thing} {b : Nat} {e : TypeId} {vs : Array Value} {ts : List Thing} (h : Have w0 w (t0 :: boxT b e vs :: ts)) {i : Nat} {v : Value} (hv : vs[i]? = some v) : w.cell? ⟨b, i, none⟩ = some v := box_cell h.2.2.2.1 hv
theorem bx2 {w0 w : World} {t0 t1 : Thing} {b : Nat} {e : TypeId} {vs : Array Value} {ts : List Thing} (h : Have w0 w (t0 :: t1 :: boxT b e vs :: ts)) {i : Nat} {v : Value} (hv : vs[i]? = some v) : w.cell? ⟨b, i, none⟩ = some v := box_cell h.2.2.2.2.2.2.1 hv
theorem bx3 {w0 w : World} {t0 t1 t2 : Thing} {b : Nat} {e : TypeId} {vs : Array Value} {ts : List Thing} (h : Have w0 w (t0 :: t1 :: t2 :: boxT b e vs :: ts)) {i : Nat} {v : Value} (hv : vs[i]? = some v) : w.cell? ⟨b, i, none⟩ = some v := box_cell h.2.2.2.2.2.2.2.2.2.1 hv
theorem bx4 {w0 w : World} {t0 t1 t2 t3 : Thing} {b : Nat} {e : TypeId} {vs : Array Value} {ts : List Thing} (h : Have w0 w (t0 :: t1 :: t2 :: t3 :: boxT b e vs :: ts)) {i : Nat} {v : Value} (hv : vs[i]? = some v) : w.cell? ⟨b, i, none⟩ = some v := box_cell h.2.2.2.2.2.2.2.2.2.2.2.2.1 hv
theorem bx5 {w0 w : World} {t0 t1 t2 t3 t4 : Thing} {b : Nat} {e : TypeId} {vs : Array Value} {ts : List Thing} (h : Have w0 w (t0 :: t1 :: t2 :: t3 :: t4 :: boxT b e vs :: ts)) {i : Nat} {v : Value} (hv : vs[i]? = some v) : w.cell? ⟨b, i, none⟩ = some v := box_cell h.2.2.2.2.2.2.2.2.2.2.2.2.2.2.2.1 hv
theorem ap01 {w0 w : World} {p q : Addr} {F G : Nat → Prop} {m n m' n' : Nat} {L M : List (List Int)} {ts : List Thing} (h : Have w0 w (pgT p F m n L :: pgT q G m' n' M :: ts)) : ∀ k, F k → ¬ G k := h.2.2.1 (pgT q G m' n' M) (by simp)
theorem ap10 {w0 w : World} {p q : Addr} {F G : Nat → Prop} {m n m' n' : Nat} {L M : List (List Int)} {ts : List Thing} (h : Have w0 w (pgT p F m n L :: pgT q G m' n' M :: ts)) : ∀ k, G k → ¬ F k := fun k h1 h2 => ap01 h k h2 h1
theorem ap02 {w0 w : World} {t1 : Thing} {p q : Addr} {F G : Nat → Prop} {m n m' n' : Nat} {L M : List (List Int)} {ts : List Thing} (h : Have w0 w (pgT p F m n L :: t1 :: pgT q G m' n' M :: ts)) : ∀ k, F k → ¬ G k := h.2.2.1 (pgT q G m' n' M) (by simp)
theorem ap20 {w0 w : World} {t1 : Thing} {p q : Addr} {F G : Nat → Prop} {m n m' n' : Nat} {L M : List (List Int)} {ts : List Thing} (h : Have w0 w (pgT p F m n L :: t1 :: pgT q G m' n' M :: ts)) : ∀ k, G k → ¬ F k := fun k h1 h2 => ap02 h k h2 h1
theorem ap03 {w0 w : World} {t1 t2 : Thing} {p q : Addr} {F G : Nat → Prop} {m n m' n' : Nat} {L M : List (List Int)} {ts : List Thing} (h : Have w0 w (pgT p F m n L :: t1 :: t2 :: pgT q G m' n' M :: ts)) : ∀ k, F k → ¬ G k := h.2.2.1 (pgT q G m' n' M) (by simp)
theorem ap30 {w0 w : World} {t1 t2 : Thing} {p q : Addr} {F G : Nat → Prop} {m n m' n' : Nat} {L M : List (List Int)} {ts : List Thing} (h : Have w0 w (pgT p F m n L :: t1 :: t2 :: pgT q G m' n' M :: ts)) : ∀ k, G k → ¬ F k := fun k h1 h2 => ap03 h k h2 h1
theorem ap12 {w0 w : World} {t0 : Thing} {p q : Addr} {F G : Nat → Prop} {m n m' n' : Nat} {L M : List (List Int)} {ts : List Thing} (h : Have w0 w (t0 :: pgT p F m n L :: pgT q G m' n' M :: ts)) : ∀ k, F k → ¬ G k := h.2.2.2.2.2.1 (pgT q G m' n' M) (by simp)
theorem ap21 {w0 w : World} {t0 : Thing} {p q : Addr} {F G : Nat → Prop} {m n m' n' : Nat} {L M : List (List Int)} {ts : List Thing} (h : Have w0 w (t0 :: pgT p F m n L :: pgT q G m' n' M :: ts)) : ∀ k, G k → ¬ F k := fun k h1 h2 => ap12 h k h2 h1
theorem ap13 {w0 w : World} {t0 t2 : Thing} {p q : Addr} {F G : Nat → Prop} {m n m' n' : Nat} {L M : List (List Int)} {ts : List Thing} (h : Have w0 w (t0 :: pgT p F m n L :: t2 :: pgT q G m' n' M :: ts)) : ∀ k, F k → ¬ G k := h.2.2.2.2.2.1 (pgT q G m' n' M) (by simp)
theorem ap31 {w0 w : World} {t0 t2 : Thing} {p q : Addr} {F G : Nat → Prop} {m n m' n' : Nat} {L M : List (List Int)} {ts : List Thing} (h : Have w0 w (t0 :: pgT p F m n L :: t2 :: pgT q G m' n' M :: ts)) : ∀ k, G k → ¬ F k := fun k h1 h2 => ap13 h k h2 h1
theorem ap23 {w0 w : World} {t0 t1 : Thing} {p q : Addr} {F G : Nat → Prop} {m n m' n' : Nat} {L M : List (List Int)} {ts : List Thing} (h : Have w0 w (t0 :: t1 :: pgT p F m n L :: pgT q G m' n' M :: ts)) : ∀ k, F k → ¬ G k := h.2.2.2.2.2.2.2.2.1 (pgT q G m' n' M) (by simp)
theorem ap32 {w0 w : World} {t0 t1 : Thing} {p q : Addr} {F G : Nat → Prop} {m n m' n' : Nat} {L M : List (List Int)} {ts : List Thing} (h : Have w0 w (t0 :: t1 :: pgT p F m n L :: pgT q G m' n' M :: ts)) : ∀ k, G k → ¬ F k := fun k h1 h2 => ap23 h k h2 h1
theorem new_mn (rows width : Int) (m n : Nat) (w : World) (hm : cl rows 8 = m) (hn : cl width 128 = n) (r0 : -9223372036854775808 ≤ rows) (r1 : rows ≤ 9223372036854775807) (c0 : -9223372036854775808 ≤ width) (c1 : width ≤ 9223372036854775807) :
    Calls Try.prog 10 #[.int .i64 rows, .int .i64 width] w fun e w' => ∃ (p : Addr) (F : Nat → Prop), e = .returned (.pointer (some p)) ∧ PG w' p F m n (zerosL m n) ∧ (∀ k, F k → w.heap.size ≤ k) ∧ Below w.heap.size w w' := by
  subst hm hn
  exact new_any rows width w r0 r1 c0 c1
theorem dnew_mn (rows width : Int) (m n : Nat) (w : World) (hm : cl rows 8 = m) (hn : cl width 128 = n) (r0 : -9223372036854775808 ≤ rows) (r1 : rows ≤ 9223372036854775807) (c0 : -9223372036854775808 ≤ width) (c1 : width ≤ 9223372036854775807) :
    Calls Try.prog 11 #[.int .i64 rows, .int .i64 width] w fun e w' => ∃ (p : Addr) (F : Nat → Prop), e = .returned (.pointer (some p)) ∧ DG w' p F m n (zerosL m n) ∧ (∀ k, F k → w.heap.size ≤ k) ∧ Below w.heap.size w w' := by
  subst hm hn
  exact dnew_any rows width w r0 r1 c0 c1
theorem c28 : cl 2 8 = 2 := by decide
theorem c3128 : cl 3 128 = 3 := by decide
theorem c38 : cl 3 8 = 3 := by decide
theorem c2128 : cl 2 128 = 2 := by decide
def sZ : List (List Int) := zerosL 2 3
def sA : List (List Int) := setL sZ 1 2 7
def sB : List (List Int) := setL sA 2 0 1
def sC : List (List Int) := jres 1 2 3 2 3 sZ sB
def sD : List (List Int) := jres 1 2 3 2 3 sC sB
def sE : List (List Int) := jres (-1) 2 3 3 2 sD (zerosL 3 2)
theorem q1 : in2 sZ 1 2 = true := by decide
theorem q2 : in2 sA 2 0 = false := by decide
theorem q3 : jcode 1 2 3 2 3 sZ sB = 0 := by decide
theorem q4 : jcode 1 2 3 2 3 sC sB = 0 := by decide
theorem q5 : jcode (-1) 2 3 3 2 sD (zerosL 3 2) = 5 := by decide
theorem q6 : at2 sB 1 2 = 7 := by decide
theorem q7 : at2 sE 1 2 = 14 := by decide
set_option maxRecDepth 100000 in
set_option maxHeartbeats 4000000 in
theorem shown_any (w : World) : Calls Try.prog 9 #[] w fun e w' => e = .returned (.bool true) ∧ Below w.heap.size w w' := by
  have e1 := q1
  have e2 := q2
  have e3 := q3
  have e4 := q4
  have e5 := q5
  have e6 := q6
  have e7 := q7
  have HV0 : Hid (Have w w []) := Lib.hid (Have.nil w)
  go_enter Try.func9, Try.ntmps9
  go_wp2_with (first
    | (go_at_call 19; (with_reducible refine (cells_any ph Fh8 2 3 sE _ (pg1 (HV8.out.up (by repeat' (first | (with_reducible exact Below.refl _ _) | (with_reducible assumption) | (with_reducible exact HBW.out) | (with_reducible refine below_over ?_ _ _) | (with_reducible refine Lw.below_alloc ?_ _) | (with_reducible refine Below.drew ?_) | (with_reducible refine below_drewN ?_ _) | (with_reducible refine Below.setCell ?_ ?_ _) | go_size))))).mono ?_); rintro e w' ⟨A9, cap9, rfl, hr9, hc9, hd9, hn9, hb9⟩; have HB9 := Lib.hid (below_call (HV8.out.up (by repeat' (first | (with_reducible exact Below.refl _ _) | (with_reducible assumption) | (with_reducible exact HBW.out) | (with_reducible refine below_over ?_ _ _) | (with_reducible refine Lw.below_alloc ?_ _) | (with_reducible refine Below.drew ?_) | (with_reducible refine below_drewN ?_ _) | (with_reducible refine Below.setCell ?_ ?_ _) | go_size))).below hb9 (Nat.le_refl _)); clear hr9 hn9)
    | (go_at_call_of 12 (Value.pointer (some ph)); (with_reducible refine (at_any ph Fh8 2 3 sE 1 2 _ (pg1 (HV8.out.up (by repeat' (first | (with_reducible exact Below.refl _ _) | (with_reducible assumption) | (with_reducible exact HBW.out) | (with_reducible refine below_over ?_ _ _) | (with_reducible refine Lw.below_alloc ?_ _) | (with_reducible refine Below.drew ?_) | (with_reducible refine below_drewN ?_ _) | (with_reducible refine Below.setCell ?_ ?_ _) | go_size)))) (by omega) (by omega) (by omega) (by omega)).mono ?_); rintro e w' ⟨rfl, hb⟩; obtain ⟨bs, d, rfl⟩ := below_grow hb; clear hb)
    | (go_at_call_of 12 (Value.pointer (some pg)); (with_reducible refine (at_any pg Fg4 2 3 sB 1 2 _ (pg2 (HV8.out.up (by repeat' (first | (with_reducible exact Below.refl _ _) | (with_reducible assumption) | (with_reducible exact HBW.out) | (with_reducible refine below_over ?_ _ _) | (with_reducible refine Lw.below_alloc ?_ _) | (with_reducible refine Below.drew ?_) | (with_reducible refine below_drewN ?_ _) | (with_reducible refine Below.setCell ?_ ?_ _) | go_size)))) (by omega) (by omega) (by omega) (by omega)).mono ?_); rintro e w' ⟨rfl, hb⟩; obtain ⟨bs, d, rfl⟩ := below_grow hb; clear hb)
    | (go_at_call 17; (with_reducible refine (width_any pg Fg4 2 3 sB _ (pg2 (HV8.out.up (by repeat' (first | (with_reducible exact Below.refl _ _) | (with_reducible assumption) | (with_reducible exact HBW.out) | (with_reducible refine below_over ?_ _ _) | (with_reducible refine Lw.below_alloc ?_ _) | (with_reducible refine Below.drew ?_) | (with_reducible refine below_drewN ?_ _) | (with_reducible refine Below.setCell ?_ ?_ _) | go_size))))).mono ?_); rintro e w' ⟨rfl, hb⟩; obtain ⟨bs, d, rfl⟩ := below_grow hb; clear hb)
    | (go_at_call 16; (with_reducible refine (rows_any pg Fg4 2 3 sB _ (pg2 (HV8.out.up (by repeat' (first | (with_reducible exact Below.refl _ _) | (with_reducible assumption) | (with_reducible exact HBW.out) | (with_reducible refine below_over ?_ _ _) | (with_reducible refine Lw.below_alloc ?_ _) | (with_reducible refine Below.drew ?_) | (with_reducible refine below_drewN ?_ _) | (with_reducible refine Below.setCell ?_ ?_ _) | go_size))))).mono ?_); rintro e w' ⟨rfl, hb⟩; obtain ⟨bs, d, rfl⟩ := below_grow hb; clear hb)
    | (go_at_call 23; (with_reducible refine (minus_any ph Fh6 2 3 sD pk Fk 3 2 (zerosL 3 2) _ (pg1 (HV7.out.up (by repeat' (first | (with_reducible exact Below.refl _ _) | (with_reducible assumption) | (with_reducible exact HBW.out) | (with_reducible refine below_over ?_ _ _) | (with_reducible refine Lw.below_alloc ?_ _) | (with_reducible refine Below.drew ?_) | (with_reducible refine below_drewN ?_ _) | (with_reducible refine Below.setCell ?_ ?_ _) | go_size)))) (pg0 (HV7.out.up (by repeat' (first | (with_reducible exact Below.refl _ _) | (with_reducible assumption) | (with_reducible exact HBW.out) | (with_reducible refine below_over ?_ _ _) | (with_reducible refine Lw.below_alloc ?_ _) | (with_reducible refine Below.drew ?_) | (with_reducible refine below_drewN ?_ _) | (with_reducible refine Below.setCell ?_ ?_ _) | go_size)))) (ap10 HV7.out)).mono ?_); rintro e w' ⟨rfl, Fh8, hnp, hnk, hnf⟩; have HV8 := Lib.hid (Have.turn1 (HV7.out.up (by repeat' (first | (with_reducible exact Below.refl _ _) | (with_reducible assumption) | (with_reducible exact HBW.out) | (with_reducible refine below_over ?_ _ _) | (with_reducible refine Lw.below_alloc ?_ _) | (with_reducible refine Below.drew ?_) | (with_reducible refine below_drewN ?_ _) | (with_reducible refine Below.setCell ?_ ?_ _) | go_size))) (pgT ph Fh8 2 3 sE) hnp hnk hnf); clear hnp hnk hnf)
    | (go_at_call 10; (with_reducible refine (new_mn (3) (2) 3 2 _ c38 c2128 (by omega) (by omega) (by omega) (by omega)).mono ?_); rintro e w' ⟨pk, Fk, rfl, hnp, hnf, hnb⟩; have HV7 := Lib.hid (((HV6.out.up (by repeat' (first | (with_reducible exact Below.refl _ _) | (with_reducible assumption) | (with_reducible exact HBW.out) | (with_reducible refine below_over ?_ _ _) | (with_reducible refine Lw.below_alloc ?_ _) | (with_reducible refine Below.drew ?_) | (with_reducible refine below_drewN ?_ _) | (with_reducible refine Below.setCell ?_ ?_ _) | go_size)))).push (pgT pk Fk 3 2 (zerosL 3 2)) hnb hnp hnf); clear hnp hnf hnb)
    | (go_at_call 24; (with_reducible refine (plus_any ph Fh5 2 3 sC pg Fg4 2 3 sB _ (pg0 (HV5.out.up (by repeat' (first | (with_reducible exact Below.refl _ _) | (with_reducible assumption) | (with_reducible exact HBW.out) | (with_reducible refine below_over ?_ _ _) | (with_reducible refine Lw.below_alloc ?_ _) | (with_reducible refine Below.drew ?_) | (with_reducible refine below_drewN ?_ _) | (with_reducible refine Below.setCell ?_ ?_ _) | go_size)))) (pg1 (HV5.out.up (by repeat' (first | (with_reducible exact Below.refl _ _) | (with_reducible assumption) | (with_reducible exact HBW.out) | (with_reducible refine below_over ?_ _ _) | (with_reducible refine Lw.below_alloc ?_ _) | (with_reducible refine Below.drew ?_) | (with_reducible refine below_drewN ?_ _) | (with_reducible refine Below.setCell ?_ ?_ _) | go_size)))) (ap01 HV5.out)).mono ?_); rintro e w' ⟨rfl, Fh6, hnp, hnk, hnf⟩; have HV6 := Lib.hid (Have.turn0 (HV5.out.up (by repeat' (first | (with_reducible exact Below.refl _ _) | (with_reducible assumption) | (with_reducible exact HBW.out) | (with_reducible refine below_over ?_ _ _) | (with_reducible refine Lw.below_alloc ?_ _) | (with_reducible refine Below.drew ?_) | (with_reducible refine below_drewN ?_ _) | (with_reducible refine Below.setCell ?_ ?_ _) | go_size))) (pgT ph Fh6 2 3 sD) hnp hnk hnf); clear hnp hnk hnf)
    | (go_at_call 24; (with_reducible refine (plus_any ph Fh 2 3 sZ pg Fg4 2 3 sB _ (pg0 (HV4.out.up (by repeat' (first | (with_reducible exact Below.refl _ _) | (with_reducible assumption) | (with_reducible exact HBW.out) | (with_reducible refine below_over ?_ _ _) | (with_reducible refine Lw.below_alloc ?_ _) | (with_reducible refine Below.drew ?_) | (with_reducible refine below_drewN ?_ _) | (with_reducible refine Below.setCell ?_ ?_ _) | go_size)))) (pg1 (HV4.out.up (by repeat' (first | (with_reducible exact Below.refl _ _) | (with_reducible assumption) | (with_reducible exact HBW.out) | (with_reducible refine below_over ?_ _ _) | (with_reducible refine Lw.below_alloc ?_ _) | (with_reducible refine Below.drew ?_) | (with_reducible refine below_drewN ?_ _) | (with_reducible refine Below.setCell ?_ ?_ _) | go_size)))) (ap01 HV4.out)).mono ?_); rintro e w' ⟨rfl, Fh5, hnp, hnk, hnf⟩; have HV5 := Lib.hid (Have.turn0 (HV4.out.up (by repeat' (first | (with_reducible exact Below.refl _ _) | (with_reducible assumption) | (with_reducible exact HBW.out) | (with_reducible refine below_over ?_ _ _) | (with_reducible refine Lw.below_alloc ?_ _) | (with_reducible refine Below.drew ?_) | (with_reducible refine below_drewN ?_ _) | (with_reducible refine Below.setCell ?_ ?_ _) | go_size))) (pgT ph Fh5 2 3 sC) hnp hnk hnf); clear hnp hnk hnf)
    | (go_at_call 13; (with_reducible refine (put_any pg Fg3 2 3 sA 2 0 1 _ (pg1 (HV3.out.up (by repeat' (first | (with_reducible exact Below.refl _ _) | (with_reducible assumption) | (with_reducible exact HBW.out) | (with_reducible refine below_over ?_ _ _) | (with_reducible refine Lw.below_alloc ?_ _) | (with_reducible refine Below.drew ?_) | (with_reducible refine below_drewN ?_ _) | (with_reducible refine Below.setCell ?_ ?_ _) | go_size)))) (by omega) (by omega) (by omega) (by omega) (by omega) (by omega)).mono ?_); rintro e w' ⟨rfl, Fg4, hnp, hnk, hnf⟩; have HV4 := Lib.hid (Have.turn1 (HV3.out.up (by repeat' (first | (with_reducible exact Below.refl _ _) | (with_reducible assumption) | (with_reducible exact HBW.out) | (with_reducible refine below_over ?_ _ _) | (with_reducible refine Lw.below_alloc ?_ _) | (with_reducible refine Below.drew ?_) | (with_reducible refine below_drewN ?_ _) | (with_reducible refine Below.setCell ?_ ?_ _) | go_size))) (pgT pg Fg4 2 3 sB) hnp hnk hnf); clear hnp hnk hnf)
    | (go_at_call 13; (with_reducible refine (put_any pg Fg 2 3 sZ 1 2 7 _ (pg1 (HV2.out.up (by repeat' (first | (with_reducible exact Below.refl _ _) | (with_reducible assumption) | (with_reducible exact HBW.out) | (with_reducible refine below_over ?_ _ _) | (with_reducible refine Lw.below_alloc ?_ _) | (with_reducible refine Below.drew ?_) | (with_reducible refine below_drewN ?_ _) | (with_reducible refine Below.setCell ?_ ?_ _) | go_size)))) (by omega) (by omega) (by omega) (by omega) (by omega) (by omega)).mono ?_); rintro e w' ⟨rfl, Fg3, hnp, hnk, hnf⟩; have HV3 := Lib.hid (Have.turn1 (HV2.out.up (by repeat' (first | (with_reducible exact Below.refl _ _) | (with_reducible assumption) | (with_reducible exact HBW.out) | (with_reducible refine below_over ?_ _ _) | (with_reducible refine Lw.below_alloc ?_ _) | (with_reducible refine Below.drew ?_) | (with_reducible refine below_drewN ?_ _) | (with_reducible refine Below.setCell ?_ ?_ _) | go_size))) (pgT pg Fg3 2 3 sA) hnp hnk hnf); clear hnp hnk hnf)
    | (go_at_call 25; (with_reducible refine (copy_any pg Fg 2 3 sZ _ (pg0 (HV1.out.up (by repeat' (first | (with_reducible exact Below.refl _ _) | (with_reducible assumption) | (with_reducible exact HBW.out) | (with_reducible refine below_over ?_ _ _) | (with_reducible refine Lw.below_alloc ?_ _) | (with_reducible refine Below.drew ?_) | (with_reducible refine below_drewN ?_ _) | (with_reducible refine Below.setCell ?_ ?_ _) | go_size))))).mono ?_); rintro e w' ⟨ph, Fh, rfl, hnp, hnf, hnb⟩; have HV2 := Lib.hid (((HV1.out.up (by repeat' (first | (with_reducible exact Below.refl _ _) | (with_reducible assumption) | (with_reducible exact HBW.out) | (with_reducible refine below_over ?_ _ _) | (with_reducible refine Lw.below_alloc ?_ _) | (with_reducible refine Below.drew ?_) | (with_reducible refine below_drewN ?_ _) | (with_reducible refine Below.setCell ?_ ?_ _) | go_size)))).push (pgT ph Fh 2 3 sZ) hnb hnp hnf); clear hnp hnf hnb)
    | (go_at_call 10; (with_reducible refine (new_mn (2) (3) 2 3 _ c28 c3128 (by omega) (by omega) (by omega) (by omega)).mono ?_); rintro e w' ⟨pg, Fg, rfl, hnp, hnf, hnb⟩; have HV1 := Lib.hid (((HV0.out.up (by repeat' (first | (with_reducible exact Below.refl _ _) | (with_reducible assumption) | (with_reducible exact HBW.out) | (with_reducible refine below_over ?_ _ _) | (with_reducible refine Lw.below_alloc ?_ _) | (with_reducible refine Below.drew ?_) | (with_reducible refine below_drewN ?_ _) | (with_reducible refine Below.setCell ?_ ?_ _) | go_size)))).push (pgT pg Fg 2 3 (zerosL 2 3)) hnb hnp hnf); clear hnp hnf hnb))
  all_goals go_ret
  all_goals exact ⟨rfl, HB9.out⟩
/-- The cells to be set lie behind A. -/
def Puts (w : World) (A : Option Addr) (qs : List (Int × Int × Int)) : Prop := ∀ (i : Nat) q, qs[i]? = some q → ∃ a, A = some a ∧ w.cell? (a.add (i * 3)) = some (.int .i64 (q.1)) ∧ w.cell? (a.add (i * 3 + 1)) = some (.int .i64 (q.2.1)) ∧ w.cell? (a.add (i * 3 + 2)) = some (.int .i64 (q.2.2)) ∧ (-9223372036854775808 ≤ (q.1) ∧ (q.1) ≤ 9223372036854775807) ∧ (-9223372036854775808 ≤ (q.2.1) ∧ (q.2.1) ≤ 9223372036854775807) ∧ (-9223372036854775808 ≤ (q.2.2) ∧ (q.2.2) ≤ 9223372036854775807)
theorem Puts.up {w w' : World} {A : Option Addr} {qs : List (Int × Int × Int)} (h : Puts w A qs) (hb : Below w.heap.size w w') : Puts w' A qs := by
  intro i q hq
  obtain ⟨a, e, h1, h2, h3, h4⟩ := h i q hq
  exact ⟨a, e, cell_up h1 hb, cell_up h2 hb, cell_up h3 hb, h4⟩
theorem Puts.at {w : World} {A : Option Addr} {qs : List (Int × Int × Int)} (h : Puts w A qs) {i : Nat} {x y z : Int} (hq : qs[i]? = some (x, y, z)) : ∃ (a : Addr) (g o : Nat), A = some a ∧ a.add (i * 3) = ⟨g, o, none⟩ ∧ w.cell? ⟨g, o, none⟩ = some (.int .i64 x) ∧ w.cell? ⟨g, o + 1, none⟩ = some (.int .i64 y) ∧ w.cell? ⟨g, o + 2, none⟩ = some (.int .i64 z) ∧ (-9223372036854775808 ≤ x ∧ x ≤ 9223372036854775807) ∧ (-9223372036854775808 ≤ y ∧ y ≤ 9223372036854775807) ∧ (-9223372036854775808 ≤ z ∧ z ≤ 9223372036854775807) := by
  obtain ⟨a, e, h1, h2, h3, b1, b2, b3⟩ := h i _ hq
  rw [← add_add'] at h2 h3
  have hs : (a.add (i * 3)).spot = none := by
    unfold World.cell? at h1
    split at h1
    · split at h1
      · cases h1
      · rename_i hs; simpa using hs
    · cases h1
  obtain ⟨ad, had⟩ : ∃ ad, a.add (i * 3) = ad := ⟨_, rfl⟩
  rw [had] at h1 h2 h3 hs
  obtain ⟨g, o, sp⟩ := ad
  simp only at hs
  subst hs
  rw [Ord.add_at] at h2 h3
  exact ⟨a, g, o, e, had, h1, h2, h3, b1, b2, b3⟩
theorem Puts.ok {w : World} {A : Option Addr} {qs : List (Int × Int × Int)} (h : Puts w A qs) : ∀ q ∈ qs, -9223372036854775808 ≤ q.2.2 ∧ q.2.2 ≤ 9223372036854775807 := by
  intro q hq
  obtain ⟨i, hi, e⟩ := List.mem_iff_getElem.1 hq
  obtain ⟨a, _, _, _, _, _, _, h3⟩ := h i q (by rw [List.getElem?_eq_getElem hi, e])
  exact h3
theorem open_putsv {H : Type} {enc : TypeId × Value → H} {W : World} {v : Value} {d : DataW H} {p : List MemPlace} {base : Nat} (hv : Value.okWide Try.prog W .any base 22 v)
    (h : DataW.Trod enc Try.prog W 0 (fun _ => true) true 22 v d p) :
    ∃ (A : Option Addr) (n cap : Nat) (qs : List (Int × Int × Int)), v = .slice A n cap ∧ (A = none → n = 0 ∧ cap = 0) ∧ n ≤ cap ∧ cap ≤ maxLen ∧ qs.length = n ∧ Puts W A qs := by
  obtain ⟨a0, len, cap, rfl⟩ := Go.WideShapes.okWide_slice Try.underlying22 hv
  obtain ⟨fuel, hf⟩ := h
  obtain ⟨A, len', cap', qs, hcs, h1, h2, h3, h4, h5⟩ := open_puts hf
  simp [Value.cells] at hcs
  obtain ⟨rfl, rfl, rfl⟩ := hcs
  exact ⟨_, _, _, qs, rfl, h1, h2, h3, h4, h5⟩
set_option maxRecDepth 100000 in
set_option maxHeartbeats 4000000 in
theorem made_any (rows width : Int) (r0 : -9223372036854775808 ≤ rows) (r1 : rows ≤ 9223372036854775807) (c0 : -9223372036854775808 ≤ width) (c1 : width ≤ 9223372036854775807) (A : Option Addr) (N cap : Nat) (qs : List (Int × Int × Int)) (w : World) (hA : A = none → N = 0 ∧ cap = 0) (hN : N ≤ cap) (hcap : cap ≤ maxLen) (hl : qs.length = N) (hqs : Puts w A qs) (m n : Nat) (hm : cl rows 8 = m) (hn : cl width 128 = n) :
    Calls Try.prog 21 #[.int .i64 rows, .int .i64 width, .slice A N cap] w fun e w' => ∃ (p q : Addr) (F G : Nat → Prop), e = .returned (.tuple #[.pointer (some p), .pointer (some q)]) ∧ Have w w' [dgT q G m n (puts (zerosL m n) (qs.take 200)), pgT p F m n (puts (zerosL m n) (qs.take 200))] := by
  have HM := Lib.hid hm
  have HN := Lib.hid hn
  have HQ := Lib.hid hqs
  have HL := Lib.hid hl
  unfold maxLen at hcap
  have HV0 : Hid (Have w w []) := Lib.hid (Have.nil w)
  clear hm hn hqs hA
  go_enter Try.func21, Try.ntmps21
  go_wp2_with (first
    | (go_at_call 11; (with_reducible refine (dnew_mn rows width m n _ HM.out HN.out (by omega) (by omega) (by omega) (by omega)).mono ?_); rintro e w' ⟨q0, G0, rfl, hnp, hnf, hnb⟩; have HV2 := Lib.hid ((HV1.out.up (by repeat' (first | (with_reducible exact Below.refl _ _) | (with_reducible assumption) | (with_reducible exact HBW.out) | (with_reducible refine below_over ?_ _ _) | (with_reducible refine Lw.below_alloc ?_ _) | (with_reducible refine Below.drew ?_) | (with_reducible refine below_drewN ?_ _) | (with_reducible refine Below.setCell ?_ ?_ _) | go_size))).push (dgT q0 G0 m n (zerosL m n)) hnb hnp hnf); clear hnp hnf hnb)
    | (go_at_call 10; (with_reducible refine (new_mn (rows) (width) m n _ HM.out HN.out (by omega) (by omega) (by omega) (by omega)).mono ?_); rintro e w' ⟨p, F0, rfl, hnp, hnf, hnb⟩; have HV1 := Lib.hid (((HV0.out.up (by repeat' (first | (with_reducible exact Below.refl _ _) | (with_reducible assumption) | (with_reducible exact HBW.out) | (with_reducible refine below_over ?_ _ _) | (with_reducible refine Lw.below_alloc ?_ _) | (with_reducible refine Below.drew ?_) | (with_reducible refine below_drewN ?_ _) | (with_reducible refine Below.setCell ?_ ?_ _) | go_size)))).push (pgT p F0 m n (zerosL m n)) hnb hnp hnf); clear hnp hnf hnb))
  go_loopw [10] (fun i wr => ∃ (k : Nat) (F G : Nat → Prop), k ≤ N ∧ k ≤ 200 ∧ i = .int .i64 k ∧ Have w wr [dgT q0 G m n (puts (zerosL m n) (qs.take k)), pgT p F m n (puts (zerosL m n) (qs.take k))]) (fun i _ => 200 - (intOf i).toNat)
  case atStart => exact ⟨0, F0, G0, by omega, by omega, rfl, HV2.out⟩
  case round =>
    obtain ⟨k, F1, G1, hkn, hk2, rfl, hhv⟩ := hrel
    have HV3 := Lib.hid hhv
    have HBW := Lib.hid hhv.below
    clear hhv
    by_cases hlt : k < N ∧ k < 200
    · obtain ⟨hlt1, hlt2⟩ := hlt
      have hkl : k < qs.length := by omega
      obtain ⟨q, hq⟩ : ∃ q, qs[k]? = some q := ⟨_, List.getElem?_eq_getElem hkl⟩
      obtain ⟨x, y, z⟩ := q
      obtain ⟨a, g, o, rfl, hadd, c1, c2, c3, bx, by', bz⟩ := HQ.out.at hq
      have HNX := Lib.hid (puts_next (zerosL m n) qs k (x, y, z) hq)
      simp only at HNX
      obtain ⟨Lk, hLk⟩ : ∃ Lk, puts (zerosL m n) (qs.take k) = Lk := ⟨_, rfl⟩
      rw [hLk] at HV3 HNX
      clear hq hLk
      go_wp2
      go_region_held3 (fun w' => w'.cell? ⟨g, o, none⟩ = some (.int .i64 x) ∧ w'.cell? ⟨g, o + 1, none⟩ = some (.int .i64 y) ∧ w'.cell? ⟨g, o + 2, none⟩ = some (.int .i64 z)) (first | (refine ⟨cell_up c1 ?_, cell_up c2 ?_, cell_up c3 ?_⟩ <;> (repeat' (first | (with_reducible exact Below.refl _ _) | (with_reducible assumption) | (with_reducible exact HBW.out) | (with_reducible exact HBX.out) | (with_reducible refine below_over ?_ _ _) | (with_reducible refine Lw.below_alloc ?_ _) | (with_reducible refine Below.drew ?_) | (with_reducible refine below_drewN ?_ _) | (with_reducible refine Below.setCell ?_ ?_ _) | go_size)))) (first
        | (go_at_call 13; (with_reducible refine (put_any p F1 m n Lk x y z _ (pg1 (HV3.out.up (by repeat' (first | (with_reducible exact Below.refl _ _) | (with_reducible assumption) | (with_reducible exact HBW.out) | (with_reducible refine below_over ?_ _ _) | (with_reducible refine Lw.below_alloc ?_ _) | (with_reducible refine Below.drew ?_) | (with_reducible refine below_drewN ?_ _) | (with_reducible refine Below.setCell ?_ ?_ _) | go_size)))) (by omega) (by omega) (by omega) (by omega) (by omega) (by omega)).mono ?_); rintro e w' ⟨rfl, F4, hnp, hnk, hnf⟩; have HV4 := Lib.hid (Have.turn1 (HV3.out.up (by repeat' (first | (with_reducible exact Below.refl _ _) | (with_reducible assumption) | (with_reducible exact HBW.out) | (with_reducible refine below_over ?_ _ _) | (with_reducible refine Lw.below_alloc ?_ _) | (with_reducible refine Below.drew ?_) | (with_reducible refine below_drewN ?_ _) | (with_reducible refine Below.setCell ?_ ?_ _) | go_size))) (pgT p F4 m n (setL Lk x y z)) hnp hnk hnf); clear hnp hnk hnf; have HBX := Lib.hid HV4.out.below))
      go_wp2
      go_region_held3 (fun w' => w'.cell? ⟨g, o, none⟩ = some (.int .i64 x) ∧ w'.cell? ⟨g, o + 1, none⟩ = some (.int .i64 y) ∧ w'.cell? ⟨g, o + 2, none⟩ = some (.int .i64 z)) (first | (refine ⟨cell_up c1 ?_, cell_up c2 ?_, cell_up c3 ?_⟩ <;> (repeat' (first | (with_reducible exact Below.refl _ _) | (with_reducible assumption) | (with_reducible exact HBW.out) | (with_reducible exact HBX.out) | (with_reducible refine below_over ?_ _ _) | (with_reducible refine Lw.below_alloc ?_ _) | (with_reducible refine Below.drew ?_) | (with_reducible refine below_drewN ?_ _) | (with_reducible refine Below.setCell ?_ ?_ _) | go_size)))) (first
        | (go_at_call 15; (with_reducible refine (dput_any q0 G1 m n Lk x y z _ (dg0 (HV4.out.up (by repeat' (first | (with_reducible exact Below.refl _ _) | (with_reducible assumption) | (with_reducible exact HBW.out) | (with_reducible refine below_over ?_ _ _) | (with_reducible refine Lw.below_alloc ?_ _) | (with_reducible refine Below.drew ?_) | (with_reducible refine below_drewN ?_ _) | (with_reducible refine Below.setCell ?_ ?_ _) | go_size)))) (by omega) (by omega) (by omega) (by omega) (by omega) (by omega)).mono ?_); rintro e w' ⟨rfl, G5, hnp, hnk, hnf⟩; have HV5 := Lib.hid (Have.turn0 (HV4.out.up (by repeat' (first | (with_reducible exact Below.refl _ _) | (with_reducible assumption) | (with_reducible exact HBW.out) | (with_reducible refine below_over ?_ _ _) | (with_reducible refine Lw.below_alloc ?_ _) | (with_reducible refine Below.drew ?_) | (with_reducible refine below_drewN ?_ _) | (with_reducible refine Below.setCell ?_ ?_ _) | go_size))) (dgT q0 G5 m n (setL Lk x y z)) hnp hnk hnf); clear hnp hnk hnf; have HBX := Lib.hid HV5.out.below))
      go_wp2
      go_roundw
      case rel => exact ⟨k + 1, F4, G5, by omega, by omega, by go_num, by rw [HNX.out]; exact HV5.out.up (by repeat' (first | (with_reducible exact Below.refl _ _) | (with_reducible assumption) | (with_reducible exact HBW.out) | (with_reducible refine below_over ?_ _ _) | (with_reducible refine Lw.below_alloc ?_ _) | (with_reducible refine Below.drew ?_) | (with_reducible refine below_drewN ?_ _) | (with_reducible refine Below.setCell ?_ ?_ _) | go_size))⟩
      case measure => simp [intOf]; omega
    · have hT : qs.take k = qs.take 200 := by
        by_cases h : k < N
        · have e : k = 200 := by omega
          rw [e]
        · have := HL.out
          rw [List.take_of_length_le (by omega), List.take_of_length_le (by omega)]
      rw [hT] at HV3
      clear hT
      by_cases h : k < N
      · have e : k = 200 := by omega
        subst e
        go_wp2
        go_ret2
        exact ⟨p, q0, F1, G1, rfl, HV3.out⟩
      · have e : k = N := by omega
        subst e
        go_wp2
        go_ret2
        exact ⟨p, q0, F1, G1, rfl, HV3.out⟩
theorem made_at (rows width : Int) (r0 : -9223372036854775808 ≤ rows) (r1 : rows ≤ 9223372036854775807) (c0 : -9223372036854775808 ≤ width) (c1 : width ≤ 9223372036854775807) (A : Option Addr) (N cap : Nat) (qs : List (Int × Int × Int)) (L : List (List Int)) (w : World) (hA : A = none → N = 0 ∧ cap = 0) (hN : N ≤ cap) (hcap : cap ≤ maxLen) (hl : qs.length = N) (hqs : Puts w A qs) (m n : Nat) (hm : cl rows 8 = m) (hn : cl width 128 = n) (hL : puts (zerosL m n) (qs.take 200) = L) :
    Calls Try.prog 21 #[.int .i64 rows, .int .i64 width, .slice A N cap] w fun e w' => ∃ (p q : Addr) (F G : Nat → Prop), e = .returned (.tuple #[.pointer (some p), .pointer (some q)]) ∧ Have w w' [dgT q G m n L, pgT p F m n L] := by
  subst hL
  exact made_any rows width r0 r1 c0 c1 A N cap qs w hA hN hcap hl hqs m n hm hn
theorem puts_ok {m n : Nat} (hm : m ≤ 8) (hn : n ≤ 128) {w : World} {A : Option Addr} {qs : List (Int × Int × Int)} (h : Puts w A qs) {L : List (List Int)} (hL : puts (zerosL m n) (qs.take 200) = L) : Dims m n L := by
  subst hL
  exact puts_dims (dims_zeros hm hn) _ (fun q hq => h.ok q (List.mem_of_mem_take hq))
end Go.Proofs.Ytbjbkjdpkplfmaa.Grd
