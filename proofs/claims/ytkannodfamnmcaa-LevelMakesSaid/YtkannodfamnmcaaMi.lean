/- Texts that the statements of this seat lean on, put together: LevCInn, LevShown. -/
import Derived.Test.YtkannodfamnmcaaMb
import Derived.Test.YtkannodfamnmcaaMg
import Derived.Test.YtkannodfamnmcaaMh
import Derived.Deep.LoopGhost
import Derived.Deep.RegionHeld3
import Derived.Deep.DeepCutAuto
import Derived.Deep.QuietTactic
import Derived.BigQuiet
/- The walks of package level's product and Inner (the code's). Printed by wip/gen/levinner.py. -/
namespace Go.Proofs.Ytkannodfamnmcaa.Lev
open Go Go.RowKit Lw Grd Lin Con Shp Sk Exa Inn
set_option linter.unusedVariables false
set_option linter.unusedSimpArgs false
def aiC (md : Int) (L M : List Int) : Int := if md = 1 then (if dok L M = true then 0 else 4) else 3
def aiH (md : Int) (L M : List Int) : Int := if md = 1 then (if dok L M = true then dhi L M else 0) else 0
def aiL (md : Int) (L M : List Int) : Int := if md = 1 then (if dok L M = true then dlo L M else 0) else 0
theorem fld_md (c : Cfg) (w : World) : (Instr.field 24 (.agg #[.int .i64 c.bt, .int .i64 c.rw, .int .i64 c.wd, .int .i64 c.md, .int .u64 c.sd]) 3).run Try.prog w = .ok (.int .i64 c.md) w := by kernel_rfl
set_option maxRecDepth 100000 in
theorem prod_nil1 (v : Value) (hv : v = .pointer none ∨ ∃ q, v = .pointer (some q)) (w : World) :
    Calls Try.prog 22 #[.pointer none, v] w fun e w' => e = .returned (.tuple #[.agg #[.int .i64 (0), .int .u64 (0)], .int .i64 (5)]) ∧ Below w.heap.size w w' := by
  rcases hv with rfl | ⟨q, rfl⟩
  all_goals (go_enter Try.func22, Try.ntmps22)
  all_goals go_wp2
  all_goals go_returns
  all_goals exact ⟨rfl, (by repeat' (first | (with_reducible exact Below.refl _ _) | (with_reducible assumption) | (with_reducible refine below_over ?_ _ _) | (with_reducible refine Lw.below_alloc ?_ _) | (with_reducible refine Below.drew ?_) | (with_reducible refine below_drewN ?_ _) | (with_reducible refine Below.setCell ?_ ?_ _) | go_size))⟩
set_option maxRecDepth 100000 in
theorem prod_nil2 (p : Addr) (w : World) :
    Calls Try.prog 22 #[.pointer (some p), .pointer none] w fun e w' => e = .returned (.tuple #[.agg #[.int .i64 (0), .int .u64 (0)], .int .i64 (5)]) ∧ Below w.heap.size w w' := by
  go_enter Try.func22, Try.ntmps22
  go_wp2
  go_returns
  exact ⟨rfl, (by repeat' (first | (with_reducible exact Below.refl _ _) | (with_reducible assumption) | (with_reducible refine below_over ?_ _ _) | (with_reducible refine Lw.below_alloc ?_ _) | (with_reducible refine Below.drew ?_) | (with_reducible refine below_drewN ?_ _) | (with_reducible refine Below.setCell ?_ ?_ _) | go_size))⟩
set_option maxRecDepth 100000 in
set_option maxHeartbeats 4000000 in
theorem prod_no (p : Addr) (F : Nat → Prop) (c : Cfg) (l : Int) (L : List Int) (q : Addr) (G : Nat → Prop) (c' : Cfg) (l' : Int) (M : List Int) (w : World) (h : EX w p F c l L) (g : EX w q G c' l' M) (hn : ¬ (cfgE c c' = true ∧ l = l')) :
    Calls Try.prog 22 #[.pointer (some p), .pointer (some q)] w fun e w' => e = .returned (.tuple #[.agg #[.int .i64 (0), .int .u64 (0)], .int .i64 (5)]) ∧ Below w.heap.size w w' := by
  have H := Lib.hid h
  have G := Lib.hid g
  clear h g
  by_cases hc : cfgE c c' = true
  · have hc2 := of_decide_eq_true hc
    obtain ⟨e0, e1, e2, e3, e4⟩ := hc2
    have hl : (l != l') = true := by
      have h1 : ¬ l = l' := fun e => hn ⟨hc, e⟩
      simpa using h1
    have hl2 : (l == l') = false := by
      have h1 : ¬ l = l' := fun e => hn ⟨hc, e⟩
      simpa using h1
    obtain ⟨a0, a1, a2, a3, a4⟩ := c
    obtain ⟨b0, b1, b2, b3, b4⟩ := c'
    simp only at e0 e1 e2 e3 e4
    subst e0 e1 e2 e3 e4
    clear hn hc
    go_enter Try.func22, Try.ntmps22
    go_wp2_with (first
      | (go_at_call_of 33 (Value.pointer (some p)); (with_reducible refine (econfig_any _ _ _ _ _ _ (H.out.up (by repeat' (first | (with_reducible exact Below.refl _ _) | (with_reducible assumption) | (with_reducible refine below_over ?_ _ _) | (with_reducible refine Lw.below_alloc ?_ _) | (with_reducible refine Below.drew ?_) | (with_reducible refine below_drewN ?_ _) | (with_reducible refine Below.setCell ?_ ?_ _) | go_size)))).mono ?_); rintro e w' ⟨rfl, hb⟩; obtain ⟨bs1, d1, rfl⟩ := below_grow hb; clear hb)
      | (go_at_call_of 33 (Value.pointer (some q)); (with_reducible refine (econfig_any _ _ _ _ _ _ (G.out.up (by repeat' (first | (with_reducible exact Below.refl _ _) | (with_reducible assumption) | (with_reducible refine below_over ?_ _ _) | (with_reducible refine Lw.below_alloc ?_ _) | (with_reducible refine Below.drew ?_) | (with_reducible refine below_drewN ?_ _) | (with_reducible refine Below.setCell ?_ ?_ _) | go_size)))).mono ?_); rintro e w' ⟨rfl, hb⟩; obtain ⟨bs2, d2, rfl⟩ := below_grow hb; clear hb)
      | (go_at_call_of 34 (Value.pointer (some p)); (with_reducible refine (elevel_any _ _ _ _ _ _ (H.out.up (by repeat' (first | (with_reducible exact Below.refl _ _) | (with_reducible assumption) | (with_reducible refine below_over ?_ _ _) | (with_reducible refine Lw.below_alloc ?_ _) | (with_reducible refine Below.drew ?_) | (with_reducible refine below_drewN ?_ _) | (with_reducible refine Below.setCell ?_ ?_ _) | go_size)))).mono ?_); rintro e w' ⟨rfl, hb⟩; obtain ⟨bs3, d3, rfl⟩ := below_grow hb; clear hb)
      | (go_at_call_of 34 (Value.pointer (some q)); (with_reducible refine (elevel_any _ _ _ _ _ _ (G.out.up (by repeat' (first | (with_reducible exact Below.refl _ _) | (with_reducible assumption) | (with_reducible refine below_over ?_ _ _) | (with_reducible refine Lw.below_alloc ?_ _) | (with_reducible refine Below.drew ?_) | (with_reducible refine below_drewN ?_ _) | (with_reducible refine Below.setCell ?_ ?_ _) | go_size)))).mono ?_); rintro e w' ⟨rfl, hb⟩; obtain ⟨bs4, d4, rfl⟩ := below_grow hb; clear hb))
    go_returns
    exact ⟨rfl, (by repeat' (first | (with_reducible exact Below.refl _ _) | (with_reducible assumption) | (with_reducible refine below_over ?_ _ _) | (with_reducible refine Lw.below_alloc ?_ _) | (with_reducible refine Below.drew ?_) | (with_reducible refine below_drewN ?_ _) | (with_reducible refine Below.setCell ?_ ?_ _) | go_size))⟩
  · have hc2 : (c.bt == c'.bt && (c.rw == c'.rw && (c.wd == c'.wd && (c.md == c'.md && c.sd == c'.sd)))) = false := by
      cases hx : (c.bt == c'.bt && (c.rw == c'.rw && (c.wd == c'.wd && (c.md == c'.md && c.sd == c'.sd)))) with
      | false => rfl
      | true => simp at hx; exact absurd (decide_eq_true hx) hc
    clear hn hc
    go_enter Try.func22, Try.ntmps22
    go_wp2_with (first
      | (go_at_call_of 33 (Value.pointer (some p)); (with_reducible refine (econfig_any _ _ _ _ _ _ (H.out.up (by repeat' (first | (with_reducible exact Below.refl _ _) | (with_reducible assumption) | (with_reducible refine below_over ?_ _ _) | (with_reducible refine Lw.below_alloc ?_ _) | (with_reducible refine Below.drew ?_) | (with_reducible refine below_drewN ?_ _) | (with_reducible refine Below.setCell ?_ ?_ _) | go_size)))).mono ?_); rintro e w' ⟨rfl, hb⟩; obtain ⟨bs1, d1, rfl⟩ := below_grow hb; clear hb)
      | (go_at_call_of 33 (Value.pointer (some q)); (with_reducible refine (econfig_any _ _ _ _ _ _ (G.out.up (by repeat' (first | (with_reducible exact Below.refl _ _) | (with_reducible assumption) | (with_reducible refine below_over ?_ _ _) | (with_reducible refine Lw.below_alloc ?_ _) | (with_reducible refine Below.drew ?_) | (with_reducible refine below_drewN ?_ _) | (with_reducible refine Below.setCell ?_ ?_ _) | go_size)))).mono ?_); rintro e w' ⟨rfl, hb⟩; obtain ⟨bs2, d2, rfl⟩ := below_grow hb; clear hb))
    all_goals first
      | (go_returns; exact ⟨rfl, (by repeat' (first | (with_reducible exact Below.refl _ _) | (with_reducible assumption) | (with_reducible refine below_over ?_ _ _) | (with_reducible refine Lw.below_alloc ?_ _) | (with_reducible refine Below.drew ?_) | (with_reducible refine below_drewN ?_ _) | (with_reducible refine Below.setCell ?_ ?_ _) | go_size))⟩)
      | (exfalso; simp [*] at hc2; done)
set_option maxRecDepth 100000 in
set_option maxHeartbeats 4000000 in
theorem prod_mode (p : Addr) (F : Nat → Prop) (c : Cfg) (l : Int) (L : List Int) (q : Addr) (G : Nat → Prop) (M : List Int) (w : World) (h : EX w p F c l L) (g : EX w q G c l M) (hn : c.md ≠ 1) :
    Calls Try.prog 22 #[.pointer (some p), .pointer (some q)] w fun e w' => e = .returned (.tuple #[.agg #[.int .i64 (0), .int .u64 (0)], .int .i64 (3)]) ∧ Below w.heap.size w w' := by
  have H := Lib.hid h
  have G := Lib.hid g
  have hfd := fld_md c
  have hm : (c.md != 1) = true := by simpa using hn
  clear h g hn
  go_enter Try.func22, Try.ntmps22
  go_wp2_with (first
    | (go_at_call_of 33 (Value.pointer (some p)); (with_reducible refine (econfig_any _ _ _ _ _ _ (H.out.up (by repeat' (first | (with_reducible exact Below.refl _ _) | (with_reducible assumption) | (with_reducible refine below_over ?_ _ _) | (with_reducible refine Lw.below_alloc ?_ _) | (with_reducible refine Below.drew ?_) | (with_reducible refine below_drewN ?_ _) | (with_reducible refine Below.setCell ?_ ?_ _) | go_size)))).mono ?_); rintro e w' ⟨rfl, hb⟩; obtain ⟨bs1, d1, rfl⟩ := below_grow hb; clear hb)
    | (go_at_call_of 33 (Value.pointer (some q)); (with_reducible refine (econfig_any _ _ _ _ _ _ (G.out.up (by repeat' (first | (with_reducible exact Below.refl _ _) | (with_reducible assumption) | (with_reducible refine below_over ?_ _ _) | (with_reducible refine Lw.below_alloc ?_ _) | (with_reducible refine Below.drew ?_) | (with_reducible refine below_drewN ?_ _) | (with_reducible refine Below.setCell ?_ ?_ _) | go_size)))).mono ?_); rintro e w' ⟨rfl, hb⟩; obtain ⟨bs2, d2, rfl⟩ := below_grow hb; clear hb)
    | (go_at_call_of 34 (Value.pointer (some p)); (with_reducible refine (elevel_any _ _ _ _ _ _ (H.out.up (by repeat' (first | (with_reducible exact Below.refl _ _) | (with_reducible assumption) | (with_reducible refine below_over ?_ _ _) | (with_reducible refine Lw.below_alloc ?_ _) | (with_reducible refine Below.drew ?_) | (with_reducible refine below_drewN ?_ _) | (with_reducible refine Below.setCell ?_ ?_ _) | go_size)))).mono ?_); rintro e w' ⟨rfl, hb⟩; obtain ⟨bs3, d3, rfl⟩ := below_grow hb; clear hb)
    | (go_at_call_of 34 (Value.pointer (some q)); (with_reducible refine (elevel_any _ _ _ _ _ _ (G.out.up (by repeat' (first | (with_reducible exact Below.refl _ _) | (with_reducible assumption) | (with_reducible refine below_over ?_ _ _) | (with_reducible refine Lw.below_alloc ?_ _) | (with_reducible refine Below.drew ?_) | (with_reducible refine below_drewN ?_ _) | (with_reducible refine Below.setCell ?_ ?_ _) | go_size)))).mono ?_); rintro e w' ⟨rfl, hb⟩; obtain ⟨bs4, d4, rfl⟩ := below_grow hb; clear hb))
  go_returns
  exact ⟨rfl, (by repeat' (first | (with_reducible exact Below.refl _ _) | (with_reducible assumption) | (with_reducible refine below_over ?_ _ _) | (with_reducible refine Lw.below_alloc ?_ _) | (with_reducible refine Below.drew ?_) | (with_reducible refine below_drewN ?_ _) | (with_reducible refine Below.setCell ?_ ?_ _) | go_size))⟩
set_option maxRecDepth 100000 in
set_option maxHeartbeats 4000000 in
theorem prod_yes (p : Addr) (F : Nat → Prop) (c : Cfg) (l : Int) (L : List Int) (q : Addr) (G : Nat → Prop) (M : List Int) (w : World) (h : EX w p F c l L) (g : EX w q G c l M) (hmd : c.md = 1) (hd : dok L M = true) :
    Calls Try.prog 22 #[.pointer (some p), .pointer (some q)] w fun e w' => e = .returned (.tuple #[.agg #[.int .i64 (dhi L M), .int .u64 (dlo L M)], .int .i64 (0)]) ∧ Below w.heap.size w w' := by
  have H := Lib.hid h
  have G := Lib.hid g
  have sL := h.size
  have sM := g.size
  have IL := h.in64
  have IM := g.in64
  have CD := Lib.hid (fun (A B : Option Addr) (ca cb : Nat) w hx hy => idot_any A B L.length M.length ca cb L M w hx hy rfl rfl (by omega) IL IM)
  rw [hd] at CD
  obtain ⟨ph, hph⟩ : ∃ v, dhi L M = v := ⟨_, rfl⟩
  obtain ⟨pl, hpl⟩ : ∃ v, dlo L M = v := ⟨_, rfl⟩
  rw [hph, hpl] at CD ⊢
  have CL := Lib.hid (fun w' (hb : Below w.heap.size w w') => ecells_mid p F c l L w' (h.up hb))
  have CM := Lib.hid (fun w' (hb : Below w.heap.size w w') => ecells_mid q _ c l M w' (g.up hb))
  have hfd := fld_md c
  have hm : (c.md != 1) = false := by simp [hmd]
  have HBX : Hid (Have w (w.alloc (.cells #[.int .i64 0, .int .u64 0] 43)) [boxT w.heap.size 43 #[.int .i64 0, .int .u64 0]]) := Lib.hid (box_new w _ _)
  clear h g hmd hd sL sM IL IM hph hpl
  go_enter Try.func22, Try.ntmps22
  go_wp2_with (first
    | (go_at_call_of 33 (Value.pointer (some p)); (with_reducible refine (econfig_any _ _ _ _ _ _ (H.out.up (by repeat' (first | (with_reducible exact Below.refl _ _) | (with_reducible assumption) | (with_reducible refine below_over ?_ _ _) | (with_reducible refine Lw.below_alloc ?_ _) | (with_reducible refine Below.drew ?_) | (with_reducible refine below_drewN ?_ _) | (with_reducible refine Below.setCell ?_ ?_ _) | go_size)))).mono ?_); rintro e w' ⟨rfl, hb⟩; obtain ⟨bs1, d1, rfl⟩ := below_grow hb; clear hb)
    | (go_at_call_of 33 (Value.pointer (some q)); (with_reducible refine (econfig_any _ _ _ _ _ _ (G.out.up (by repeat' (first | (with_reducible exact Below.refl _ _) | (with_reducible assumption) | (with_reducible refine below_over ?_ _ _) | (with_reducible refine Lw.below_alloc ?_ _) | (with_reducible refine Below.drew ?_) | (with_reducible refine below_drewN ?_ _) | (with_reducible refine Below.setCell ?_ ?_ _) | go_size)))).mono ?_); rintro e w' ⟨rfl, hb⟩; obtain ⟨bs2, d2, rfl⟩ := below_grow hb; clear hb)
    | (go_at_call_of 34 (Value.pointer (some p)); (with_reducible refine (elevel_any _ _ _ _ _ _ (H.out.up (by repeat' (first | (with_reducible exact Below.refl _ _) | (with_reducible assumption) | (with_reducible refine below_over ?_ _ _) | (with_reducible refine Lw.below_alloc ?_ _) | (with_reducible refine Below.drew ?_) | (with_reducible refine below_drewN ?_ _) | (with_reducible refine Below.setCell ?_ ?_ _) | go_size)))).mono ?_); rintro e w' ⟨rfl, hb⟩; obtain ⟨bs3, d3, rfl⟩ := below_grow hb; clear hb)
    | (go_at_call_of 34 (Value.pointer (some q)); (with_reducible refine (elevel_any _ _ _ _ _ _ (G.out.up (by repeat' (first | (with_reducible exact Below.refl _ _) | (with_reducible assumption) | (with_reducible refine below_over ?_ _ _) | (with_reducible refine Lw.below_alloc ?_ _) | (with_reducible refine Below.drew ?_) | (with_reducible refine below_drewN ?_ _) | (with_reducible refine Below.setCell ?_ ?_ _) | go_size)))).mono ?_); rintro e w' ⟨rfl, hb⟩; obtain ⟨bs4, d4, rfl⟩ := below_grow hb; clear hb)
    | (go_at_call_of 35 (Value.pointer (some p)); (with_reducible refine (CL.out _ (by repeat' (first | (with_reducible exact Below.refl _ _) | (with_reducible assumption) | (with_reducible refine below_over ?_ _ _) | (with_reducible refine Lw.below_alloc ?_ _) | (with_reducible refine Below.drew ?_) | (with_reducible refine below_drewN ?_ _) | (with_reducible refine Below.setCell ?_ ?_ _) | go_size))).mono ?_); rintro e w3 ⟨g1, cap1, rfl, h1, h2, -, -, hb⟩; have HV3 := Lib.hid ((HBX.out.up (by repeat' (first | (with_reducible exact Below.refl _ _) | (with_reducible assumption) | (with_reducible refine below_over ?_ _ _) | (with_reducible refine Lw.below_alloc ?_ _) | (with_reducible refine Below.drew ?_) | (with_reducible refine below_drewN ?_ _) | (with_reducible refine Below.setCell ?_ ?_ _) | go_size))).push (midT g1 L) hb h1 (fun k hk => by subst hk; exact h2)); clear h1 h2 hb)
    | (go_at_call_of 35 (Value.pointer (some q)); (with_reducible refine (CM.out _ HV3.out.below).mono ?_); rintro e w4 ⟨g2, cap2, rfl, h1, h2, -, -, hb⟩; have HV4 := Lib.hid (HV3.out.push (midT g2 M) hb h1 (fun k hk => by subst hk; exact h2)); clear h1 h2 hb)
    | (go_at_call 30; (with_reducible refine (CD.out _ _ _ _ _ (midI HV4.out.i1).rd (midI HV4.out.i0).rd).mono ?_); rintro e w5 ⟨rfl, hb⟩; have HV5 := Lib.hid (HV4.out.up hb); obtain ⟨r0, r1⟩ := box2 HV5.out.i2; have q0 := boxs_frozen HV5.out.i2 0; have q1 := boxs_frozen HV5.out.i2 1; have hsz := box_lt HV5.out.i2; have lz := lt_sz hsz; clear hb))
  refine bodyPost_ret (v := .tuple #[.agg #[.int .i64 (ph), .int .u64 (pl)], .int .i64 (0)]) (by simp [results, Try.results22, go_sem, r0, r1, q0, q1, hsz, lz]) rfl ?_
  have hbc := HV5.out.below
  exact ⟨rfl, (by repeat' (first | (with_reducible exact Below.refl _ _) | (with_reducible assumption) | (with_reducible refine below_over ?_ _ _) | (with_reducible refine Lw.below_alloc ?_ _) | (with_reducible refine Below.drew ?_) | (with_reducible refine below_drewN ?_ _) | (with_reducible refine Below.setCell ?_ ?_ _) | go_size))⟩
set_option maxRecDepth 100000 in
set_option maxHeartbeats 4000000 in
theorem prod_over (p : Addr) (F : Nat → Prop) (c : Cfg) (l : Int) (L : List Int) (q : Addr) (G : Nat → Prop) (M : List Int) (w : World) (h : EX w p F c l L) (g : EX w q G c l M) (hmd : c.md = 1) (hd : dok L M = false) :
    Calls Try.prog 22 #[.pointer (some p), .pointer (some q)] w fun e w' => e = .returned (.tuple #[.agg #[.int .i64 (0), .int .u64 (0)], .int .i64 (4)]) ∧ Below w.heap.size w w' := by
  have H := Lib.hid h
  have G := Lib.hid g
  have sL := h.size
  have sM := g.size
  have IL := h.in64
  have IM := g.in64
  have CD := Lib.hid (fun (A B : Option Addr) (ca cb : Nat) w hx hy => idot_any A B L.length M.length ca cb L M w hx hy rfl rfl (by omega) IL IM)
  rw [hd] at CD
  obtain ⟨ph, hph⟩ : ∃ v, dhi L M = v := ⟨_, rfl⟩
  obtain ⟨pl, hpl⟩ : ∃ v, dlo L M = v := ⟨_, rfl⟩
  rw [hph, hpl] at CD
  have CL := Lib.hid (fun w' (hb : Below w.heap.size w w') => ecells_mid p F c l L w' (h.up hb))
  have CM := Lib.hid (fun w' (hb : Below w.heap.size w w') => ecells_mid q _ c l M w' (g.up hb))
  have hfd := fld_md c
  have hm : (c.md != 1) = false := by simp [hmd]
  have HBX : Hid (Have w (w.alloc (.cells #[.int .i64 0, .int .u64 0] 43)) [boxT w.heap.size 43 #[.int .i64 0, .int .u64 0]]) := Lib.hid (box_new w _ _)
  clear h g hmd hd sL sM IL IM hph hpl
  go_enter Try.func22, Try.ntmps22
  go_wp2_with (first
    | (go_at_call_of 33 (Value.pointer (some p)); (with_reducible refine (econfig_any _ _ _ _ _ _ (H.out.up (by repeat' (first | (with_reducible exact Below.refl _ _) | (with_reducible assumption) | (with_reducible refine below_over ?_ _ _) | (with_reducible refine Lw.below_alloc ?_ _) | (with_reducible refine Below.drew ?_) | (with_reducible refine below_drewN ?_ _) | (with_reducible refine Below.setCell ?_ ?_ _) | go_size)))).mono ?_); rintro e w' ⟨rfl, hb⟩; obtain ⟨bs1, d1, rfl⟩ := below_grow hb; clear hb)
    | (go_at_call_of 33 (Value.pointer (some q)); (with_reducible refine (econfig_any _ _ _ _ _ _ (G.out.up (by repeat' (first | (with_reducible exact Below.refl _ _) | (with_reducible assumption) | (with_reducible refine below_over ?_ _ _) | (with_reducible refine Lw.below_alloc ?_ _) | (with_reducible refine Below.drew ?_) | (with_reducible refine below_drewN ?_ _) | (with_reducible refine Below.setCell ?_ ?_ _) | go_size)))).mono ?_); rintro e w' ⟨rfl, hb⟩; obtain ⟨bs2, d2, rfl⟩ := below_grow hb; clear hb)
    | (go_at_call_of 34 (Value.pointer (some p)); (with_reducible refine (elevel_any _ _ _ _ _ _ (H.out.up (by repeat' (first | (with_reducible exact Below.refl _ _) | (with_reducible assumption) | (with_reducible refine below_over ?_ _ _) | (with_reducible refine Lw.below_alloc ?_ _) | (with_reducible refine Below.drew ?_) | (with_reducible refine below_drewN ?_ _) | (with_reducible refine Below.setCell ?_ ?_ _) | go_size)))).mono ?_); rintro e w' ⟨rfl, hb⟩; obtain ⟨bs3, d3, rfl⟩ := below_grow hb; clear hb)
    | (go_at_call_of 34 (Value.pointer (some q)); (with_reducible refine (elevel_any _ _ _ _ _ _ (G.out.up (by repeat' (first | (with_reducible exact Below.refl _ _) | (with_reducible assumption) | (with_reducible refine below_over ?_ _ _) | (with_reducible refine Lw.below_alloc ?_ _) | (with_reducible refine Below.drew ?_) | (with_reducible refine below_drewN ?_ _) | (with_reducible refine Below.setCell ?_ ?_ _) | go_size)))).mono ?_); rintro e w' ⟨rfl, hb⟩; obtain ⟨bs4, d4, rfl⟩ := below_grow hb; clear hb)
    | (go_at_call_of 35 (Value.pointer (some p)); (with_reducible refine (CL.out _ (by repeat' (first | (with_reducible exact Below.refl _ _) | (with_reducible assumption) | (with_reducible refine below_over ?_ _ _) | (with_reducible refine Lw.below_alloc ?_ _) | (with_reducible refine Below.drew ?_) | (with_reducible refine below_drewN ?_ _) | (with_reducible refine Below.setCell ?_ ?_ _) | go_size))).mono ?_); rintro e w3 ⟨g1, cap1, rfl, h1, h2, -, -, hb⟩; have HV3 := Lib.hid ((HBX.out.up (by repeat' (first | (with_reducible exact Below.refl _ _) | (with_reducible assumption) | (with_reducible refine below_over ?_ _ _) | (with_reducible refine Lw.below_alloc ?_ _) | (with_reducible refine Below.drew ?_) | (with_reducible refine below_drewN ?_ _) | (with_reducible refine Below.setCell ?_ ?_ _) | go_size))).push (midT g1 L) hb h1 (fun k hk => by subst hk; exact h2)); clear h1 h2 hb)
    | (go_at_call_of 35 (Value.pointer (some q)); (with_reducible refine (CM.out _ HV3.out.below).mono ?_); rintro e w4 ⟨g2, cap2, rfl, h1, h2, -, -, hb⟩; have HV4 := Lib.hid (HV3.out.push (midT g2 M) hb h1 (fun k hk => by subst hk; exact h2)); clear h1 h2 hb)
    | (go_at_call 30; (with_reducible refine (CD.out _ _ _ _ _ (midI HV4.out.i1).rd (midI HV4.out.i0).rd).mono ?_); rintro e w5 ⟨rfl, hb⟩; have HV5 := Lib.hid (HV4.out.up hb); obtain ⟨r0, r1⟩ := box2 HV5.out.i2; have q0 := boxs_frozen HV5.out.i2 0; have q1 := boxs_frozen HV5.out.i2 1; have hsz := box_lt HV5.out.i2; have lz := lt_sz hsz; clear hb))
  refine bodyPost_ret (v := .tuple #[.agg #[.int .i64 (0), .int .u64 (0)], .int .i64 (4)]) (by simp [results, Try.results22, go_sem, r0, r1, q0, q1, hsz, lz]) rfl ?_
  have hbc := HV5.out.below
  exact ⟨rfl, (by repeat' (first | (with_reducible exact Below.refl _ _) | (with_reducible assumption) | (with_reducible refine below_over ?_ _ _) | (with_reducible refine Lw.below_alloc ?_ _) | (with_reducible refine Below.drew ?_) | (with_reducible refine below_drewN ?_ _) | (with_reducible refine Below.setCell ?_ ?_ _) | go_size))⟩
set_option maxRecDepth 100000 in
set_option maxHeartbeats 4000000 in
theorem vinner_AS (p q : Addr) (w : World) :
    Calls Try.prog 12 #[.iface 48 (.pointer (some p)), .iface 32 (.pointer (some q))] w fun e w' => e = .returned (.tuple #[.agg #[.int .i64 (0), .int .u64 (0)], .int .i64 (5)]) ∧ Below w.heap.size w w' := by
  go_enter Try.func12, Try.ntmps12
  go_wp2_with (first
    | (go_at_call_of 20 (Value.iface 48 (.pointer (some p))); (with_reducible refine (veith_A p _).mono ?_); rintro e w1 ⟨rfl, hb⟩; obtain ⟨bs1, d1, rfl⟩ := below_grow hb; clear hb)
    | (go_at_call_of 20 (Value.iface 32 (.pointer (some q))); (with_reducible refine (veith_S q _).mono ?_); rintro e w1 ⟨rfl, hb⟩; obtain ⟨bs2, d2, rfl⟩ := below_grow hb; clear hb)
    | (go_at_call 22; (with_reducible refine (prod_nil2 p _).mono ?_); rintro e w2 ⟨rfl, hb⟩; obtain ⟨bs3, d3, rfl⟩ := below_grow hb; clear hb))
  go_returns
  exact ⟨rfl, (by repeat' (first | (with_reducible exact Below.refl _ _) | (with_reducible assumption) | (with_reducible refine below_over ?_ _ _) | (with_reducible refine Lw.below_alloc ?_ _) | (with_reducible refine Below.drew ?_) | (with_reducible refine below_drewN ?_ _) | (with_reducible refine Below.setCell ?_ ?_ _) | go_size))⟩
set_option maxRecDepth 100000 in
set_option maxHeartbeats 4000000 in
theorem vinner_SA (p q : Addr) (w : World) :
    Calls Try.prog 12 #[.iface 32 (.pointer (some p)), .iface 48 (.pointer (some q))] w fun e w' => e = .returned (.tuple #[.agg #[.int .i64 (0), .int .u64 (0)], .int .i64 (5)]) ∧ Below w.heap.size w w' := by
  go_enter Try.func12, Try.ntmps12
  go_wp2_with (first
    | (go_at_call_of 20 (Value.iface 32 (.pointer (some p))); (with_reducible refine (veith_S p _).mono ?_); rintro e w1 ⟨rfl, hb⟩; obtain ⟨bs1, d1, rfl⟩ := below_grow hb; clear hb)
    | (go_at_call_of 20 (Value.iface 48 (.pointer (some q))); (with_reducible refine (veith_A q _).mono ?_); rintro e w1 ⟨rfl, hb⟩; obtain ⟨bs2, d2, rfl⟩ := below_grow hb; clear hb)
    | (go_at_call 22; (with_reducible refine (prod_nil1 _ (.inr ⟨q, rfl⟩) _).mono ?_); rintro e w2 ⟨rfl, hb⟩; obtain ⟨bs3, d3, rfl⟩ := below_grow hb; clear hb))
  go_returns
  exact ⟨rfl, (by repeat' (first | (with_reducible exact Below.refl _ _) | (with_reducible assumption) | (with_reducible refine below_over ?_ _ _) | (with_reducible refine Lw.below_alloc ?_ _) | (with_reducible refine Below.drew ?_) | (with_reducible refine below_drewN ?_ _) | (with_reducible refine Below.setCell ?_ ?_ _) | go_size))⟩
set_option maxRecDepth 100000 in
set_option maxHeartbeats 4000000 in
theorem vinnerU_A (p : Addr) (F : Nat → Prop) (c : Cfg) (l : Int) (L : List Int) (q : Addr) (G : Nat → Prop) (c' : Cfg) (l' : Int) (M : List Int) (w : World) (h : EX w p F c l L) (g : EX w q G c' l' M) (hn : ¬ (cfgE c c' = true ∧ l = l')):
    Calls Try.prog 12 #[.iface 48 (.pointer (some p)), .iface 48 (.pointer (some q))] w fun e w' => e = .returned (.tuple #[.agg #[.int .i64 (0), .int .u64 (0)], .int .i64 (5)]) ∧ Below w.heap.size w w' := by
  have C := Lib.hid (fun w' (hb : Below w.heap.size w w') => prod_no p F c l L q G c' l' M w' (h.up hb) (g.up hb) hn)
  clear h g hn
  go_enter Try.func12, Try.ntmps12
  go_wp2_with (first
    | (go_at_call_of 20 (Value.iface 48 (.pointer (some p))); (with_reducible refine (veith_A p _).mono ?_); rintro e w1 ⟨rfl, hb⟩; obtain ⟨bs1, d1, rfl⟩ := below_grow hb; clear hb)
    | (go_at_call_of 20 (Value.iface 48 (.pointer (some q))); (with_reducible refine (veith_A q _).mono ?_); rintro e w1 ⟨rfl, hb⟩; obtain ⟨bs2, d2, rfl⟩ := below_grow hb; clear hb)
    | (go_at_call 22; (with_reducible refine (C.out _ (by repeat' (first | (with_reducible exact Below.refl _ _) | (with_reducible assumption) | (with_reducible refine below_over ?_ _ _) | (with_reducible refine Lw.below_alloc ?_ _) | (with_reducible refine Below.drew ?_) | (with_reducible refine below_drewN ?_ _) | (with_reducible refine Below.setCell ?_ ?_ _) | go_size))).mono ?_); rintro e w2 ⟨rfl, hb⟩; obtain ⟨bs3, d3, rfl⟩ := below_grow hb; clear hb))
  go_returns
  exact ⟨rfl, (by repeat' (first | (with_reducible exact Below.refl _ _) | (with_reducible assumption) | (with_reducible refine below_over ?_ _ _) | (with_reducible refine Lw.below_alloc ?_ _) | (with_reducible refine Below.drew ?_) | (with_reducible refine below_drewN ?_ _) | (with_reducible refine Below.setCell ?_ ?_ _) | go_size))⟩
set_option maxRecDepth 100000 in
set_option maxHeartbeats 4000000 in
theorem vinner_Amode (p : Addr) (F : Nat → Prop) (c : Cfg) (l : Int) (L : List Int) (q : Addr) (G : Nat → Prop) (M : List Int) (w : World) (h : EX w p F c l L) (g : EX w q G c l M) (hn : c.md ≠ 1):
    Calls Try.prog 12 #[.iface 48 (.pointer (some p)), .iface 48 (.pointer (some q))] w fun e w' => e = .returned (.tuple #[.agg #[.int .i64 (0), .int .u64 (0)], .int .i64 (3)]) ∧ Below w.heap.size w w' := by
  have C := Lib.hid (fun w' (hb : Below w.heap.size w w') => prod_mode p F c l L q G M w' (h.up hb) (g.up hb) hn)
  clear h g hn
  go_enter Try.func12, Try.ntmps12
  go_wp2_with (first
    | (go_at_call_of 20 (Value.iface 48 (.pointer (some p))); (with_reducible refine (veith_A p _).mono ?_); rintro e w1 ⟨rfl, hb⟩; obtain ⟨bs1, d1, rfl⟩ := below_grow hb; clear hb)
    | (go_at_call_of 20 (Value.iface 48 (.pointer (some q))); (with_reducible refine (veith_A q _).mono ?_); rintro e w1 ⟨rfl, hb⟩; obtain ⟨bs2, d2, rfl⟩ := below_grow hb; clear hb)
    | (go_at_call 22; (with_reducible refine (C.out _ (by repeat' (first | (with_reducible exact Below.refl _ _) | (with_reducible assumption) | (with_reducible refine below_over ?_ _ _) | (with_reducible refine Lw.below_alloc ?_ _) | (with_reducible refine Below.drew ?_) | (with_reducible refine below_drewN ?_ _) | (with_reducible refine Below.setCell ?_ ?_ _) | go_size))).mono ?_); rintro e w2 ⟨rfl, hb⟩; obtain ⟨bs3, d3, rfl⟩ := below_grow hb; clear hb))
  go_returns
  exact ⟨rfl, (by repeat' (first | (with_reducible exact Below.refl _ _) | (with_reducible assumption) | (with_reducible refine below_over ?_ _ _) | (with_reducible refine Lw.below_alloc ?_ _) | (with_reducible refine Below.drew ?_) | (with_reducible refine below_drewN ?_ _) | (with_reducible refine Below.setCell ?_ ?_ _) | go_size))⟩
set_option maxRecDepth 100000 in
set_option maxHeartbeats 4000000 in
theorem vinner_Aover (p : Addr) (F : Nat → Prop) (c : Cfg) (l : Int) (L : List Int) (q : Addr) (G : Nat → Prop) (M : List Int) (w : World) (h : EX w p F c l L) (g : EX w q G c l M) (hmd : c.md = 1) (hd : dok L M = false):
    Calls Try.prog 12 #[.iface 48 (.pointer (some p)), .iface 48 (.pointer (some q))] w fun e w' => e = .returned (.tuple #[.agg #[.int .i64 (0), .int .u64 (0)], .int .i64 (4)]) ∧ Below w.heap.size w w' := by
  have C := Lib.hid (fun w' (hb : Below w.heap.size w w') => prod_over p F c l L q G M w' (h.up hb) (g.up hb) hmd hd)
  clear h g hmd hd
  go_enter Try.func12, Try.ntmps12
  go_wp2_with (first
    | (go_at_call_of 20 (Value.iface 48 (.pointer (some p))); (with_reducible refine (veith_A p _).mono ?_); rintro e w1 ⟨rfl, hb⟩; obtain ⟨bs1, d1, rfl⟩ := below_grow hb; clear hb)
    | (go_at_call_of 20 (Value.iface 48 (.pointer (some q))); (with_reducible refine (veith_A q _).mono ?_); rintro e w1 ⟨rfl, hb⟩; obtain ⟨bs2, d2, rfl⟩ := below_grow hb; clear hb)
    | (go_at_call 22; (with_reducible refine (C.out _ (by repeat' (first | (with_reducible exact Below.refl _ _) | (with_reducible assumption) | (with_reducible refine below_over ?_ _ _) | (with_reducible refine Lw.below_alloc ?_ _) | (with_reducible refine Below.drew ?_) | (with_reducible refine below_drewN ?_ _) | (with_reducible refine Below.setCell ?_ ?_ _) | go_size))).mono ?_); rintro e w2 ⟨rfl, hb⟩; obtain ⟨bs3, d3, rfl⟩ := below_grow hb; clear hb))
  go_returns
  exact ⟨rfl, (by repeat' (first | (with_reducible exact Below.refl _ _) | (with_reducible assumption) | (with_reducible refine below_over ?_ _ _) | (with_reducible refine Lw.below_alloc ?_ _) | (with_reducible refine Below.drew ?_) | (with_reducible refine below_drewN ?_ _) | (with_reducible refine Below.setCell ?_ ?_ _) | go_size))⟩
set_option maxRecDepth 100000 in
set_option maxHeartbeats 4000000 in
theorem vinner_Ayes (p : Addr) (F : Nat → Prop) (c : Cfg) (l : Int) (L : List Int) (q : Addr) (G : Nat → Prop) (M : List Int) (w : World) (h : EX w p F c l L) (g : EX w q G c l M) (hmd : c.md = 1) (hd : dok L M = true):
    Calls Try.prog 12 #[.iface 48 (.pointer (some p)), .iface 48 (.pointer (some q))] w fun e w' => e = .returned (.tuple #[.agg #[.int .i64 (dhi L M), .int .u64 (dlo L M)], .int .i64 (0)]) ∧ Below w.heap.size w w' := by
  have C := Lib.hid (fun w' (hb : Below w.heap.size w w') => prod_yes p F c l L q G M w' (h.up hb) (g.up hb) hmd hd)
  obtain ⟨ph, hph⟩ : ∃ v, dhi L M = v := ⟨_, rfl⟩
  obtain ⟨pl, hpl⟩ : ∃ v, dlo L M = v := ⟨_, rfl⟩
  rw [hph, hpl] at C ⊢
  clear h g hmd hd hph hpl
  go_enter Try.func12, Try.ntmps12
  go_wp2_with (first
    | (go_at_call_of 20 (Value.iface 48 (.pointer (some p))); (with_reducible refine (veith_A p _).mono ?_); rintro e w1 ⟨rfl, hb⟩; obtain ⟨bs1, d1, rfl⟩ := below_grow hb; clear hb)
    | (go_at_call_of 20 (Value.iface 48 (.pointer (some q))); (with_reducible refine (veith_A q _).mono ?_); rintro e w1 ⟨rfl, hb⟩; obtain ⟨bs2, d2, rfl⟩ := below_grow hb; clear hb)
    | (go_at_call 22; (with_reducible refine (C.out _ (by repeat' (first | (with_reducible exact Below.refl _ _) | (with_reducible assumption) | (with_reducible refine below_over ?_ _ _) | (with_reducible refine Lw.below_alloc ?_ _) | (with_reducible refine Below.drew ?_) | (with_reducible refine below_drewN ?_ _) | (with_reducible refine Below.setCell ?_ ?_ _) | go_size))).mono ?_); rintro e w2 ⟨rfl, hb⟩; obtain ⟨bs3, d3, rfl⟩ := below_grow hb; clear hb))
  go_returns
  exact ⟨rfl, (by repeat' (first | (with_reducible exact Below.refl _ _) | (with_reducible assumption) | (with_reducible refine below_over ?_ _ _) | (with_reducible refine Lw.below_alloc ?_ _) | (with_reducible refine Below.drew ?_) | (with_reducible refine below_drewN ?_ _) | (with_reducible refine Below.setCell ?_ ?_ _) | go_size))⟩
theorem vinner_A (p : Addr) (F : Nat → Prop) (c : Cfg) (l : Int) (L : List Int) (q : Addr) (G : Nat → Prop) (M : List Int) (w : World) (h : EX w p F c l L) (g : EX w q G c l M) :
    Calls Try.prog 12 #[.iface 48 (.pointer (some p)), .iface 48 (.pointer (some q))] w fun e w' => e = .returned (.tuple #[.agg #[.int .i64 (aiH c.md L M), .int .u64 (aiL c.md L M)], .int .i64 (aiC c.md L M)]) ∧ Below w.heap.size w w' := by
  unfold aiH aiL aiC
  by_cases hm : c.md = 1
  · rw [if_pos hm, if_pos hm, if_pos hm]
    cases ho : dok L M with
    | true => exact vinner_Ayes p F c l L q G M w h g hm ho
    | false => exact vinner_Aover p F c l L q G M w h g hm ho
  · rw [if_neg hm, if_neg hm, if_neg hm]
    exact vinner_Amode p F c l L q G M w h g hm
set_option maxRecDepth 100000 in
set_option maxHeartbeats 4000000 in
theorem vinnerU_S (p : Addr) (F : Nat → Prop) (c : Cfg) (l : Int) (L : List (List Int)) (q : Addr) (G : Nat → Prop) (c' : Cfg) (l' : Int) (M : List (List Int)) (w : World) (h : SK w p F c l L) (g : SK w q G c' l' M) :
    Calls Try.prog 12 #[.iface 32 (.pointer (some p)), .iface 32 (.pointer (some q))] w fun e w' => e = .returned (.tuple #[.agg #[.int .i64 (Wid.fh (inVal c c' l l' L M)), .int .u64 (Wid.fl (inVal c c' l l' L M))], .int .i64 (inCode c c' l l' L M)]) ∧ Below w.heap.size w w' := by
  have C := Lib.hid (fun w' (hb : Below w.heap.size w w') => inner_any p F c l L q G c' l' M w' (h.up hb) (g.up hb))
  obtain ⟨ph, hph⟩ : ∃ v, Wid.fh (inVal c c' l l' L M) = v := ⟨_, rfl⟩
  obtain ⟨pl, hpl⟩ : ∃ v, Wid.fl (inVal c c' l l' L M) = v := ⟨_, rfl⟩
  obtain ⟨pc, hpc⟩ : ∃ v, inCode c c' l l' L M = v := ⟨_, rfl⟩
  rw [hph, hpl, hpc] at C ⊢
  clear h g hph hpl hpc
  go_enter Try.func12, Try.ntmps12
  go_wp2_with (first
    | (go_at_call_of 20 (Value.iface 32 (.pointer (some p))); (with_reducible refine (veith_S p _).mono ?_); rintro e w1 ⟨rfl, hb⟩; obtain ⟨bs1, d1, rfl⟩ := below_grow hb; clear hb)
    | (go_at_call_of 20 (Value.iface 32 (.pointer (some q))); (with_reducible refine (veith_S q _).mono ?_); rintro e w1 ⟨rfl, hb⟩; obtain ⟨bs2, d2, rfl⟩ := below_grow hb; clear hb)
    | (go_at_call 21; (with_reducible refine (C.out _ (by repeat' (first | (with_reducible exact Below.refl _ _) | (with_reducible assumption) | (with_reducible refine below_over ?_ _ _) | (with_reducible refine Lw.below_alloc ?_ _) | (with_reducible refine Below.drew ?_) | (with_reducible refine below_drewN ?_ _) | (with_reducible refine Below.setCell ?_ ?_ _) | go_size))).mono ?_); rintro e w2 ⟨rfl, hb⟩; obtain ⟨bs3, d3, rfl⟩ := below_grow hb; clear hb))
  go_returns
  exact ⟨rfl, (by repeat' (first | (with_reducible exact Below.refl _ _) | (with_reducible assumption) | (with_reducible refine below_over ?_ _ _) | (with_reducible refine Lw.below_alloc ?_ _) | (with_reducible refine Below.drew ?_) | (with_reducible refine below_drewN ?_ _) | (with_reducible refine Below.setCell ?_ ?_ _) | go_size))⟩
theorem vinner_S (p : Addr) (F : Nat → Prop) (c : Cfg) (l : Int) (L : List (List Int)) (q : Addr) (G : Nat → Prop) (M : List (List Int)) (w : World) (h : SK w p F c l L) (g : SK w q G c l M) :
    Calls Try.prog 12 #[.iface 32 (.pointer (some p)), .iface 32 (.pointer (some q))] w fun e w' => e = .returned (.tuple #[.agg #[.int .i64 (Wid.fh (inVal c c l l L M)), .int .u64 (Wid.fl (inVal c c l l L M))], .int .i64 (inCode c c l l L M)]) ∧ Below w.heap.size w w' :=
  vinnerU_S p F c l L q G c l M w h g
end Go.Proofs.Ytkannodfamnmcaa.Lev
namespace Go.Proofs.Ytkannodfamnmcaa.Lev
open Go Go.RowKit Lw Grd Lin Con Shp Sk Exa Inn
set_option linter.unusedVariables false
set_option linter.unusedSimpArgs false
def lA : Cfg := ⟨2, 2, 2, 1, 0⟩
theorem lA_ok : lA.Ok := by constructor <;> decide
theorem n0 (w : World) : Calls Try.prog 5 #[.agg #[.int .i64 2, .int .i64 2, .int .i64 2, .int .i64 1, .int .u64 0], .int .i64 0] w fun e w' => ∃ (p : Addr) (F : Nat → Prop), e = .returned (.tuple #[.iface 32 (.pointer (some p)), .int .i64 0]) ∧ SK w' p F lA 0 (zerosL 2 2) ∧ (∀ k, F k → w.heap.size ≤ k) ∧ Below w.heap.size w w' := vnew_S lA 0 w lA_ok (by omega) (by omega) (by decide) (by decide)
theorem n1 (w : World) : Calls Try.prog 5 #[.agg #[.int .i64 2, .int .i64 2, .int .i64 2, .int .i64 1, .int .u64 0], .int .i64 1] w fun e w' => ∃ (p : Addr) (F : Nat → Prop), e = .returned (.tuple #[.iface 48 (.pointer (some p)), .int .i64 0]) ∧ EX w' p F lA 1 [0, 0] ∧ (∀ k, F k → w.heap.size ≤ k) ∧ Below w.heap.size w w' := vnew_A lA 1 w lA_ok (by omega) (by omega) (by decide)
theorem n3 (w : World) : Calls Try.prog 5 #[.agg #[.int .i64 2, .int .i64 2, .int .i64 2, .int .i64 1, .int .u64 0], .int .i64 3] w fun e w' => e = .returned (.tuple #[.nilIface, .int .i64 1]) ∧ Below w.heap.size w w' := vnew_N lA 3 w lA_ok (by omega) (by omega) (by decide)
theorem upd_b (q : Addr) (G : Nat → Prop) (w : World) (h : EX w q G lA 1 [0, 0]) : Calls Try.prog 113 #[.pointer (some q), .int .u64 1, .int .i64 5] w fun e w' => e = .returned (.int .i64 0) ∧ ∃ F', EX w' q F' lA 1 [0, 5] ∧ Kept G w w' ∧ (∀ k, F' k → G k ∨ w.heap.size ≤ k) := by
  have C := eupd_any q G lA 1 [0, 0] 1 5 w h (by omega) (by omega) (by omega) (by omega)
  rw [show exCode lA.md [0, 0] 1 5 = 0 by decide, show exRes lA.md [0, 0] 1 5 = [0, 5] by decide] at C
  exact C
theorem inn_b (q : Addr) (G : Nat → Prop) (w : World) (h : EX w q G lA 1 [0, 5]) : Calls Try.prog 12 #[.iface 48 (.pointer (some q)), .iface 48 (.pointer (some q))] w fun e w' => e = .returned (.tuple #[.agg #[.int .i64 0, .int .u64 25], .int .i64 0]) ∧ Below w.heap.size w w' := by
  have C := vinner_A q G lA 1 [0, 5] q G [0, 5] w h h
  rw [show aiH lA.md [0, 5] [0, 5] = 0 by decide, show aiL lA.md [0, 5] [0, 5] = 25 by decide, show aiC lA.md [0, 5] [0, 5] = 0 by decide] at C
  exact C
theorem mrg_b (q : Addr) (G : Nat → Prop) (w : World) (h : EX w q G lA 1 [0, 5]) : Calls Try.prog 14 #[.iface 48 (.pointer (some q)), .iface 48 (.pointer (some q))] w fun e w' => e = .returned (.int .i64 0) ∧ ∃ F', EX w' q F' lA 1 [0, 10] ∧ Kept G w w' ∧ (∀ k, F' k → G k ∨ w.heap.size ≤ k) := by
  have C := vmerge_A q G lA 1 [0, 5] q G lA 1 [0, 5] w h h
  rw [show mgC 1 lA lA 1 1 [0, 5] [0, 5] = 0 by decide, show mgR 1 lA lA 1 1 [0, 5] [0, 5] = [0, 10] by decide] at C
  exact C
theorem of25 (w : World) : Calls Try.prog 13 #[.int .i64 25] w fun e w' => e = .returned (.agg #[.int .i64 0, .int .u64 25]) ∧ Below w.heap.size w w' := Wid.of_any 25 w (by omega) (by omega)
theorem u1 : exCode lA.md [0, 0] 1 5 = 0 ∧ exRes lA.md [0, 0] 1 5 = [0, 5] := by decide
set_option maxRecDepth 100000 in
set_option maxHeartbeats 8000000 in
theorem shown_any (w : World) : Calls Try.prog 4 #[] w fun e w' => e = .returned (.bool true) ∧ Below w.heap.size w w' := by
  have HV0 : Hid (Have w (w.alloc (.cells #[.int .i64 2, .int .i64 2, .int .i64 2, .int .i64 1, .int .u64 0] 24)) [boxT w.heap.size 24 #[.int .i64 2, .int .i64 2, .int .i64 2, .int .i64 1, .int .u64 0]]) := Lib.hid (box_new w _ _)
  go_enter Try.func4, Try.ntmps4
  go_upto_region 10 with (first
    | (go_at_call 9; (with_reducible refine (vmust_S p _).mono ?_); rintro e w6 ⟨rfl, hb⟩; have HV6 := Lib.hid (HV5.out.up hb); clear hb; clear c0 c1 c2 c3 c4; obtain ⟨c0, c1, c2, c3, c4⟩ := box5 HV6.out.i2)
    | (go_at_call 7; (with_reducible refine (vas_A q _).mono ?_); rintro e w5 ⟨rfl, hb⟩; have HV5 := Lib.hid (HV4.out.up hb); clear hb; clear c0 c1 c2 c3 c4; obtain ⟨c0, c1, c2, c3, c4⟩ := box5 HV5.out.i2)
    | (go_at_call 7; (with_reducible refine (vas_S p _).mono ?_); rintro e w4 ⟨rfl, hb⟩; have HV4 := Lib.hid (HV3.out.up hb); clear hb; clear c0 c1 c2 c3 c4; obtain ⟨c0, c1, c2, c3, c4⟩ := box5 HV4.out.i2)
    | (go_at_call 5; (with_reducible refine (n3 _).mono ?_); rintro e w3 ⟨rfl, hb⟩; have HV3 := Lib.hid (HV2.out.up hb); clear hb; clear c0 c1 c2 c3 c4; obtain ⟨c0, c1, c2, c3, c4⟩ := box5 HV3.out.i2)
    | (go_at_call 5; (with_reducible refine (n1 _).mono ?_); rintro e w2 ⟨q, G, rfl, h1, h2, hb⟩; have HV2 := Lib.hid (HV1.out.push (exT q G lA 1 [0, 0]) hb h1 h2); clear h1 h2 hb; clear c0 c1 c2 c3 c4; obtain ⟨c0, c1, c2, c3, c4⟩ := box5 HV2.out.i2)
    | (go_at_call 5; (with_reducible refine (n0 _).mono ?_); rintro e w1 ⟨p, F, rfl, h1, h2, hb⟩; have HV1 := Lib.hid (HV0.out.push (skT p F lA 0 (zerosL 2 2)) hb h1 h2); clear h1 h2 hb; obtain ⟨c0, c1, c2, c3, c4⟩ := box5 HV1.out.i1))
  go_upto_region 11 with (go_at_call 113; (with_reducible refine (upd_b q G _ (exI HV6.out.i0)).mono ?_); rintro e w7 ⟨rfl, G2, h1, h2, h3⟩; have HV7 := Lib.hid (HV6.out.turn_0 (exT q G2 lA 1 [0, 5]) h1 h2 h3); clear h1 h2 h3; clear c0 c1 c2 c3 c4; obtain ⟨c0, c1, c2, c3, c4⟩ := box5 HV7.out.i2)
  go_upto_region 12 with (go_at_call 12; (with_reducible refine (inn_b q G2 _ (exI HV7.out.i0)).mono ?_); rintro e w8 ⟨rfl, hb⟩; have HV8 := Lib.hid ((HV7.out.up hb).push (boxT w8.heap.size 43 #[.int .i64 0, .int .u64 25]) (Lw.below_alloc (Below.refl _ _) _) (heap_alloc_new w8 _) (fun k hk => Nat.le_of_eq hk.symm)); clear hb c0 c1 c2 c3 c4)
  obtain ⟨gx, hgx⟩ : ∃ gx, w8.heap.size = gx := ⟨_, rfl⟩
  rw [hgx] at HV8 ⊢
  have r0 := box_cell (i := 0) HV8.out.i0 rfl
  have r1 := box_cell (i := 1) HV8.out.i0 rfl
  go_region_held3 (fun w' => w'.cell? ⟨gx, 0, none⟩ = some (.int .i64 0) ∧ w'.cell? ⟨gx, 1, none⟩ = some (.int .u64 25)) (first | (refine ⟨?_, ?_⟩ <;> (first | (with_reducible assumption) | (with_reducible refine cell_up r0 ?_) | (with_reducible refine cell_up r1 ?_)) <;> (repeat' (first | (with_reducible exact Below.refl _ _) | (with_reducible assumption) | (with_reducible refine below_over ?_ _ _) | (with_reducible refine Lw.below_alloc ?_ _) | (with_reducible refine Below.drew ?_) | (with_reducible refine below_drewN ?_ _) | (with_reducible refine Below.setCell ?_ ?_ _) | go_size)))) (first
    | (go_at_call 13; (with_reducible refine (of25 _).mono ?_); rintro e w' ⟨rfl, hb⟩; obtain ⟨bs1, dd1, rfl⟩ := below_grow hb; clear hb)
    | (go_at_call_of 14 (Value.iface 32 (.pointer (some p))); (with_reducible refine (vmerge_SA p q _).mono ?_); rintro e w' ⟨rfl, hb⟩; obtain ⟨bs2, dd2, rfl⟩ := below_grow hb; clear hb)
    | (go_at_call_of 14 (Value.iface 48 (.pointer (some q))); (with_reducible refine (mrg_b q G2 _ (exI (HV8.out.up (by repeat' (first | (with_reducible exact Below.refl _ _) | (with_reducible assumption) | (with_reducible refine below_over ?_ _ _) | (with_reducible refine Lw.below_alloc ?_ _) | (with_reducible refine Below.drew ?_) | (with_reducible refine below_drewN ?_ _) | (with_reducible refine Below.setCell ?_ ?_ _) | go_size))).i1)).mono ?_); rintro e w9 ⟨rfl, G3, h1, h2, h3⟩; have HV9 := Lib.hid ((HV8.out.up (by repeat' (first | (with_reducible exact Below.refl _ _) | (with_reducible assumption) | (with_reducible refine below_over ?_ _ _) | (with_reducible refine Lw.below_alloc ?_ _) | (with_reducible refine Below.drew ?_) | (with_reducible refine below_drewN ?_ _) | (with_reducible refine Below.setCell ?_ ?_ _) | go_size))).turn_1 (exT q G3 lA 1 [0, 10]) h1 h2 h3); clear h1 h2 h3 r0 r1; have r0 := box_cell (i := 0) HV9.out.i0 rfl; have r1 := box_cell (i := 1) HV9.out.i0 rfl))
  all_goals go_wp2
  all_goals go_ret
  all_goals exact ⟨ret_bs (by first | rfl | (simp [*]; done)), (HV9.out.up (by repeat' (first | (with_reducible exact Below.refl _ _) | (with_reducible assumption) | (with_reducible refine below_over ?_ _ _) | (with_reducible refine Lw.below_alloc ?_ _) | (with_reducible refine Below.drew ?_) | (with_reducible refine below_drewN ?_ _) | (with_reducible refine Below.setCell ?_ ?_ _) | go_size))).below⟩
end Go.Proofs.Ytkannodfamnmcaa.Lev
