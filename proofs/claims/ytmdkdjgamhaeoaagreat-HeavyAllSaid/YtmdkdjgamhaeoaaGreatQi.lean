/- Texts that statements lean on, put together: ExaRef, ExaJoin, ExaLawA, ExaShr, LevCode, ColOwn, Many, PcsMath, PcsRef, PcsCov, PcsDef. -/
import Derived.Test.YtmdkdjgamhaeoaaGreatQa
import Derived.Test.YtmdkdjgamhaeoaaGreatQb
import Derived.Test.YtmdkdjgamhaeoaaGreatQc
import Derived.Test.YtmdkdjgamhaeoaaGreatQd
import Derived.Test.YtmdkdjgamhaeoaaGreatQe
import Derived.Test.YtmdkdjgamhaeoaaGreatQg
import Derived.Test.YtmdkdjgamhaeoaaGreatQh
import Derived.Deep.LoopGhost
import Derived.Deep.RegionHeld3
import Derived.Deep.DeepCutAuto
import Derived.Deep.QuietTactic
import Derived.BigQuiet
import Derived.WalkSpells
/- The document's array: a block of its config, its level and its row. Printed by wip/gen/exaref.py. -/
namespace Go.Proofs.YtmdkdjgamhaeoaaGreat.Exa
open Go Go.RowKit Lw Grd Lin Con Shp Sk
set_option linter.unusedVariables false
set_option linter.unusedSimpArgs false
/-- An array of the document at p, in the blocks F. -/
def DA (w : World) (p : Addr) (F : Nat → Prop) (c : Cfg) (l : Int) (L : List Int) : Prop :=
  c.Ok ∧ L.length ≤ 128 ∧ In64 L ∧ ∃ (b g cap : Nat), p = ⟨b, 0, none⟩ ∧ w.heap[b]? = some (.cells #[.int .i64 c.bt, .int .i64 c.rw, .int .i64 c.wd, .int .i64 c.md, .int .u64 c.sd, .int .i64 l, .slice (some ⟨g, 0, none⟩) L.length cap] 118 (0, 0)) ∧ Ord.Mid w g 0 L ∧ L.length ≤ cap ∧ cap ≤ maxLen ∧ g ≠ b ∧ F = (fun k => k = b ∨ k = g)
theorem DA.keep {w' : World} {H : Nat → Prop} {w : World} {p : Addr} {F : Nat → Prop} {c : Cfg} {l : Int} {L : List Int} (h : DA w p F c l L) (hk : Kept H w w') (hf : ∀ k, F k → ¬ H k) : DA w' p F c l L := by
  obtain ⟨h1, h2, h3, b, g, cap, rfl, hb, hm, h4, h5, h6, rfl⟩ := h
  exact ⟨h1, h2, h3, b, g, cap, rfl, hk.heap hb (hf b (.inl rfl)), hm.keep hk (hf g (.inr rfl)), h4, h5, h6, rfl⟩
theorem DA.up {w' : World} {w : World} {p : Addr} {F : Nat → Prop} {c : Cfg} {l : Int} {L : List Int} (h : DA w p F c l L) (hk : Below w.heap.size w w') : DA w' p F c l L := h.keep (Kept.of_below (F := fun _ => False) hk) (fun _ _ h => h)
theorem DA.lt {w : World} {p : Addr} {F : Nat → Prop} {c : Cfg} {l : Int} {L : List Int} (h : DA w p F c l L) (k : Nat) (hk : F k) : k < w.heap.size := by
  obtain ⟨h1, h2, h3, b, g, cap, rfl, hb, hm, h4, h5, h6, rfl⟩ := h
  rcases hk with rfl | rfl
  · exact size_of_heap hb
  · exact hm.lt
def daT (p : Addr) (F : Nat → Prop) (c : Cfg) (l : Int) (L : List Int) : Thing where
  I := fun w => DA w p F c l L
  F := F
  keep := fun w w' H h hk hf => h.keep hk hf
  lt := fun w h k hk => h.lt k hk
theorem i64_info : (Tryz.prog.info? 2).map (fun i => (i.zero, i.size, i.bytes)) = some (some (.int .i64 0), 1, 8) := by kernel_rfl
theorem i64s_u : Tryz.prog.underlying 54 = some (.slice 2) := by kernel_rfl
end Go.Proofs.YtmdkdjgamhaeoaaGreat.Exa
/- The walk of the document's own Join for layer 12. Printed by wip/gen/exajoin.py. -/
namespace Go.Proofs.YtmdkdjgamhaeoaaGreat.Exa
open Go Go.RowKit Lw Grd Lin Con Shp Sk
set_option linter.unusedVariables false
set_option linter.unusedSimpArgs false
end Go.Proofs.YtmdkdjgamhaeoaaGreat.Exa
/- What the statements of layer 12 lean on: the level that is picked, and what must be in any case. Printed by wip/gen/exalawa.py. -/
namespace Go.Proofs.YtmdkdjgamhaeoaaGreat.Exa
open Go Go.RowKit Lw Grd Lin Con Shp Sk
set_option linter.unusedVariables false
set_option linter.unusedSimpArgs false
def eA : Cfg := ⟨2, 1, 2, 1, 0⟩
theorem u1 : exCode eA.md [0, 0] 1 5 = 0 ∧ exRes eA.md [0, 0] 1 5 = [0, 5] := by decide
theorem u2 : exCode eA.md [0, 5] 2 5 = 2 ∧ exRes eA.md [0, 5] 2 5 = [0, 5] := by decide
end Go.Proofs.YtmdkdjgamhaeoaaGreat.Exa
/- What several laws of layer 12 share. Printed by wip/gen/exalaws.py. -/
namespace Go.Proofs.YtmdkdjgamhaeoaaGreat.Exa
open Go Go.RowKit Lw Grd Lin Con Shp Sk
set_option linter.unusedVariables false
set_option linter.unusedSimpArgs false
theorem arr2_int_u : Tryz.prog.underlying 76 = some (.array 2 3) := by kernel_rfl
theorem arr2_int_c : Tryz.prog.cellsOf 76 = 2 := by kernel_rfl
theorem arr2_int_e : Tryz.prog.cellsOf 3 = 1 := by kernel_rfl
theorem arr2_int_k : Tryz.prog.underlying 3 = some (.int .i64) := by kernel_rfl
theorem arr2_int_l {α : Type} (T : Array α) (h : T.size = 2) : ∃ x0 x1 : α, T = #[x0, x1] := by
  obtain ⟨l⟩ := T
  match l, h with
  | [x0, x1], _ => exact ⟨x0, x1, rfl⟩
set_option maxRecDepth 100000 in
theorem open_arr2_int {H : Type} {enc : TypeId × Value → H} {W : World} {v : Value} {d : DataW H} {p : List MemPlace} {base : Nat} (hv : Value.okWide Tryz.prog W .any base 76 v)
    (h : DataW.Trod enc Tryz.prog W 0 (fun _ => true) true 76 v d p) :
    ∃ x0 x1 : Int, v = .agg #[.int .i64 x0, .int .i64 x1] ∧ (-9223372036854775808 ≤ x0 ∧ x0 ≤ 9223372036854775807) ∧ (-9223372036854775808 ≤ x1 ∧ x1 ≤ 9223372036854775807) := by
  have hcs : ∃ cs : Array Value, v = .agg cs ∧ cs.size = Tryz.prog.cellsOf 76 := by
    simp only [Value.okWide, arr2_int_u] at hv
    obtain ⟨cs, h1, h2, _⟩ := hv
    exact ⟨cs, h1, h2⟩
  obtain ⟨cs, rfl, hsz⟩ := hcs
  obtain ⟨c0, c1, rfl⟩ := arr2_int_l _ (hsz.trans arr2_int_c)
  obtain ⟨fuel, hf⟩ := h
  obtain ⟨xs, m, _, _, _, hlen, hg⟩ := DataW.trod_array arr2_int_u hf
  have g0 := hg 0 (by omega)
  have g1 := hg 1 (by omega)
  rw [arr2_int_e] at g0 g1
  match xs, hlen with
  | [y0, y1], _ =>
    simp [Value.cells] at g0 g1
    obtain ⟨x0, e0, _, w0⟩ := DataW.trod_int arr2_int_k g0
    obtain ⟨x1, e1, _, w1⟩ := DataW.trod_int arr2_int_k g1
    simp at e0 e1
    subst e0 e1
    exact ⟨x0, x1, rfl, Lw.wf_i64 w0, Lw.wf_i64 w1⟩
theorem Have.perm {w0 w : World} {ts us : List Thing} (hp : ts.Perm us) : Have w0 w ts → Have w0 w us := by
  induction hp with
  | nil => exact fun h => h
  | cons t hp ih =>
    intro h
    exact ⟨h.1, h.2.1, fun u hu => h.2.2.1 u (hp.mem_iff.2 hu), ih h.2.2.2⟩
  | swap a b l =>
    intro h
    obtain ⟨h1, h2, h3, h4, h5, h6, h7⟩ := h
    exact ⟨h4, h5, fun u hu => by
      rcases List.mem_cons.1 hu with rfl | hu
      · exact fun k hk hk2 => h3 a (by simp) k hk2 hk
      · exact h6 u hu, h1, h2, fun u hu => h3 u (by simp [hu]), h7⟩
  | trans _ _ ih1 ih2 => exact fun h => ih2 (ih1 h)
abbrev Opk := Int × Int × Int
/-- A row of ops, handed in. -/
structure OpkV (w : World) (A : Option Addr) (n c : Nat) (qs : List Opk) : Prop where
  nil : A = none → n = 0 ∧ c = 0
  nc : n ≤ c
  cm : c ≤ maxLen
  len : qs.length = n
  each : ∀ (i : Nat) q, qs[i]? = some q → ∃ a, A = some a ∧ w.cell? (a.add (i * 3)) = some (.int .i64 (q.1)) ∧ w.cell? (a.add (i * 3 + 1)) = some (.int .u64 (q.2.1)) ∧ w.cell? (a.add (i * 3 + 2)) = some (.int .i64 (q.2.2)) ∧ (-9223372036854775808 ≤ (q.1) ∧ (q.1) ≤ 9223372036854775807) ∧ (0 ≤ (q.2.1) ∧ (q.2.1) ≤ 18446744073709551615) ∧ (-9223372036854775808 ≤ (q.2.2) ∧ (q.2.2) ≤ 9223372036854775807)
theorem OpkV.at {w : World} {A : Option Addr} {n c : Nat} {qs : List Opk} (h : OpkV w A n c qs) {i : Nat} {q : Opk} (hq : qs[i]? = some q) : ∃ (a : Addr) (g o : Nat), A = some a ∧ a.add (i * 3) = ⟨g, o, none⟩ ∧ w.cell? ⟨g, o, none⟩ = some (.int .i64 q.1) ∧ w.cell? ⟨g, o + 1, none⟩ = some (.int .u64 q.2.1) ∧ w.cell? ⟨g, o + 2, none⟩ = some (.int .i64 q.2.2) ∧ (0 ≤ q.2.1 ∧ q.2.1 ≤ 18446744073709551615) ∧ (-9223372036854775808 ≤ q.2.2 ∧ q.2.2 ≤ 9223372036854775807) := by
  obtain ⟨a, e, h1, h2, h3, _, h5, h6⟩ := h.each i q hq
  rw [← add_add'] at h2 h3
  have hs : (a.add (i * 3)).spot = none := by
    unfold World.cell? at h1
    split at h1
    · split at h1
      · cases h1
      · rename_i hs; simpa using hs
    · cases h1
  obtain ⟨ad, had⟩ : ∃ ad, a.add (i * 3) = ad := ⟨_, rfl⟩
  rw [had] at h1 h2 h3 hs
  obtain ⟨g, o, sp⟩ := ad
  simp only at hs
  subst hs
  rw [Ord.add_at] at h2 h3
  exact ⟨a, g, o, e, had, h1, h2, h3, h5, h6⟩
def ptV (L : List Int) (k : Int) : Int := if (L.length : Int) ≤ k then 0 else num L k
def ptC (L : List Int) (k : Int) : Int := if (L.length : Int) ≤ k then 2 else 0
theorem epoint_any (p : Addr) (F : Nat → Prop) (c : Cfg) (l : Int) (L : List Int) (k : Int) (w : World) (h : EX w p F c l L) (k0 : 0 ≤ k) (k1 : k ≤ 18446744073709551615) :
    Calls Tryz.prog 133 #[.pointer (some p), .int .u64 k] w fun e w' => e = .returned (.tuple #[.int .i64 (ptV L k), .int .i64 (ptC L k)]) ∧ Below w.heap.size w w' := by
  unfold ptV ptC
  by_cases hk : (L.length : Int) ≤ k
  · rw [if_pos hk, if_pos hk]
    exact epoint_no p F c l L k w h k0 k1 hk
  · rw [if_neg hk, if_neg hk]
    exact epoint_yes p F c l L k w h k0 k1 (by omega)
end Go.Proofs.YtmdkdjgamhaeoaaGreat.Exa
/- The walks of package level (the code's): a level is an interface value that holds a pointer to an array or to a sketch. Printed by wip/gen/levcode.py. -/
namespace Go.Proofs.YtmdkdjgamhaeoaaGreat.Lev
open Go Go.RowKit Lw Grd Lin Con Shp Sk Exa
set_option linter.unusedVariables false
set_option linter.unusedSimpArgs false
set_option maxRecDepth 100000 in
set_option maxHeartbeats 4000000 in
theorem vnew_A (c : Cfg) (l : Int) (w : World) (h : c.Ok) (l0 : -9223372036854775808 ≤ l) (l1 : l ≤ 9223372036854775807) (hx : exactB c l = true) :
    Calls Tryz.prog 32 #[.agg #[.int .i64 c.bt, .int .i64 c.rw, .int .i64 c.wd, .int .i64 c.md, .int .u64 c.sd], .int .i64 l] w fun e w' => ∃ (p : Addr) (F : Nat → Prop), e = .returned (.tuple #[.iface 133 (.pointer (some p)), .int .i64 0]) ∧ EX w' p F c l (List.replicate (keys c l).toNat 0) ∧ (∀ k, F k → w.heap.size ≤ k) ∧ Below w.heap.size w w' := by
  have hk : 1 ≤ keys c l := (of_decide_eq_true hx).1
  have CK := Lib.hid (fun w => keys_any c l w h l0 l1)
  have CX := Lib.hid (fun w => exact_any c l w h l0 l1)
  have hkb : (keys c l == 0) = false := by simp; omega
  rw [hx] at CX
  have CN := Lib.hid (fun w => enew_yes c l w h l0 l1 hx)
  obtain ⟨K, hK⟩ : ∃ x, keys c l = x := ⟨_, rfl⟩
  rw [hK] at CK hkb
  have HBX : Hid (Have w (w.alloc (.cells #[.int .i64 c.bt, .int .i64 c.rw, .int .i64 c.wd, .int .i64 c.md, .int .u64 c.sd] 24)) [boxT w.heap.size 24 #[.int .i64 c.bt, .int .i64 c.rw, .int .i64 c.wd, .int .i64 c.md, .int .u64 c.sd]]) := Lib.hid (box_new w _ _)
  clear hx h hk hK
  go_enter Tryz.func32, Tryz.ntmps32
  go_wp2_with (first
    | (go_at_call 34; (with_reducible refine (CK.out _).mono ?_); rintro e w1 ⟨rfl, hb9⟩; have HV1 := Lib.hid (HBX.out.up hb9); obtain ⟨x0, x1, x2, x3, x4⟩ := box5 HV1.out.i0; clear hb9)
    | (go_at_call 56; (with_reducible refine (CX.out _).mono ?_); rintro e w2 ⟨rfl, hb9⟩; clear x0 x1 x2 x3 x4; have HV2 := Lib.hid (HV1.out.up hb9); obtain ⟨x0, x1, x2, x3, x4⟩ := box5 HV2.out.i0; clear hb9)
    | (go_at_call 57; (with_reducible refine (CN.out _).mono ?_); rintro e w3 ⟨p, F, rfl, h1, h2, hb9⟩; have H1 := Lib.hid h1; have H2 : Hid (∀ k, F k → w.heap.size ≤ k) := Lib.hid (fun k hk => Nat.le_trans HV2.out.below.size (h2 k hk)); have HB2 := Lib.hid (below_call HV2.out.below hb9 (Nat.le_refl _)); clear h1 h2 hb9))
  go_ret2
  exact ⟨p, F, rfl, H1.out, H2.out, HB2.out⟩
set_option maxRecDepth 100000 in
set_option maxHeartbeats 4000000 in
theorem vnew_S (c : Cfg) (l : Int) (w : World) (h : c.Ok) (l0 : -9223372036854775808 ≤ l) (l1 : l ≤ 9223372036854775807) (hk : 1 ≤ keys c l) (hx : exactB c l = false) :
    Calls Tryz.prog 32 #[.agg #[.int .i64 c.bt, .int .i64 c.rw, .int .i64 c.wd, .int .i64 c.md, .int .u64 c.sd], .int .i64 l] w fun e w' => ∃ (p : Addr) (F : Nat → Prop), e = .returned (.tuple #[.iface 136 (.pointer (some p)), .int .i64 0]) ∧ SK w' p F c l (zerosL (rws c) (wds c)) ∧ (∀ k, F k → w.heap.size ≤ k) ∧ Below w.heap.size w w' := by
  have CK := Lib.hid (fun w => keys_any c l w h l0 l1)
  have CX := Lib.hid (fun w => exact_any c l w h l0 l1)
  have hkb : (keys c l == 0) = false := by simp; omega
  rw [hx] at CX
  have CN := Lib.hid (fun w => snew_yes c l w h l0 l1 hk)
  obtain ⟨K, hK⟩ : ∃ x, keys c l = x := ⟨_, rfl⟩
  rw [hK] at CK hkb
  have HBX : Hid (Have w (w.alloc (.cells #[.int .i64 c.bt, .int .i64 c.rw, .int .i64 c.wd, .int .i64 c.md, .int .u64 c.sd] 24)) [boxT w.heap.size 24 #[.int .i64 c.bt, .int .i64 c.rw, .int .i64 c.wd, .int .i64 c.md, .int .u64 c.sd]]) := Lib.hid (box_new w _ _)
  clear hx h hk hK
  go_enter Tryz.func32, Tryz.ntmps32
  go_wp2_with (first
    | (go_at_call 34; (with_reducible refine (CK.out _).mono ?_); rintro e w1 ⟨rfl, hb9⟩; have HV1 := Lib.hid (HBX.out.up hb9); obtain ⟨x0, x1, x2, x3, x4⟩ := box5 HV1.out.i0; clear hb9)
    | (go_at_call 56; (with_reducible refine (CX.out _).mono ?_); rintro e w2 ⟨rfl, hb9⟩; clear x0 x1 x2 x3 x4; have HV2 := Lib.hid (HV1.out.up hb9); obtain ⟨x0, x1, x2, x3, x4⟩ := box5 HV2.out.i0; clear hb9)
    | (go_at_call 58; (with_reducible refine (CN.out _).mono ?_); rintro e w3 ⟨p, F, rfl, h1, h2, hb9⟩; have H1 := Lib.hid h1; have H2 : Hid (∀ k, F k → w.heap.size ≤ k) := Lib.hid (fun k hk => Nat.le_trans HV2.out.below.size (h2 k hk)); have HB2 := Lib.hid (below_call HV2.out.below hb9 (Nat.le_refl _)); clear h1 h2 hb9))
  go_ret2
  exact ⟨p, F, rfl, H1.out, H2.out, HB2.out⟩
end Go.Proofs.YtmdkdjgamhaeoaaGreat.Lev
/- The document's Columns: its row lies in a block of its own. Printed by wip/gen/skref.py. -/
namespace Go.Proofs.YtmdkdjgamhaeoaaGreat.Shp
open Go Go.RowKit Lw
set_option linter.unusedVariables false
set_option linter.unusedSimpArgs false
end Go.Proofs.YtmdkdjgamhaeoaaGreat.Shp
/- Many things as one, and things that are held while a call turns them. For stages from 15 on (a row of levels). -/
namespace Go.Proofs.YtmdkdjgamhaeoaaGreat.Lw
open Go Go.RowKit
set_option linter.unusedVariables false
def Asun : List Thing → Prop
  | [] => True
  | t :: ts => (∀ u ∈ ts, ∀ k, t.F k → ¬ u.F k) ∧ Asun ts
theorem Asun.append : ∀ {ts us : List Thing}, Asun (ts ++ us) ↔ Asun ts ∧ Asun us ∧ ∀ t ∈ ts, ∀ u ∈ us, ∀ k, t.F k → ¬ u.F k
  | [], us => by simp [Asun]
  | t :: ts, us => by
    have ih := Asun.append (ts := ts) (us := us)
    constructor
    · intro h
      have h2 := ih.1 h.2
      refine ⟨⟨fun u hu => h.1 u (by simp [hu]), h2.1⟩, h2.2.1, fun s hs u hu => ?_⟩
      rcases List.mem_cons.1 hs with rfl | hs
      · exact h.1 u (by simp [hu])
      · exact h2.2.2 s hs u hu
    · intro h
      refine ⟨fun u hu => ?_, ih.2 ⟨h.1.2, h.2.1, fun s hs => h.2.2 s (by simp [hs])⟩⟩
      rcases List.mem_append.1 hu with h1 | h1
      · exact h.1.1 u h1
      · exact h.2.2 t (by simp) u h1
/-- Many things as one. -/
def manyT (ts : List Thing) : Thing where
  I := fun w => (∀ t ∈ ts, t.I w) ∧ Asun ts
  F := fun k => ∃ t ∈ ts, t.F k
  keep := fun w w' H h hk hf => ⟨fun t ht => t.keep w w' H (h.1 t ht) hk (fun k h1 => hf k ⟨t, ht, h1⟩), h.2⟩
  lt := fun w h k hk => by
    obtain ⟨t, ht, h1⟩ := hk
    exact t.lt w (h.1 t ht) k h1
/-- The things ts, apart, each in blocks of F0 or in such as were made behind w0; no other block of w0 was changed. -/
def Hold (F0 : Nat → Prop) (w0 w : World) (ts : List Thing) : Prop :=
  Kept F0 w0 w ∧ (∀ t ∈ ts, t.I w ∧ ∀ k, t.F k → F0 k ∨ w0.heap.size ≤ k) ∧ Asun ts
theorem Hold.start {w : World} {ts : List Thing} (h : (manyT ts).I w) : Hold (manyT ts).F w w ts :=
  ⟨Kept.refl _ _, fun t ht => ⟨h.1 t ht, fun k hk => .inl ⟨t, ht, hk⟩⟩, h.2⟩
theorem Hold.many {F0 : Nat → Prop} {w0 w : World} {ts : List Thing} (h : Hold F0 w0 w ts) : (manyT ts).I w ∧ Kept F0 w0 w ∧ (∀ k, (manyT ts).F k → F0 k ∨ w0.heap.size ≤ k) :=
  ⟨⟨fun t ht => (h.2.1 t ht).1, h.2.2⟩, h.1, fun k ⟨t, ht, hk⟩ => (h.2.1 t ht).2 k hk⟩
theorem Hold.up {F0 : Nat → Prop} {w0 w w' : World} {ts : List Thing} (h : Hold F0 w0 w ts) (hb : Below w.heap.size w w') : Hold F0 w0 w' ts :=
  ⟨Kept.then h.1 hb, fun t ht => ⟨t.keep w w' (fun _ => False) (h.2.1 t ht).1 (Kept.of_below hb) (fun _ _ h => h), (h.2.1 t ht).2⟩, h.2.2⟩
theorem Hold.push {F0 : Nat → Prop} {w0 w w' : World} {ts : List Thing} (h : Hold F0 w0 w ts) (t : Thing) (hb : Below w.heap.size w w') (ht : t.I w') (hn : ∀ k, t.F k → w.heap.size ≤ k) : Hold F0 w0 w' (t :: ts) := by
  have h2 := h.up hb
  refine ⟨h2.1, fun u hu => ?_, fun u hu k hk hu2 => ?_, h2.2.2⟩
  · rcases List.mem_cons.1 hu with rfl | hu
    · exact ⟨ht, fun k hk => .inr (Nat.le_trans h.1.size (hn k hk))⟩
    · exact h2.2.1 u hu
  · have h3 := u.lt w (h.2.1 u hu).1 k hu2
    have h4 := hn k hk
    omega
/-- One of them is turned by a call. -/
theorem Hold.turn {F0 : Nat → Prop} {w0 w w' : World} {fs : List Thing} {t : Thing} {ts : List Thing} (h : Hold F0 w0 w (fs ++ t :: ts)) (t' : Thing) (ht : t'.I w') (hk : Kept t.F w w') (hF : ∀ k, t'.F k → t.F k ∨ w.heap.size ≤ k) : Hold F0 w0 w' (fs ++ t' :: ts) := by
  have hap := Asun.append.1 h.2.2
  have htI := h.2.1 t (by simp)
  have hoth : ∀ u, u ∈ fs ∨ u ∈ ts → ∀ k, u.F k → ¬ t.F k := by
    intro u hu k h1 h2
    rcases hu with hu | hu
    · exact hap.2.2 u hu t (by simp) k h1 h2
    · exact hap.2.1.1 u hu k h2 h1
  have hin : ∀ u, u ∈ fs ∨ u ∈ ts → u ∈ fs ++ t :: ts := by
    intro u hu
    rcases hu with hu | hu
    · simp [hu]
    · simp [hu]
  have hnew : ∀ u, u ∈ fs ∨ u ∈ ts → ∀ k, t'.F k → ¬ u.F k := by
    intro u hu k h1 h2
    rcases hF k h1 with h3 | h3
    · exact hoth u hu k h2 h3
    · have := u.lt w (h.2.1 u (hin u hu)).1 k h2
      omega
  refine ⟨?_, fun u hu => ?_, ?_⟩
  · refine ⟨hk.os.trans h.1.os, hk.tape.trans h.1.tape, hk.output.trans h.1.output, Nat.le_trans h.1.size hk.size, fun k hk0 hF0 => ?_⟩
    refine (hk.block k (Nat.lt_of_lt_of_le hk0 h.1.size) fun hG => ?_).trans (h.1.block k hk0 hF0)
    rcases htI.2 k hG with h1 | h1
    · exact hF0 h1
    · omega
  · rcases List.mem_append.1 hu with h1 | h1
    · exact ⟨u.keep w w' t.F (h.2.1 u (hin u (.inl h1))).1 hk (hoth u (.inl h1)), (h.2.1 u (hin u (.inl h1))).2⟩
    · rcases List.mem_cons.1 h1 with rfl | h1
      · refine ⟨ht, fun k hk2 => ?_⟩
        rcases hF k hk2 with h3 | h3
        · exact htI.2 k h3
        · exact .inr (Nat.le_trans h.1.size h3)
      · exact ⟨u.keep w w' t.F (h.2.1 u (hin u (.inr h1))).1 hk (hoth u (.inr h1)), (h.2.1 u (hin u (.inr h1))).2⟩
  · refine Asun.append.2 ⟨hap.1, ⟨fun u hu k h1 h2 => hnew u (.inr hu) k h1 h2, hap.2.1.2⟩, fun s hs u hu k h1 h2 => ?_⟩
    rcases List.mem_cons.1 hu with rfl | hu
    · exact hnew s (.inl hs) k h2 h1
    · exact hap.2.2 s hs u (by simp [hu]) k h1 h2
theorem Hold.i {F0 : Nat → Prop} {w0 w : World} {ts : List Thing} (h : Hold F0 w0 w ts) {t : Thing} (ht : t ∈ ts) : t.I w := (h.2.1 t ht).1
/-- Things side by side, taken together and apart again. -/
theorem Have.many {w0 w : World} : ∀ {ts us : List Thing}, Have w0 w (ts ++ us) → Have w0 w (manyT ts :: us) := by
  intro ts us h
  have hap : ∀ {ts : List Thing}, Have w0 w (ts ++ us) → Asun ts ∧ (∀ t ∈ ts, ∀ u ∈ us, ∀ k, t.F k → ¬ u.F k) ∧ Have w0 w us := by
    intro ts
    induction ts with
    | nil => intro h; exact ⟨trivial, fun t ht => by simp at ht, h⟩
    | cons t ts ih =>
      intro h
      obtain ⟨h1, h2, h3⟩ := ih h.2.2.2
      refine ⟨⟨fun u hu => h.2.2.1 u (by simp [hu]), h1⟩, fun s hs u hu => ?_, h3⟩
      rcases List.mem_cons.1 hs with rfl | hs
      · exact h.2.2.1 u (by simp [hu])
      · exact h2 s hs u hu
  obtain ⟨h1, h2, h3⟩ := hap h
  exact ⟨⟨fun t ht => (h.one t (by simp [ht])).1, h1⟩, fun k ⟨t, ht, hk⟩ => (h.one t (by simp [ht])).2 k hk, fun u hu k ⟨t, ht, hk⟩ => h2 t ht u hu k hk, h3⟩
theorem Have.each {w0 w : World} : ∀ {ts us : List Thing}, Have w0 w (manyT ts :: us) → Have w0 w (ts ++ us)
  | [], us, h => h.2.2.2
  | t :: ts, us, h => by
    refine ⟨h.1.1 t (by simp), fun k hk => h.2.1 k ⟨t, by simp, hk⟩, fun u hu k hk => ?_, Have.each (ts := ts) ⟨⟨fun s hs => h.1.1 s (by simp [hs]), h.1.2.2⟩, fun k ⟨s, hs, hk⟩ => h.2.1 k ⟨s, by simp [hs], hk⟩, fun u hu k ⟨s, hs, hk⟩ => h.2.2.1 u hu k ⟨s, by simp [hs], hk⟩, h.2.2.2⟩⟩
    rcases List.mem_append.1 hu with h1 | h1
    · exact h.1.2.1 u h1 k hk
    · exact h.2.2.1 u h1 k ⟨t, by simp, hk⟩
end Go.Proofs.YtmdkdjgamhaeoaaGreat.Lw
/- Spans cut into prefixes, in plain numbers: the greatest piece from the left, again and again. For stage 14. -/
namespace Go.Proofs.YtmdkdjgamhaeoaaGreat.Pcs
set_option linter.unusedVariables false
/-- The level of the greatest piece that begins at lo and ends before e. -/
def GL (B lo e L : Nat) : Prop := L ≤ B ∧ 2 ^ L ∣ lo ∧ lo + 2 ^ L ≤ e ∧ (L = B ∨ ¬ 2 ^ (L + 1) ∣ lo ∨ e < lo + 2 ^ (L + 1))
theorem pow_dvd {a b : Nat} (h : a ≤ b) : 2 ^ a ∣ 2 ^ b := Nat.pow_dvd_pow 2 h
theorem pow_le {a b : Nat} (h : a ≤ b) : 2 ^ a ≤ 2 ^ b := Nat.pow_le_pow_right (by omega) h
theorem pow_lt {a b : Nat} (h : 2 ^ a < 2 ^ b) : a < b := by
  rcases Nat.lt_or_ge a b with g | g
  · exact g
  · have := pow_le g
    omega
theorem pow_pos (a : Nat) : 1 ≤ 2 ^ a := Nat.one_le_two_pow
theorem pow_next (a : Nat) : 2 ^ (a + 1) = 2 ^ a + 2 ^ a := by rw [Nat.pow_succ]; omega
theorem GL.no_lt {B lo e L L' : Nat} (h : GL B lo e L) (g : GL B lo e L') : ¬ L < L' := by
  intro hl
  rcases h.2.2.2 with e1 | e1 | e1
  · have := g.1
    omega
  · exact e1 (Nat.dvd_trans (pow_dvd hl) g.2.1)
  · have := pow_le (show L + 1 ≤ L' from hl)
    have := g.2.2.1
    omega
theorem GL.uniq {B lo e L L' : Nat} (h : GL B lo e L) (g : GL B lo e L') : L = L' := by
  have h1 := h.no_lt g
  have h2 := g.no_lt h
  omega
/-- The pieces from lo on, up to e, each as level and index. -/
inductive Cov (B e : Nat) : Nat → List (Nat × Nat) → Prop
  | nil : Cov B e e []
  | cons {lo L : Nat} {l : List (Nat × Nat)} : GL B lo e L → Cov B e (lo + 2 ^ L) l → Cov B e lo ((L, lo / 2 ^ L) :: l)
theorem Cov.le {B e lo : Nat} {l : List (Nat × Nat)} (h : Cov B e lo l) : lo ≤ e := by
  cases h with
  | nil => exact Nat.le_refl _
  | @cons _ L _ g _ => have := g.2.2.1; have := pow_pos L; omega
theorem Cov.uniq {B e lo : Nat} {l m : List (Nat × Nat)} (h : Cov B e lo l) (g : Cov B e lo m) : l = m := by
  induction h generalizing m with
  | nil =>
    cases g with
    | nil => rfl
    | @cons _ L _ g1 _ => have := g1.2.2.1; have := pow_pos L; omega
  | @cons lo L l h1 h2 ih =>
    cases g with
    | nil => have := h1.2.2.1; have := pow_pos L; omega
    | @cons _ L' _ g1 g2 =>
      obtain rfl := h1.uniq g1
      rw [ih g2]
theorem Cov.fall {B e lo : Nat} {l : List (Nat × Nat)} (h : Cov B e lo l) : ∀ k, 2 ^ k ∣ lo → e < lo + 2 ^ k → k ≤ B + 1 → (∀ p ∈ l, p.1 < k) ∧ (l.map (·.1)).Pairwise (· > ·) := by
  induction h with
  | nil => intro k _ _ _; exact ⟨fun p hp => by simp at hp, List.Pairwise.nil⟩
  | @cons lo L l g _ ih =>
    intro k hk he hkB
    have hL : L < k := pow_lt (by have := g.2.2.1; omega)
    have hn : e < lo + 2 ^ L + 2 ^ L := by
      rcases g.2.2.2 with e1 | e1 | e1
      · obtain rfl : k = B + 1 := by omega
        rw [pow_next] at he
        subst e1
        omega
      · exact absurd (Nat.dvd_trans (pow_dvd hL) hk) e1
      · rw [pow_next] at e1
        omega
    have hd : 2 ^ L ∣ lo + 2 ^ L := Nat.dvd_add g.2.1 (Nat.dvd_refl _)
    obtain ⟨h1, h2⟩ := ih L hd hn (by have := g.1; omega)
    refine ⟨fun p hp => ?_, ?_⟩
    · rcases List.mem_cons.1 hp with rfl | hp
      · exact hL
      · have := h1 p hp
        omega
    · rw [List.map_cons, List.pairwise_cons]
      refine ⟨fun x hx => ?_, h2⟩
      obtain ⟨p, hp, rfl⟩ := List.mem_map.1 hx
      exact h1 p hp
theorem down {B lo e L L' : Nat} (g : GL B lo e L) (g' : GL B (lo + 2 ^ L) e L') (hle : L' ≤ L) (he : e ≤ 2 ^ B) : 2 ^ (L' + 1) ∣ lo + 2 ^ L ∧ e < lo + 2 ^ L + 2 ^ (L' + 1) := by
  have hp := pow_pos L'
  have hLB : ¬ L = B := by
    rintro rfl
    have h1 := g.2.2.1
    have h2 := g'.2.2.1
    omega
  have hd : 2 ^ (L' + 1) ∣ lo + 2 ^ L := by
    by_cases hl : L' < L
    · exact Nat.dvd_add (Nat.dvd_trans (pow_dvd hl) g.2.1) (pow_dvd hl)
    · obtain rfl : L' = L := by omega
      by_cases hx : 2 ^ (L' + 1) ∣ lo
      · exfalso
        have h2 := g'.2.2.1
        rcases g.2.2.2 with e1 | e1 | e1
        · exact hLB e1
        · exact e1 hx
        · rw [pow_next] at e1
          omega
      · obtain ⟨q, hq⟩ := g.2.1
        rcases Nat.mod_two_eq_zero_or_one q with h | h
        · exfalso
          apply hx
          refine ⟨q / 2, ?_⟩
          rw [Nat.pow_succ, Nat.mul_assoc, show 2 * (q / 2) = q by omega]
          exact hq
        · refine ⟨q / 2 + 1, ?_⟩
          rw [Nat.pow_succ, Nat.mul_assoc, show 2 * (q / 2 + 1) = q + 1 by omega, Nat.mul_add, Nat.mul_one, hq]
  refine ⟨hd, ?_⟩
  rcases g'.2.2.2 with e1 | e1 | e1
  · have := g.1
    omega
  · exact absurd hd e1
  · exact e1
/-- The levels rise, and then fall. -/
theorem Cov.rise {B e lo : Nat} {l : List (Nat × Nat)} (h : Cov B e lo l) (he : e ≤ 2 ^ B) : ∃ A C, l = A ++ C ∧ (A.map (·.1)).Pairwise (· < ·) ∧ (C.map (·.1)).Pairwise (· > ·) := by
  induction h with
  | nil => exact ⟨[], [], rfl, List.Pairwise.nil, List.Pairwise.nil⟩
  | @cons lo L l g hc ih =>
    cases hc with
    | nil => exact ⟨[(L, lo / 2 ^ L)], [], rfl, by simp, List.Pairwise.nil⟩
    | @cons _ L' l' g' hc' =>
      by_cases hl : L < L'
      · obtain ⟨A, C, e1, hA, hC⟩ := ih
        cases A with
        | nil =>
          rw [List.nil_append] at e1
          exact ⟨[(L, lo / 2 ^ L)], C, by rw [e1]; rfl, by simp, hC⟩
        | cons a A =>
          rw [List.cons_append] at e1
          injection e1 with e2 e3
          refine ⟨(L, lo / 2 ^ L) :: a :: A, C, by rw [← e2, e3]; rfl, ?_, hC⟩
          rw [List.map_cons, List.pairwise_cons]
          refine ⟨fun x hx => ?_, hA⟩
          rw [List.map_cons] at hx hA
          have h1 := (List.pairwise_cons.1 hA).1
          rcases List.mem_cons.1 hx with rfl | hx
          · rw [← e2]; exact hl
          · have := h1 x hx
            rw [← e2] at this
            show L < x
            have h4 : L' < x := this
            omega
      · obtain ⟨d1, d2⟩ := down g g' (by omega) he
        have hf := (Cov.cons g' hc').fall (L' + 1) d1 d2 (by have := g'.1; omega)
        exact ⟨[(L, lo / 2 ^ L)], _, rfl, by simp, hf.2⟩
/-- No two that follow each other are the halves of one. -/
theorem Cov.halves {B e lo : Nat} {l : List (Nat × Nat)} (h : Cov B e lo l) (he : e ≤ 2 ^ B) : ∀ (i : Nat) (p q : Nat × Nat), l[i]? = some p → l[i + 1]? = some q → p.1 = q.1 → q.2 % 2 = 0 := by
  induction h with
  | nil => intro i p q h1; simp at h1
  | @cons lo L l g hc ih =>
    intro i p q h1 h2 h3
    cases i with
    | succ i => exact ih i p q h1 h2 h3
    | zero =>
      simp at h1
      subst h1
      cases hc with
      | nil => simp at h2
      | @cons _ L' l' g' hc' =>
        simp at h2
        subst h2
        obtain rfl : L = L' := h3
        obtain ⟨q, hq⟩ := (down g g' (Nat.le_refl _) he).1
        show (lo + 2 ^ L) / 2 ^ L % 2 = 0
        rw [hq, Nat.pow_succ, Nat.mul_assoc, Nat.mul_div_cancel_left _ (pow_pos L)]
        omega
/-- Each piece is one, from where the one before it ends. -/
theorem Cov.at {B e lo : Nat} {l : List (Nat × Nat)} (h : Cov B e lo l) : ∀ (i : Nat) (p : Nat × Nat), l[i]? = some p → p.1 ≤ B ∧ lo ≤ p.2 * 2 ^ p.1 ∧ p.2 * 2 ^ p.1 + 2 ^ p.1 ≤ e := by
  induction h with
  | nil => intro i p h1; simp at h1
  | @cons lo L l g hc ih =>
    intro i p h1
    cases i with
    | zero =>
      simp at h1
      subst h1
      have h2 := Nat.div_mul_cancel g.2.1
      refine ⟨g.1, ?_, ?_⟩
      · show lo ≤ lo / 2 ^ L * 2 ^ L
        omega
      · show lo / 2 ^ L * 2 ^ L + 2 ^ L ≤ e
        rw [h2]
        exact g.2.2.1
    | succ i =>
      obtain ⟨h2, h3, h4⟩ := ih i p h1
      exact ⟨h2, Nat.le_trans (Nat.le_add_right lo (2 ^ L)) h3, h4⟩
theorem Cov.next {B e lo : Nat} {p : Nat × Nat} {l : List (Nat × Nat)} (h : Cov B e lo (p :: l)) : p.2 * 2 ^ p.1 = lo ∧ p.1 ≤ B ∧ lo + 2 ^ p.1 ≤ e ∧ Cov B e (lo + 2 ^ p.1) l := by
  cases h with
  | @cons _ L _ g hc => exact ⟨Nat.div_mul_cancel g.2.1, g.1, g.2.2.1, hc⟩
/-- A piece of all keys stands alone. -/
theorem Cov.whole {B e lo : Nat} {l : List (Nat × Nat)} (h : Cov B e lo l) (he : e ≤ 2 ^ B) : (∀ p ∈ l, p.1 < B) ∨ l = [(B, 0)] := by
  induction h with
  | nil => exact .inl (fun p hp => by simp at hp)
  | @cons lo L l g hc ih =>
    by_cases hL : L = B
    · subst hL
      have h1 := g.2.2.1
      obtain rfl : lo = 0 := by omega
      have h2 := hc.le
      cases hc with
      | nil => exact .inr (by simp)
      | @cons _ L' _ g' _ => have := g'.2.2.1; have := pow_pos L'; omega
    · rcases ih with h1 | h1
      · refine .inl (fun p hp => ?_)
        rcases List.mem_cons.1 hp with rfl | hp
        · have := g.1
          show L < B
          omega
        · exact h1 p hp
      · subst h1
        exfalso
        have h2 := hc.next
        have h3 : 0 * 2 ^ B = lo + 2 ^ L := h2.1
        have := pow_pos L
        rw [Nat.zero_mul] at h3
        omega
theorem len_up {m B : Nat} : ∀ {l : List Nat}, l.Pairwise (· < ·) → (∀ x ∈ l, m ≤ x ∧ x < B) → l.length ≤ B - m
  | [], _, _ => by simp
  | x :: l, h, hb => by
    have h0 := hb x (by simp)
    have h1 := List.pairwise_cons.1 h
    have ih := len_up (m := x + 1) (B := B) h1.2 (fun y hy => ⟨h1.1 y hy, (hb y (by simp [hy])).2⟩)
    rw [List.length_cons]
    omega
theorem len_down {B : Nat} : ∀ {l : List Nat}, l.Pairwise (· > ·) → (∀ x ∈ l, x < B) → l.length ≤ B
  | [], _, _ => by simp
  | x :: l, h, hb => by
    have h0 := hb x (by simp)
    have h1 := List.pairwise_cons.1 h
    have ih := len_down (B := x) h1.2 (fun y hy => h1.1 y hy)
    rw [List.length_cons]
    omega
theorem Cov.len {B e lo : Nat} {l : List (Nat × Nat)} (h : Cov B e lo l) (he : e ≤ 2 ^ B) (hB : 1 ≤ B) : l.length ≤ 2 * B := by
  rcases h.whole he with h1 | h1
  · obtain ⟨A, C, rfl, hA, hC⟩ := h.rise he
    have a1 := len_up (m := 0) (B := B) hA (fun x hx => by
      obtain ⟨p, hp, rfl⟩ := List.mem_map.1 hx
      exact ⟨by omega, h1 p (by simp [hp])⟩)
    have a2 := len_down (B := B) hC (fun x hx => by
      obtain ⟨p, hp, rfl⟩ := List.mem_map.1 hx
      exact h1 p (by simp [hp]))
    rw [List.length_map] at a1 a2
    rw [List.length_append]
    omega
  · rw [h1]
    simp
    omega
theorem count_up : ∀ {l : List Nat}, l.Pairwise (· < ·) → ∀ x, l.count x ≤ 1
  | [], _, x => by simp
  | y :: l, h, x => by
    have h1 := List.pairwise_cons.1 h
    have ih := count_up h1.2 x
    rw [List.count_cons]
    by_cases hy : y = x
    · subst hy
      have : l.count y = 0 := List.count_eq_zero.2 (fun hm => by have := h1.1 y hm; omega)
      rw [this]
      simp
    · simp [hy]
      exact ih
theorem count_down : ∀ {l : List Nat}, l.Pairwise (· > ·) → ∀ x, l.count x ≤ 1
  | [], _, x => by simp
  | y :: l, h, x => by
    have h1 := List.pairwise_cons.1 h
    have ih := count_down h1.2 x
    rw [List.count_cons]
    by_cases hy : y = x
    · subst hy
      have : l.count y = 0 := List.count_eq_zero.2 (fun hm => by have := h1.1 y hm; omega)
      rw [this]
      simp
    · simp [hy]
      exact ih
theorem Cov.two {B e lo : Nat} {l : List (Nat × Nat)} (h : Cov B e lo l) (he : e ≤ 2 ^ B) (i x : Nat) : ((l.take i).map (·.1)).count x ≤ 2 := by
  obtain ⟨A, C, e1, hA, hC⟩ := h.rise he
  have h1 := count_up hA x
  have h2 := count_down hC x
  have h3 : ((l.take i).map (·.1)).count x ≤ (l.map (·.1)).count x := ((List.take_sublist i l).map _).count_le x
  rw [e1, List.map_append, List.count_append] at h3
  rw [e1]
  omega
/-- From 0 on the levels fall from the first on. -/
theorem Cov.zero {B e : Nat} {l : List (Nat × Nat)} (h : Cov B e 0 l) (he : e ≤ 2 ^ B) : (l.map (·.1)).Pairwise (· > ·) :=
  (h.fall (B + 1) (Nat.dvd_zero _) (by have := pow_next B; have := pow_pos B; omega) (Nat.le_refl _)).2
/-- A piece's own span. -/
theorem Cov.own {B L i : Nat} (hL : L ≤ B) (hi : (i + 1) * 2 ^ L ≤ 2 ^ B) : Cov B ((i + 1) * 2 ^ L) (i * 2 ^ L) [(L, i)] := by
  have h1 : (i + 1) * 2 ^ L = i * 2 ^ L + 2 ^ L := by rw [Nat.add_mul, Nat.one_mul]
  have hg : GL B (i * 2 ^ L) ((i + 1) * 2 ^ L) L := ⟨hL, Nat.dvd_mul_left _ _, by omega, .inr (.inr (by rw [pow_next]; have := pow_pos L; omega))⟩
  have hc := Cov.cons hg (by rw [← h1]; exact Cov.nil)
  rwa [Nat.mul_div_cancel _ (pow_pos L)] at hc
/-- From below: a first piece, and a last one. -/
theorem Cov.left {B k a b : Nat} {l : List (Nat × Nat)} (ha : a % 2 = 1) (hab : a < b) (hb : b * 2 ^ k ≤ 2 ^ B) (h : Cov B (b * 2 ^ k) ((a + 1) * 2 ^ k) l) : Cov B (b * 2 ^ k) (a * 2 ^ k) ((k, a) :: l) := by
  have hp := pow_pos k
  have h1 : (a + 1) * 2 ^ k = a * 2 ^ k + 2 ^ k := by rw [Nat.add_mul, Nat.one_mul]
  have h2 : (a + 1) * 2 ^ k ≤ b * 2 ^ k := Nat.mul_le_mul_right _ hab
  have hk : k ≤ B := by
    rcases Nat.lt_or_ge B k with g | g
    · have h3 : 2 ^ B < 2 ^ k := Nat.pow_lt_pow_right (by omega) g
      omega
    · exact g
  have hn : ¬ 2 ^ (k + 1) ∣ a * 2 ^ k := by
    rintro ⟨q, hq⟩
    rw [Nat.pow_succ, Nat.mul_assoc, Nat.mul_comm a] at hq
    have := Nat.eq_of_mul_eq_mul_left (by omega) hq
    omega
  have hg : GL B (a * 2 ^ k) (b * 2 ^ k) k := ⟨hk, Nat.dvd_mul_left _ _, by omega, .inr (.inl hn)⟩
  have hc := Cov.cons hg (by rw [← h1]; exact h)
  rwa [Nat.mul_div_cancel _ hp] at hc
theorem Cov.last {B k b lo : Nat} {l : List (Nat × Nat)} (hb : b % 2 = 0) (hB : (b + 1) * 2 ^ k ≤ 2 ^ B) (h : Cov B (b * 2 ^ k) lo l) : 2 ^ k ∣ lo → Cov B ((b + 1) * 2 ^ k) lo (l ++ [(k, b)]) := by
  have hp := pow_pos k
  have h1 : (b + 1) * 2 ^ k = b * 2 ^ k + 2 ^ k := by rw [Nat.add_mul, Nat.one_mul]
  have hk : k ≤ B := by
    rcases Nat.lt_or_ge B k with g | g
    · have h3 : 2 ^ B < 2 ^ k := Nat.pow_lt_pow_right (by omega) g
      omega
    · exact g
  obtain ⟨E, hE⟩ : ∃ E, b * 2 ^ k = E := ⟨_, rfl⟩
  have hEd : 2 ^ (k + 1) ∣ E := by
    refine ⟨b / 2, ?_⟩
    rw [← hE, Nat.pow_succ, Nat.mul_assoc, show 2 * (b / 2) = b by omega, Nat.mul_comm]
  rw [hE] at h h1
  rw [h1]
  induction h with
  | nil =>
    intro hd
    have hg : GL B E (E + 2 ^ k) k := ⟨hk, hd, Nat.le_refl _, .inr (.inr (by rw [pow_next]; omega))⟩
    have hc := Cov.cons hg Cov.nil
    rw [← hE, Nat.mul_div_cancel _ hp] at hc
    rw [← hE]
    exact hc
  | @cons lo L l g hc ih =>
    intro hd
    have hkL : k ≤ L := by
      rcases Nat.lt_or_ge L k with hlt | hge
      · exfalso
        rcases g.2.2.2 with e1 | e1 | e1
        · omega
        · exact e1 (Nat.dvd_trans (pow_dvd hlt) hd)
        · have h3 : 2 ^ (L + 1) ∣ E := Nat.dvd_trans (pow_dvd (by omega)) hEd
          have h4 : 2 ^ (L + 1) ∣ lo := Nat.dvd_trans (pow_dvd hlt) hd
          have h5 : 2 ^ (L + 1) ∣ E - lo := Nat.dvd_sub h3 h4
          have h6 := g.2.2.1
          have h7 := pow_pos L
          have h8 := Nat.le_of_dvd (by omega) h5
          omega
      · exact hge
    have hg : GL B lo (E + 2 ^ k) L := by
      refine ⟨g.1, g.2.1, by have := g.2.2.1; omega, ?_⟩
      rcases g.2.2.2 with e1 | e1 | e1
      · exact .inl e1
      · exact .inr (.inl e1)
      · by_cases hx : 2 ^ (L + 1) ∣ lo
        · refine .inr (.inr ?_)
          have h3 : 2 ^ (k + 1) ∣ lo + 2 ^ (L + 1) := Nat.dvd_add (Nat.dvd_trans (pow_dvd (by omega)) hx) (pow_dvd (by omega))
          have h4 : 2 ^ (k + 1) ∣ lo + 2 ^ (L + 1) - E := Nat.dvd_sub h3 hEd
          have h5 := Nat.le_of_dvd (by omega) h4
          rw [pow_next] at h5
          omega
        · exact .inr (.inl hx)
    exact Cov.cons hg (ih (Nat.dvd_add (Nat.dvd_trans (pow_dvd hkL) g.2.1) (pow_dvd hkL)))
end Go.Proofs.YtmdkdjgamhaeoaaGreat.Pcs
/- The document's two, Is, Span, Same of pieces. Printed by wip/gen/pcsref.py. -/
namespace Go.Proofs.YtmdkdjgamhaeoaaGreat.Pcs
open Go Go.RowKit Lw
set_option linter.unusedVariables false
set_option linter.unusedSimpArgs false
theorem ret_b {a b : Bool} (h : a = b) : Ending.returned (.bool a) = Ending.returned (.bool b) := by rw [h]
/-- Two to the power of k, as a number of the program. -/
def p2 (k : Nat) : Int := ((2 ^ k : Nat) : Int)
theorem p2_next (k : Nat) : p2 k + p2 k = p2 (k + 1) := by unfold p2; rw [pow_next]; omega
theorem p2_pos (k : Nat) : 1 ≤ p2 k := by unfold p2; have := pow_pos k; omega
theorem p2_mono {a b : Nat} (h : a ≤ b) : p2 a ≤ p2 b := by unfold p2; have := pow_le h; omega
theorem p2_60 : p2 60 = 1152921504606846976 := rfl
theorem p2_bd {k : Nat} (h : k ≤ 60) : 1 ≤ p2 k ∧ p2 k ≤ 1152921504606846976 := ⟨p2_pos k, by rw [← p2_60]; exact p2_mono h⟩
theorem p2_mul {a b : Nat} (h : a ≤ b) : p2 (b - a) * p2 a = p2 b := by
  unfold p2
  rw [← Int.natCast_mul, ← Nat.pow_add, Nat.sub_add_cancel h]
theorem u64_in {x : Int} (h0 : 0 ≤ x) (h1 : x ≤ 18446744073709551615) : IntKind.u64.wrap x = x := by rw [IntKind.wrap_u64]; omega
/-- Is there such a piece? -/
def isP (b L i : Int) : Bool := decide (1 ≤ b ∧ b ≤ 59 ∧ 0 ≤ L ∧ L ≤ b ∧ i < p2 (b - L).toNat)
set_option maxRecDepth 100000 in
theorem two_at (n : Nat) (hn : n ≤ 60) (N : Int) (hN : N = n) (w : World) : Calls Tryz.prog 53 #[.int .i64 N] w fun e w' => e = .returned (.int .u64 (p2 n)) ∧ w' = w := by
  subst hN
  go_enter Tryz.func53, Tryz.ntmps53
  go_wp2
  go_loopw [3, 4] (fun ov iv wr => ∃ k : Nat, k ≤ n ∧ ov = .int .u64 (p2 k) ∧ iv = .int .i64 k ∧ wr = w) (fun _ iv _ => n - (intOf iv).toNat)
  case atStart => exact ⟨0, Nat.zero_le _, rfl, rfl, (by first | exact True.intro | exact rfl)⟩
  case round =>
    obtain ⟨k, hk, rfl, rfl, rfl⟩ := hrel
    by_cases hlt : k < n
    · have hnx := p2_next k
      have hb := p2_bd (show k + 1 ≤ 60 by omega)
      have hw : IntKind.u64.wrap (p2 k + p2 k) = p2 (k + 1) := by rw [hnx]; exact u64_in (by omega) (by omega)
      obtain ⟨X, hX⟩ : ∃ X, p2 k = X := ⟨_, rfl⟩
      obtain ⟨Y, hY⟩ : ∃ Y, p2 (k + 1) = Y := ⟨_, rfl⟩
      rw [hX] at hw ⊢
      rw [hY] at hw
      have HY := Lib.hid hY
      clear hnx hb hX hY
      go_wp2
      go_roundw
      case rel => exact ⟨k + 1, by omega, by rw [HY.out], by go_num, (by first | exact True.intro | exact rfl)⟩
      case measure => simp [intOf]; omega
    · obtain rfl : k = n := by omega
      go_wp2
      go_ret
      exact ⟨rfl, rfl⟩
set_option maxRecDepth 100000 in
set_option maxHeartbeats 4000000 in
theorem ris_n1 (b L i : Int) (w : World) (hb0 : -9223372036854775808 ≤ b) (hb1 : b ≤ 9223372036854775807) (hL0 : -9223372036854775808 ≤ L) (hL1 : L ≤ 9223372036854775807) (hi0 : 0 ≤ i) (hi1 : i ≤ 18446744073709551615) (h1 : ¬ 1 ≤ b) :
    Calls Tryz.prog 29 #[.int .i64 b, .agg #[.int .i64 L, .int .u64 i]] w fun e w' => e = .returned (.bool false) ∧ Below w.heap.size w w' := by
  have d1 : decide (1 ≤ b) = false := by exact decide_eq_false h1
  have c0 : (w.alloc (.cells #[.int .i64 L, .int .u64 i] 69)).cell? ⟨w.heap.size, 0, none⟩ = some (.int .i64 L) := by simp [go_sem]
  have c1 : (w.alloc (.cells #[.int .i64 L, .int .u64 i] 69)).cell? ⟨w.heap.size, 1, none⟩ = some (.int .u64 i) := by simp [go_sem]
  clear hb0 hb1 hL0 hL1 hi0 hi1
  go_enter Tryz.func29, Tryz.ntmps29
  go_upto_region 1 with fail
  go_quiet (fail)
  all_goals go_wp2
  all_goals go_ret
  all_goals exact ⟨ret_b (by first | rfl | (simp [*]; done)), (by repeat' (first | (with_reducible exact Below.refl _ _) | (with_reducible assumption) | (with_reducible refine below_over ?_ _ _) | (with_reducible refine Lw.below_alloc ?_ _) | (with_reducible refine Below.drew ?_) | (with_reducible refine below_drewN ?_ _) | (with_reducible refine Below.setCell ?_ ?_ _) | go_size))⟩
set_option maxRecDepth 100000 in
set_option maxHeartbeats 4000000 in
theorem ris_n2 (b L i : Int) (w : World) (hb0 : -9223372036854775808 ≤ b) (hb1 : b ≤ 9223372036854775807) (hL0 : -9223372036854775808 ≤ L) (hL1 : L ≤ 9223372036854775807) (hi0 : 0 ≤ i) (hi1 : i ≤ 18446744073709551615) (h1 : 1 ≤ b) (h2 : ¬ b ≤ 59) :
    Calls Tryz.prog 29 #[.int .i64 b, .agg #[.int .i64 L, .int .u64 i]] w fun e w' => e = .returned (.bool false) ∧ Below w.heap.size w w' := by
  have d1 : decide (1 ≤ b) = true := by exact decide_eq_true h1
  have d2 : decide (b ≤ 59) = false := by exact decide_eq_false h2
  have c0 : (w.alloc (.cells #[.int .i64 L, .int .u64 i] 69)).cell? ⟨w.heap.size, 0, none⟩ = some (.int .i64 L) := by simp [go_sem]
  have c1 : (w.alloc (.cells #[.int .i64 L, .int .u64 i] 69)).cell? ⟨w.heap.size, 1, none⟩ = some (.int .u64 i) := by simp [go_sem]
  clear hb0 hb1 hL0 hL1 hi0 hi1
  go_enter Tryz.func29, Tryz.ntmps29
  go_upto_region 1 with fail
  go_quiet (fail)
  all_goals go_wp2
  all_goals go_ret
  all_goals exact ⟨ret_b (by first | rfl | (simp [*]; done)), (by repeat' (first | (with_reducible exact Below.refl _ _) | (with_reducible assumption) | (with_reducible refine below_over ?_ _ _) | (with_reducible refine Lw.below_alloc ?_ _) | (with_reducible refine Below.drew ?_) | (with_reducible refine below_drewN ?_ _) | (with_reducible refine Below.setCell ?_ ?_ _) | go_size))⟩
set_option maxRecDepth 100000 in
set_option maxHeartbeats 4000000 in
theorem ris_n3 (b L i : Int) (w : World) (hb0 : -9223372036854775808 ≤ b) (hb1 : b ≤ 9223372036854775807) (hL0 : -9223372036854775808 ≤ L) (hL1 : L ≤ 9223372036854775807) (hi0 : 0 ≤ i) (hi1 : i ≤ 18446744073709551615) (h1 : 1 ≤ b) (h2 : b ≤ 59) (h3 : ¬ 0 ≤ L) :
    Calls Tryz.prog 29 #[.int .i64 b, .agg #[.int .i64 L, .int .u64 i]] w fun e w' => e = .returned (.bool false) ∧ Below w.heap.size w w' := by
  have d1 : decide (1 ≤ b) = true := by exact decide_eq_true h1
  have d2 : decide (b ≤ 59) = true := by exact decide_eq_true h2
  have d3 : decide (0 ≤ L) = false := by exact decide_eq_false h3
  have c0 : (w.alloc (.cells #[.int .i64 L, .int .u64 i] 69)).cell? ⟨w.heap.size, 0, none⟩ = some (.int .i64 L) := by simp [go_sem]
  have c1 : (w.alloc (.cells #[.int .i64 L, .int .u64 i] 69)).cell? ⟨w.heap.size, 1, none⟩ = some (.int .u64 i) := by simp [go_sem]
  clear hb0 hb1 hL0 hL1 hi0 hi1
  go_enter Tryz.func29, Tryz.ntmps29
  go_upto_region 1 with fail
  go_quiet (fail)
  all_goals go_wp2
  all_goals go_ret
  all_goals exact ⟨ret_b (by first | rfl | (simp [*]; done)), (by repeat' (first | (with_reducible exact Below.refl _ _) | (with_reducible assumption) | (with_reducible refine below_over ?_ _ _) | (with_reducible refine Lw.below_alloc ?_ _) | (with_reducible refine Below.drew ?_) | (with_reducible refine below_drewN ?_ _) | (with_reducible refine Below.setCell ?_ ?_ _) | go_size))⟩
set_option maxRecDepth 100000 in
set_option maxHeartbeats 4000000 in
theorem ris_n4 (b L i : Int) (w : World) (hb0 : -9223372036854775808 ≤ b) (hb1 : b ≤ 9223372036854775807) (hL0 : -9223372036854775808 ≤ L) (hL1 : L ≤ 9223372036854775807) (hi0 : 0 ≤ i) (hi1 : i ≤ 18446744073709551615) (h1 : 1 ≤ b) (h2 : b ≤ 59) (h3 : 0 ≤ L) (h4 : ¬ L ≤ b) :
    Calls Tryz.prog 29 #[.int .i64 b, .agg #[.int .i64 L, .int .u64 i]] w fun e w' => e = .returned (.bool false) ∧ Below w.heap.size w w' := by
  have d1 : decide (1 ≤ b) = true := by exact decide_eq_true h1
  have d2 : decide (b ≤ 59) = true := by exact decide_eq_true h2
  have d3 : decide (0 ≤ L) = true := by exact decide_eq_true h3
  have d4 : decide (L ≤ b) = false := by exact decide_eq_false h4
  have c0 : (w.alloc (.cells #[.int .i64 L, .int .u64 i] 69)).cell? ⟨w.heap.size, 0, none⟩ = some (.int .i64 L) := by simp [go_sem]
  have c1 : (w.alloc (.cells #[.int .i64 L, .int .u64 i] 69)).cell? ⟨w.heap.size, 1, none⟩ = some (.int .u64 i) := by simp [go_sem]
  clear hb0 hb1 hL0 hL1 hi0 hi1
  go_enter Tryz.func29, Tryz.ntmps29
  go_upto_region 1 with fail
  go_quiet (fail)
  all_goals go_wp2
  all_goals go_ret
  all_goals exact ⟨ret_b (by first | rfl | (simp [*]; done)), (by repeat' (first | (with_reducible exact Below.refl _ _) | (with_reducible assumption) | (with_reducible refine below_over ?_ _ _) | (with_reducible refine Lw.below_alloc ?_ _) | (with_reducible refine Below.drew ?_) | (with_reducible refine below_drewN ?_ _) | (with_reducible refine Below.setCell ?_ ?_ _) | go_size))⟩
set_option maxRecDepth 100000 in
set_option maxHeartbeats 4000000 in
theorem ris_n5 (b L i : Int) (w : World) (hb0 : -9223372036854775808 ≤ b) (hb1 : b ≤ 9223372036854775807) (hL0 : -9223372036854775808 ≤ L) (hL1 : L ≤ 9223372036854775807) (hi0 : 0 ≤ i) (hi1 : i ≤ 18446744073709551615) (h1 : 1 ≤ b) (h2 : b ≤ 59) (h3 : 0 ≤ L) (h4 : L ≤ b) (h5 : ¬ i < p2 (b - L).toNat) :
    Calls Tryz.prog 29 #[.int .i64 b, .agg #[.int .i64 L, .int .u64 i]] w fun e w' => e = .returned (.bool false) ∧ Below w.heap.size w w' := by
  have d1 : decide (1 ≤ b) = true := by exact decide_eq_true h1
  have d2 : decide (b ≤ 59) = true := by exact decide_eq_true h2
  have d3 : decide (0 ≤ L) = true := by exact decide_eq_true h3
  have d4 : decide (L ≤ b) = true := by exact decide_eq_true h4
  have hm : (b - L).toNat ≤ 60 := by omega
  have hN : b - L = ((b - L).toNat : Int) := by omega
  have hw1 : IntKind.i64.wrap (b - L) = b - L := IntWalk.i64_in _ ⟨by omega, by omega⟩
  have hw2 : wrap64 (b - L) = b - L := IntWalk.wrap64_in _ ⟨by omega, by omega⟩
  have C := Lib.hid (fun w => two_at (b - L).toNat hm (b - L) hN w)
  obtain ⟨P, hP⟩ : ∃ P, p2 (b - L).toNat = P := ⟨_, rfl⟩
  rw [hP] at C h5
  have d5 : decide (i < P) = false := by exact decide_eq_false h5
  clear hP hN hm
  have c0 : (w.alloc (.cells #[.int .i64 L, .int .u64 i] 69)).cell? ⟨w.heap.size, 0, none⟩ = some (.int .i64 L) := by simp [go_sem]
  have c1 : (w.alloc (.cells #[.int .i64 L, .int .u64 i] 69)).cell? ⟨w.heap.size, 1, none⟩ = some (.int .u64 i) := by simp [go_sem]
  clear hb0 hb1 hL0 hL1 hi0 hi1
  go_enter Tryz.func29, Tryz.ntmps29
  go_upto_region 1 with fail
  go_quiet (first | (go_at_call 53; with_reducible refine Calls.quiet_of_same (C.out _)))
  all_goals go_wp2
  all_goals go_ret
  all_goals exact ⟨ret_b (by first | rfl | (simp [*]; done)), (by repeat' (first | (with_reducible exact Below.refl _ _) | (with_reducible assumption) | (with_reducible refine below_over ?_ _ _) | (with_reducible refine Lw.below_alloc ?_ _) | (with_reducible refine Below.drew ?_) | (with_reducible refine below_drewN ?_ _) | (with_reducible refine Below.setCell ?_ ?_ _) | go_size))⟩
set_option maxRecDepth 100000 in
set_option maxHeartbeats 4000000 in
theorem ris_y (b L i : Int) (w : World) (hb0 : -9223372036854775808 ≤ b) (hb1 : b ≤ 9223372036854775807) (hL0 : -9223372036854775808 ≤ L) (hL1 : L ≤ 9223372036854775807) (hi0 : 0 ≤ i) (hi1 : i ≤ 18446744073709551615) (h1 : 1 ≤ b) (h2 : b ≤ 59) (h3 : 0 ≤ L) (h4 : L ≤ b) (h5 : i < p2 (b - L).toNat) :
    Calls Tryz.prog 29 #[.int .i64 b, .agg #[.int .i64 L, .int .u64 i]] w fun e w' => e = .returned (.bool true) ∧ Below w.heap.size w w' := by
  have d1 : decide (1 ≤ b) = true := by exact decide_eq_true h1
  have d2 : decide (b ≤ 59) = true := by exact decide_eq_true h2
  have d3 : decide (0 ≤ L) = true := by exact decide_eq_true h3
  have d4 : decide (L ≤ b) = true := by exact decide_eq_true h4
  have hm : (b - L).toNat ≤ 60 := by omega
  have hN : b - L = ((b - L).toNat : Int) := by omega
  have hw1 : IntKind.i64.wrap (b - L) = b - L := IntWalk.i64_in _ ⟨by omega, by omega⟩
  have hw2 : wrap64 (b - L) = b - L := IntWalk.wrap64_in _ ⟨by omega, by omega⟩
  have C := Lib.hid (fun w => two_at (b - L).toNat hm (b - L) hN w)
  obtain ⟨P, hP⟩ : ∃ P, p2 (b - L).toNat = P := ⟨_, rfl⟩
  rw [hP] at C h5
  have d5 : decide (i < P) = true := by exact decide_eq_true h5
  clear hP hN hm
  have c0 : (w.alloc (.cells #[.int .i64 L, .int .u64 i] 69)).cell? ⟨w.heap.size, 0, none⟩ = some (.int .i64 L) := by simp [go_sem]
  have c1 : (w.alloc (.cells #[.int .i64 L, .int .u64 i] 69)).cell? ⟨w.heap.size, 1, none⟩ = some (.int .u64 i) := by simp [go_sem]
  clear hb0 hb1 hL0 hL1 hi0 hi1
  go_enter Tryz.func29, Tryz.ntmps29
  go_upto_region 1 with fail
  go_quiet (first | (go_at_call 53; with_reducible refine Calls.quiet_of_same (C.out _)))
  all_goals go_wp2
  all_goals go_ret
  all_goals exact ⟨ret_b (by first | rfl | (simp [*]; done)), (by repeat' (first | (with_reducible exact Below.refl _ _) | (with_reducible assumption) | (with_reducible refine below_over ?_ _ _) | (with_reducible refine Lw.below_alloc ?_ _) | (with_reducible refine Below.drew ?_) | (with_reducible refine below_drewN ?_ _) | (with_reducible refine Below.setCell ?_ ?_ _) | go_size))⟩
theorem ris_any (b L i : Int) (w : World) (hb0 : -9223372036854775808 ≤ b) (hb1 : b ≤ 9223372036854775807) (hL0 : -9223372036854775808 ≤ L) (hL1 : L ≤ 9223372036854775807) (hi0 : 0 ≤ i) (hi1 : i ≤ 18446744073709551615) :
    Calls Tryz.prog 29 #[.int .i64 b, .agg #[.int .i64 L, .int .u64 i]] w fun e w' => e = .returned (.bool (isP b L i)) ∧ Below w.heap.size w w' := by
  by_cases h1 : 1 ≤ b
  · by_cases h2 : b ≤ 59
    · by_cases h3 : 0 ≤ L
      · by_cases h4 : L ≤ b
        · by_cases h5 : i < p2 (b - L).toNat
          · have e : isP b L i = true := decide_eq_true ⟨h1, h2, h3, h4, h5⟩
            rw [e]
            exact ris_y b L i w hb0 hb1 hL0 hL1 hi0 hi1 h1 h2 h3 h4 h5
          · have e : isP b L i = false := decide_eq_false (fun h => h5 h.2.2.2.2)
            rw [e]
            exact ris_n5 b L i w hb0 hb1 hL0 hL1 hi0 hi1 h1 h2 h3 h4 h5
        · have e : isP b L i = false := decide_eq_false (fun h => h4 h.2.2.2.1)
          rw [e]
          exact ris_n4 b L i w hb0 hb1 hL0 hL1 hi0 hi1 h1 h2 h3 h4
      · have e : isP b L i = false := decide_eq_false (fun h => h3 h.2.2.1)
        rw [e]
        exact ris_n3 b L i w hb0 hb1 hL0 hL1 hi0 hi1 h1 h2 h3
    · have e : isP b L i = false := decide_eq_false (fun h => h2 h.2.1)
      rw [e]
      exact ris_n2 b L i w hb0 hb1 hL0 hL1 hi0 hi1 h1 h2
  · have e : isP b L i = false := decide_eq_false (fun h => h1 h.1)
    rw [e]
    exact ris_n1 b L i w hb0 hb1 hL0 hL1 hi0 hi1 h1
def spLo (b L i : Int) : Int := if isP b L i = true then i * p2 L.toNat else 0
def spHi (b L i : Int) : Int := if isP b L i = true then i * p2 L.toNat + p2 L.toNat - 1 else 0
theorem isP_bd {b L i : Int} (h : isP b L i = true) (hi0 : 0 ≤ i) : 1 ≤ b ∧ b ≤ 59 ∧ 0 ≤ L ∧ L ≤ b ∧ i < p2 (b - L).toNat ∧ 0 ≤ i * p2 L.toNat ∧ i * p2 L.toNat + p2 L.toNat ≤ p2 b.toNat := by
  obtain ⟨h1, h2, h3, h4, h5⟩ := of_decide_eq_true h
  have hp := p2_pos L.toNat
  refine ⟨h1, h2, h3, h4, h5, Int.mul_nonneg hi0 (by omega), ?_⟩
  have e : (b - L).toNat = b.toNat - L.toNat := by omega
  rw [e] at h5
  have e2 := p2_mul (show L.toNat ≤ b.toNat by omega)
  have h6 : (i + 1) * p2 L.toNat ≤ p2 (b.toNat - L.toNat) * p2 L.toNat := Int.mul_le_mul_of_nonneg_right (by omega) (by omega)
  rw [e2, Int.add_mul, Int.one_mul] at h6
  exact h6
theorem PcV.two {w : World} {A : Option Addr} {n c : Nat} {ps : List (Int × Int)} (h : PcV w A n c ps) {k : Nat} {p : Int × Int} (hp : ps[k]? = some p) : ∃ ad g q, A = some ad ∧ ad.add (k * 2) = ⟨g, q, none⟩ ∧ w.cell? ⟨g, q, none⟩ = some (.int .i64 p.1) ∧ w.cell? ⟨g, q + 1, none⟩ = some (.int .u64 p.2) := by
  obtain ⟨a, g, q, h1, h2, h3, h4, _⟩ := h.at hp
  exact ⟨a, g, q, h1, h2, h3, h4⟩
end Go.Proofs.YtmdkdjgamhaeoaaGreat.Pcs
/- The document's Cover of pieces. Printed by wip/gen/pcsref.py. -/
namespace Go.Proofs.YtmdkdjgamhaeoaaGreat.Pcs
open Go Go.RowKit Lw
set_option linter.unusedVariables false
set_option linter.unusedSimpArgs false
/-- There is always a next piece. -/
theorem GL.ex_from {B lo e : Nat} : ∀ (d L : Nat), B - L = d → L ≤ B → 2 ^ L ∣ lo → lo + 2 ^ L ≤ e → ∃ L', GL B lo e L'
  | 0, L, h, h1, h2, h3 => ⟨L, h1, h2, h3, .inl (by omega)⟩
  | d + 1, L, h, h1, h2, h3 => by
    by_cases g1 : 2 ^ (L + 1) ∣ lo
    · by_cases g2 : lo + 2 ^ (L + 1) ≤ e
      · exact GL.ex_from d (L + 1) (by omega) (by omega) g1 g2
      · exact ⟨L, h1, h2, h3, .inr (.inr (by omega))⟩
    · exact ⟨L, h1, h2, h3, .inr (.inl g1)⟩
theorem GL.ex {B lo e : Nat} (h : lo < e) : ∃ L, GL B lo e L :=
  GL.ex_from B 0 (by omega) (by omega) (by simp) (by simp; omega)
theorem Cov.ex {B e : Nat} : ∀ (d lo : Nat), e - lo = d → lo ≤ e → ∃ l, Cov B e lo l := by
  intro d
  induction d using Nat.strongRecOn with
  | ind d ih =>
    intro lo h1 h2
    by_cases h : lo = e
    · subst h
      exact ⟨[], Cov.nil⟩
    · obtain ⟨L, hg⟩ := GL.ex (B := B) (show lo < e by omega)
      have hp := pow_pos L
      have hf := hg.2.2.1
      obtain ⟨l, hl⟩ := ih (e - (lo + 2 ^ L)) (by omega) (lo + 2 ^ L) rfl hf
      exact ⟨_, Cov.cons hg hl⟩
def ints (l : List (Nat × Nat)) : List (Int × Int) := l.map (fun p => ((p.1 : Int), (p.2 : Int)))
theorem ints_len (l : List (Nat × Nat)) : (ints l).length = l.length := List.length_map _
theorem ints_app (l m : List (Nat × Nat)) : ints (l ++ m) = ints l ++ ints m := List.map_append
def okC (b lo hi : Int) : Bool := decide (1 ≤ b ∧ b ≤ 59 ∧ lo ≤ hi ∧ hi < p2 b.toNat)
/-- What Cover answers: a row of pieces of its own. -/
def CovR (w w' : World) (e : Ending) (b lo hi : Int) : Prop :=
  ∃ (A : Option Addr) (n cap : Nat) (l : List (Nat × Nat)), e = .returned (.tuple #[.slice A n cap, .bool (okC b lo hi)]) ∧ (pcT A n cap (ints l)).I w' ∧ (∀ k, (pcT A n cap (ints l)).F k → w.heap.size ≤ k) ∧ Below w.heap.size w w' ∧ (okC b lo hi = true → Cov b.toNat (hi.toNat + 1) lo.toNat l) ∧ (okC b lo hi = false → l = [])
end Go.Proofs.YtmdkdjgamhaeoaaGreat.Pcs
/- What Halves answers. Printed by wip/gen/pcslaws.py. -/
namespace Go.Proofs.YtmdkdjgamhaeoaaGreat.Pcs
open Go Go.RowKit Lw
set_option linter.unusedVariables false
set_option linter.unusedSimpArgs false
def haB (b L i : Int) : Bool := isP b L i && decide (0 < L)
def haL (b L i : Int) : Int := if haB b L i = true then L - 1 else 0
def haX (b L i : Int) : Int := if haB b L i = true then 2 * i else 0
def haY (b L i : Int) : Int := if haB b L i = true then 2 * i + 1 else 0
end Go.Proofs.YtmdkdjgamhaeoaaGreat.Pcs
