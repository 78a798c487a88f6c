/- The statement SummaryFirst of layer 19 holds. Printed by wip/gen/smr6.py. -/
import Derived.Test.YtkflggojiiebeaaGreatQaa
import Derived.Test.YtkflggojiiebeaaGreatQab
import Derived.Test.YtkflggojiiebeaaGreatQac
import Derived.Test.YtkflggojiiebeaaGreatQad
import Derived.Test.YtkflggojiiebeaaGreatQae
import Derived.Test.YtkflggojiiebeaaGreatQaf
import Derived.Test.YtkflggojiiebeaaGreatQag
import Derived.Test.YtkflggojiiebeaaGreatQah
import Derived.Test.YtkflggojiiebeaaGreatQba
import Derived.Test.YtkflggojiiebeaaGreatQda
import Derived.Test.YtkflggojiiebeaaGreatQea
import Derived.Test.YtkflggojiiebeaaGreatQfa
import Derived.Test.YtkflggojiiebeaaGreatQga
import Derived.Test.YtkflggojiiebeaaGreatQja
import Derived.Test.YtkflggojiiebeaaGreatQjb
import Derived.Test.YtkflggojiiebeaaGreatQjc
import Derived.Test.YtkflggojiiebeaaGreatQka
import Derived.Test.YtkflggojiiebeaaGreatQoa
import Derived.Test.YtkflggojiiebeaaGreatQra
import Derived.Test.YtkflggojiiebeaaGreatQua
import Derived.Test.YtkflggojiiebeaaGreatQya
import Derived.Test.YtkflggojiiebeaaGreatRows
import Derived.WalkKit
import Derived.ProofKit
import Derived.OpenShut
import Derived.DataShut
import Derived.Lib.SmallJoins
import Derived.Handy
import Derived.WalkSmall
import Derived.Deep.Draws
import Derived.WalkSpells
import Derived.Laws.AppendOwnNone
import Derived.Deep.AppendLies
import Derived.Lib.Hide
import Derived.Deep.MidRow
import Derived.Laws.BitsAllLaws
import Derived.WalkMore
import Derived.Deep.LoopGhost
import Derived.Deep.RegionHeld3
import Derived.Deep.QuietTactic
import Derived.BigQuiet
import Derived.Laws.Cover3
import Derived.Shelf.Spec.BitsCarry
import Derived.Deep.RegionWith
import Derived.Laws.OwnMore
import Derived.Deep.DeepCutAuto
import Derived.Laws.EntriesVeiled
import Derived.Deep.CutRange
import Derived.Defers
import Derived.RangeFuncNested
import Derived.RangeFuncBound
import Derived.RangeFuncCalls
import Derived.RangeFuncLeaves
import Derived.Deep.WholeRow
import Derived.Shelf.SlSortCmp.NoneTotal
import Derived.Shelf.Abstract
import Derived.Shelf.RegionOpen
import Derived.OwnWalkIn
import Derived.TacticsInMore
import Derived.LoopNIn
import Derived.LoopIn
import Derived.RangeFuncBox
import Derived.Laws.ResultCell
import Derived.Laws.CopyOwn
import Derived.Maps.AppendAt
import Derived.Maps.OwnSet
import Derived.Maps.Own
import Derived.DeepKeys4
import Derived.Lib.AppendZerosOnto
import Derived.Lib.SliceRun
import Derived.Deep.OwnRows
import Derived.Laws.IdiomCopy
namespace Go.Proofs.YtkflggojiiebeaaGreat.Con
end Go.Proofs.YtkflggojiiebeaaGreat.Con
namespace Go.Proofs.YtkflggojiiebeaaGreat.Exa
end Go.Proofs.YtkflggojiiebeaaGreat.Exa
namespace Go.Proofs.YtkflggojiiebeaaGreat.Fld
end Go.Proofs.YtkflggojiiebeaaGreat.Fld
namespace Go.Proofs.YtkflggojiiebeaaGreat.Grd
end Go.Proofs.YtkflggojiiebeaaGreat.Grd
namespace Go.Proofs.YtkflggojiiebeaaGreat.Hsh
end Go.Proofs.YtkflggojiiebeaaGreat.Hsh
namespace Go.Proofs.YtkflggojiiebeaaGreat.Hvy
end Go.Proofs.YtkflggojiiebeaaGreat.Hvy
namespace Go.Proofs.YtkflggojiiebeaaGreat.Inn
end Go.Proofs.YtkflggojiiebeaaGreat.Inn
namespace Go.Proofs.YtkflggojiiebeaaGreat.Lev
end Go.Proofs.YtkflggojiiebeaaGreat.Lev
namespace Go.Proofs.YtkflggojiiebeaaGreat.Lin
end Go.Proofs.YtkflggojiiebeaaGreat.Lin
namespace Go.Proofs.YtkflggojiiebeaaGreat.Lw
end Go.Proofs.YtkflggojiiebeaaGreat.Lw
namespace Go.Proofs.YtkflggojiiebeaaGreat.Ord
end Go.Proofs.YtkflggojiiebeaaGreat.Ord
namespace Go.Proofs.YtkflggojiiebeaaGreat.Pcs
end Go.Proofs.YtkflggojiiebeaaGreat.Pcs
namespace Go.Proofs.YtkflggojiiebeaaGreat.Qnt
end Go.Proofs.YtkflggojiiebeaaGreat.Qnt
namespace Go.Proofs.YtkflggojiiebeaaGreat.Sed
end Go.Proofs.YtkflggojiiebeaaGreat.Sed
namespace Go.Proofs.YtkflggojiiebeaaGreat.Shp
end Go.Proofs.YtkflggojiiebeaaGreat.Shp
namespace Go.Proofs.YtkflggojiiebeaaGreat.Sk
end Go.Proofs.YtkflggojiiebeaaGreat.Sk
namespace Go.Proofs.YtkflggojiiebeaaGreat.Smr
end Go.Proofs.YtkflggojiiebeaaGreat.Smr
namespace Go.Proofs.YtkflggojiiebeaaGreat.Spn
end Go.Proofs.YtkflggojiiebeaaGreat.Spn
namespace Go.Proofs.YtkflggojiiebeaaGreat.Stk
end Go.Proofs.YtkflggojiiebeaaGreat.Stk
namespace Go.Proofs.YtkflggojiiebeaaGreat.Wid
end Go.Proofs.YtkflggojiiebeaaGreat.Wid
namespace Go.Proofs.YtkflggojiiebeaaGreat.Smr
open Go Go.RowKit Lw Grd Lin Con Shp Sk Exa Lev Stk Pcs Spn Qnt Hvy
set_option linter.unusedVariables false
set_option linter.unusedSimpArgs false
set_option linter.constructorNameAsVariable false
theorem box2f {w : World} {b : Nat} {e : TypeId} {v0 v1 : Value} (h : (boxT b e #[v0, v1]).I w) : w.cell? ⟨b, 0, none⟩ = some v0 ∧ w.cell? ⟨b, 1, none⟩ = some v1 := ⟨box_cell h rfl, box_cell h rfl⟩
theorem keys_next {l : List ((Nat × Nat) × Int)} {i : Nat} {q : (Nat × Nat) × Int} (h : l[i]? = some q) : (keysK (l.take (i + 1))).length = (keysK (l.take i)).length + (if q.1.1 = 0 then 1 else 0) := by
  unfold keysK
  rw [take_next h, List.filter_append, List.map_append, List.length_append]
  simp only [List.length_map]
  congr 1
  by_cases h0 : q.1.1 = 0
  · rw [if_pos h0, List.filter_cons_of_pos (by simpa using h0)]; rfl
  · rw [if_neg h0, List.filter_cons_of_neg (by simpa using h0)]; rfl
theorem min_two (a : Int) (k m : Nat) (h0 : 0 ≤ a) (h : m = min a.toNat k) : min a (k : Int) = (m : Int) ∧ (if (k : Int) < a then (k : Int) else a) = (m : Int) := by
  refine ⟨by omega, ?_⟩
  split <;> omega
theorem take_same {S : List (Nat × Int)} {a b i : Nat} {t u : Nat × Int} (h1 : (S.take a)[i]? = some t) (h2 : (S.take b)[i]? = some u) : t = u := by
  rw [List.getElem?_take] at h1 h2
  split at h1
  · split at h2
    · rw [h1] at h2; exact Option.some.inj h2
    · cases h2
  · cases h1
theorem lt_at {L : List ((Nat × Nat) × Int)} (hT : Told L) {b i j : Nat} {t u : Nat × Int} (h1 : ((sortK L).take b)[j]? = some u) (h2 : ((sortK L).take b)[i]? = some t) (hij : j < i) : t.2 < u.2 ∨ (u.2 = t.2 ∧ u.1 < t.1) := by
  rw [List.getElem?_take] at h1 h2
  split at h1
  · split at h2
    · obtain ⟨a1, e1⟩ := List.getElem?_eq_some_iff.1 h1
      obtain ⟨a2, e2⟩ := List.getElem?_eq_some_iff.1 h2
      have h3 := List.pairwise_iff_getElem.1 (sortK_lt hT.row) j i a1 a2 hij
      rw [e1, e2, ltK_iff] at h3
      exact h3
    · cases h2
  · cases h1
theorem top_in {L : List ((Nat × Nat) × Int)} {b i : Nat} {t : Nat × Int} (h : ((sortK L).take b)[i]? = some t) : ((0, t.1), t.2) ∈ L := mem_sortK.1 (List.mem_of_mem_take (List.mem_of_getElem? h))
set_option maxRecDepth 100000 in
set_option maxHeartbeats 40000000 in
theorem first_n (x : Cfg) (A : Option Addr) (n0 k0 : Nat) (qs : Ups) (a b0 b1 : Int) (w : World) (hx : x.Ok) (hq : UpdV w A n0 k0 qs) (V LS V1 A1 V2 A2 : Int) (a1 : bits .and .i64 a 1099511627775 = V) (a2 : wrap64 (1 + V) = LS) (a3 : IntKind.i64.wrap (1 + V) = LS) (g1 : 1 ≤ LS) (g2 : LS ≤ 1099511627776) (d1 : bits .and .i64 b0 65535 = V1) (d2 : Int.tmod V1 20 = A1) (d3 : wrap64 A1 = A1) (d4 : IntKind.i64.wrap A1 = A1) (g3 : 0 ≤ A1) (g4 : A1 < 20) (e1 : bits .and .i64 b1 65535 = V2) (e2 : Int.tmod V2 20 = A2) (e3 : wrap64 A2 = A2) (e4 : IntKind.i64.wrap A2 = A2) (g5 : 0 ≤ A2) (g6 : A2 < 20) (hE : ¬ hvC (anyC x 8 9) (fun L i => spV (anyC x 8 9) (stsOf (anyC x 8 9) (upsR (anyC x 8 9) 0 qs 0 60)) (L : Int) i) LS 400 = 0) :
    Calls Tryz.prog 10 #[.agg #[.int .i64 x.bt, .int .i64 x.rw, .int .i64 x.wd, .int .i64 x.md, .int .u64 x.sd, .slice A n0 k0], .agg #[.int .i64 b0, .int .i64 b1], .int .i64 a] w fun e w' => e = .returned (.bool true) ∧ Below w.heap.size w w' := by
  obtain ⟨c, hC⟩ : ∃ c, anyC x 8 9 = c := ⟨_, rfl⟩
  have hr := any_right x 8 9 (by omega) (by omega) (by omega) (by omega)
  have hco := any_ok x hx 8 9 (by omega) (by omega) (by omega) (by omega)
  have FD := Lib.hid (fun w hq => fed_8 x A n0 k0 qs c w hx hq hC)
  rw [hC] at hr hco
  have hbt := hr.1
  have hbt2 := hr.2.1
  have hkeys : 1 ≤ keys c 0 := keys_pos.2 ⟨hr, by omega, by omega⟩
  have hul := upsR_len c 0 qs 0 60
  have hui := upsR_in hkeys qs 0 60
  obtain ⟨us, hus⟩ : ∃ us, upsR c 0 qs 0 60 = us := ⟨_, rfl⟩
  rw [hus] at FD hul hui
  rw [hC, hus] at hE
  have wA : wrap64 (A1 + A2) = A1 + A2 := IntWalk.wrap64_in _ ⟨by omega, by omega⟩
  have wA2 : IntKind.i64.wrap (A1 + A2) = A1 + A2 := IntWalk.i64_in _ ⟨by omega, by omega⟩
  have CH := Lib.hid (fun p F w hs => hv_heavy p F c (stsOf c us) LS 400 w hs (by omega) (by omega) (by omega) (by omega))
  have C1 := Lib.hid (fun p F w hs => sm_top p F c (stsOf c us) A1 LS 400 w hs (by omega) (by omega) (by omega) (by omega) (by omega) (by omega))
  have C2 := Lib.hid (fun p F w hs => sm_top p F c (stsOf c us) (A1 + A2) LS 400 w hs (by omega) (by omega) (by omega) (by omega) (by omega) (by omega))
  have C0 := Lib.hid (fun p F w hs => sm_top p F c (stsOf c us) (-1) LS 400 w hs (by omega) (by omega) (by omega) (by omega) (by omega) (by omega))
  have HLB := Lib.hid (hvL_le c (fun L i => spV c (stsOf c us) (L : Int) i) LS 400)
  have hl0 : hvL c (fun L i => spV c (stsOf c us) (L : Int) i) LS 400 = [] := if_neg hE
  rw [hl0] at CH HLB
  rw [tp_no hE] at C1 C2 C0
  obtain ⟨E, hEE⟩ : ∃ v, hvC c (fun L i => spV c (stsOf c us) (L : Int) i) LS 400 = v := ⟨_, rfl⟩
  rw [hEE] at CH C1 C2 C0 hE
  have hE1 : ((E : Int) == 0) = false := beq_eq_false_iff_ne.2 hE
  have hE2 : ((E : Int) != 0) = true := by simp [hE]
  obtain ⟨QL, hQL⟩ : ∃ l : List ((Nat × Nat) × Int), [] = l := ⟨_, rfl⟩
  obtain ⟨T1, hT1⟩ : ∃ l : List (Nat × Int), [] = l := ⟨_, rfl⟩
  have HLN : Hid (QL.length = 0) := Lib.hid (by rw [← hQL]; rfl)
  have T1L : Hid (T1.length = 0) := Lib.hid (by rw [← hT1]; rfl)
  rw [hQL] at CH
  rw [hT1] at C1 C2 C0
  clear hl0 hEE hQL hT1
  obtain ⟨Z, hZ⟩ : ∃ Z, stsOf c us = Z := ⟨_, rfl⟩
  rw [hZ] at FD CH C1 C2 C0
  have HQ := Lib.hid hq
  have HBX : Hid (Have w ((w.alloc (.cells #[.int .i64 x.bt, .int .i64 x.rw, .int .i64 x.wd, .int .i64 x.md, .int .u64 x.sd, .slice A n0 k0] 63)).alloc (.cells #[.int .i64 b0, .int .i64 b1] 98)) [boxT (w.heap.size + 1) 98 #[.int .i64 b0, .int .i64 b1], boxT w.heap.size 63 #[.int .i64 x.bt, .int .i64 x.rw, .int .i64 x.wd, .int .i64 x.md, .int .u64 x.sd, .slice A n0 k0]]) := Lib.hid (by
    have h := (box_new w 63 #[.int .i64 x.bt, .int .i64 x.rw, .int .i64 x.wd, .int .i64 x.md, .int .u64 x.sd, .slice A n0 k0]).push (boxT (w.alloc (.cells #[.int .i64 x.bt, .int .i64 x.rw, .int .i64 x.wd, .int .i64 x.md, .int .u64 x.sd, .slice A n0 k0] 63)).heap.size 98 #[.int .i64 b0, .int .i64 b1]) (Lw.below_alloc (Below.refl _ _) _) (heap_alloc_new (w.alloc (.cells #[.int .i64 x.bt, .int .i64 x.rw, .int .i64 x.wd, .int .i64 x.md, .int .u64 x.sd, .slice A n0 k0] 63)) _) (fun k hk => Nat.le_of_eq hk.symm)
    simpa using h)
  clear hr hco hC hbt hbt2 hkeys hul hui hus hZ hq hx g1 g2 g3 g4 g5 g6 hE
  go_enter Tryz.func10, Tryz.ntmps10
  go_wp2_with (first
    | (go_at_call 34; (with_reducible refine (C0.out p F _ (stI HV6.out.i4)).mono ?_); rintro e w7 ⟨A7, n7, cap7, rfl, h1, h2, hb⟩; obtain rfl : 0 = n7 := T1L.out.symm.trans (strI h1).len; have HV7 := Lib.hid (HV6.out.push (stRowT 3 encK A7 0 cap7 T1) hb h1 h2); clear h1 h2 hb; clear y0 y1; obtain ⟨y0, y1⟩ := box2f HV7.out.i6)
    | (go_at_call 34; (with_reducible refine (C2.out p F _ (stI HV5.out.i3)).mono ?_); rintro e w6 ⟨A6, n6, cap6, rfl, h1, h2, hb⟩; obtain rfl : 0 = n6 := T1L.out.symm.trans (strI h1).len; have HV6 := Lib.hid (HV5.out.push (stRowT 3 encK A6 0 cap6 T1) hb h1 h2); clear h1 h2 hb; clear y0 y1; obtain ⟨y0, y1⟩ := box2f HV6.out.i5)
    | (go_at_call 34; (with_reducible refine (C1.out p F _ (stI HV4.out.i2)).mono ?_); rintro e w5 ⟨A5, n5, cap5, rfl, h1, h2, hb⟩; obtain rfl : 0 = n5 := T1L.out.symm.trans (strI h1).len; have HV5 := Lib.hid (HV4.out.push (stRowT 3 encK A5 0 cap5 T1) hb h1 h2); clear h1 h2 hb; clear y0 y1; obtain ⟨y0, y1⟩ := box2f HV5.out.i4)
    | (go_at_call 17; (with_reducible refine (CH.out p F _ (stI HV3.out.i1)).mono ?_); rintro e w4 ⟨A4, n4, cap4, rfl, h1, h2, hb⟩; obtain rfl : 0 = n4 := HLN.out.symm.trans (strI h1).len; have HV4 := Lib.hid (HV3.out.push (stRowT 3 encF A4 0 cap4 QL) hb h1 h2); clear h1 h2 hb; clear y0 y1; obtain ⟨y0, y1⟩ := box2f HV4.out.i3)
    | (go_at_call 36; (with_reducible refine (FD.out _ (HQ.out.up HV1.out.below)).mono ?_); rintro e w2 ⟨p, F, rfl, hv⟩; have HV2 := Lib.hid (HV1.out.join hv); simp only [List.cons_append, List.nil_append] at HV2; clear hv; have HV3 := Lib.hid (HV2.out.push (boxT w2.heap.size 24 #[.int .i64 c.bt, .int .i64 c.rw, .int .i64 c.wd, .int .i64 c.md, .int .u64 c.sd]) (Lw.below_alloc (Below.refl _ _) _) (heap_alloc_new w2 _) (fun k hk => Nat.le_of_eq hk.symm)); clear x0 x1 x2 x3 x4 x5 y0 y1; obtain ⟨y0, y1⟩ := box2f HV3.out.i2)
    | (go_at_call 26; (with_reducible refine (shown_any _).mono ?_); rintro e w1 ⟨rfl, hb⟩; have HV1 := Lib.hid (HBX.out.up hb); clear hb; obtain ⟨x0, x1, x2, x3, x4, x5⟩ := box6 HV1.out.i1; obtain ⟨y0, y1⟩ := box2f HV1.out.i0))
  go_ret
  exact ⟨ret_bs (by first | rfl | (simp [*]; done)), HV7.out.below⟩
set_option maxRecDepth 100000 in
set_option maxHeartbeats 40000000 in
theorem first_y (x : Cfg) (A : Option Addr) (n0 k0 : Nat) (qs : Ups) (a b0 b1 : Int) (w : World) (hx : x.Ok) (hq : UpdV w A n0 k0 qs) (V LS V1 A1 V2 A2 : Int) (a1 : bits .and .i64 a 1099511627775 = V) (a2 : wrap64 (1 + V) = LS) (a3 : IntKind.i64.wrap (1 + V) = LS) (g1 : 1 ≤ LS) (g2 : LS ≤ 1099511627776) (d1 : bits .and .i64 b0 65535 = V1) (d2 : Int.tmod V1 20 = A1) (d3 : wrap64 A1 = A1) (d4 : IntKind.i64.wrap A1 = A1) (g3 : 0 ≤ A1) (g4 : A1 < 20) (e1 : bits .and .i64 b1 65535 = V2) (e2 : Int.tmod V2 20 = A2) (e3 : wrap64 A2 = A2) (e4 : IntKind.i64.wrap A2 = A2) (g5 : 0 ≤ A2) (g6 : A2 < 20) (hE : hvC (anyC x 8 9) (fun L i => spV (anyC x 8 9) (stsOf (anyC x 8 9) (upsR (anyC x 8 9) 0 qs 0 60)) (L : Int) i) LS 400 = 0) :
    Calls Tryz.prog 10 #[.agg #[.int .i64 x.bt, .int .i64 x.rw, .int .i64 x.wd, .int .i64 x.md, .int .u64 x.sd, .slice A n0 k0], .agg #[.int .i64 b0, .int .i64 b1], .int .i64 a] w fun e w' => e = .returned (.bool true) ∧ Below w.heap.size w w' := by
  obtain ⟨c, hC⟩ : ∃ c, anyC x 8 9 = c := ⟨_, rfl⟩
  have hr := any_right x 8 9 (by omega) (by omega) (by omega) (by omega)
  have hco := any_ok x hx 8 9 (by omega) (by omega) (by omega) (by omega)
  have FD := Lib.hid (fun w hq => fed_8 x A n0 k0 qs c w hx hq hC)
  rw [hC] at hr hco
  have hbt := hr.1
  have hbt2 := hr.2.1
  have hkeys : 1 ≤ keys c 0 := keys_pos.2 ⟨hr, by omega, by omega⟩
  have hul := upsR_len c 0 qs 0 60
  have hui := upsR_in hkeys qs 0 60
  obtain ⟨us, hus⟩ : ∃ us, upsR c 0 qs 0 60 = us := ⟨_, rfl⟩
  rw [hus] at FD hul hui
  rw [hC, hus] at hE
  have wA : wrap64 (A1 + A2) = A1 + A2 := IntWalk.wrap64_in _ ⟨by omega, by omega⟩
  have wA2 : IntKind.i64.wrap (A1 + A2) = A1 + A2 := IntWalk.i64_in _ ⟨by omega, by omega⟩
  have CH := Lib.hid (fun p F w hs => hv_heavy p F c (stsOf c us) LS 400 w hs (by omega) (by omega) (by omega) (by omega))
  have C1 := Lib.hid (fun p F w hs => sm_top p F c (stsOf c us) A1 LS 400 w hs (by omega) (by omega) (by omega) (by omega) (by omega) (by omega))
  have C2 := Lib.hid (fun p F w hs => sm_top p F c (stsOf c us) (A1 + A2) LS 400 w hs (by omega) (by omega) (by omega) (by omega) (by omega) (by omega))
  have C0 := Lib.hid (fun p F w hs => sm_top p F c (stsOf c us) (-1) LS 400 w hs (by omega) (by omega) (by omega) (by omega) (by omega) (by omega))
  have HLB := Lib.hid (hvL_le c (fun L i => spV c (stsOf c us) (L : Int) i) LS 400)
  have HTD := Lib.hid (told_hv c (fun L i => spV c (stsOf c us) (L : Int) i) LS 400)
  have HT1 : Hid (tpL c (fun L i => spV c (stsOf c us) (L : Int) i) A1 LS 400 = (sortK (hvL c (fun L i => spV c (stsOf c us) (L : Int) i) LS 400)).take A1.toNat) := Lib.hid rfl
  have HT2 : Hid (tpL c (fun L i => spV c (stsOf c us) (L : Int) i) (A1 + A2) LS 400 = (sortK (hvL c (fun L i => spV c (stsOf c us) (L : Int) i) LS 400)).take (A1 + A2).toNat) := Lib.hid rfl
  have ht0 : tpL c (fun L i => spV c (stsOf c us) (L : Int) i) (-1) LS 400 = [] := by show (sortK _).take 0 = []; exact List.take_zero
  rw [hE] at CH C1 C2 C0
  rw [ht0] at C0
  obtain ⟨QL, hQL⟩ : ∃ l, hvL c (fun L i => spV c (stsOf c us) (L : Int) i) LS 400 = l := ⟨_, rfl⟩
  obtain ⟨T1, hT1⟩ : ∃ l, tpL c (fun L i => spV c (stsOf c us) (L : Int) i) A1 LS 400 = l := ⟨_, rfl⟩
  obtain ⟨T2, hT2⟩ : ∃ l, tpL c (fun L i => spV c (stsOf c us) (L : Int) i) (A1 + A2) LS 400 = l := ⟨_, rfl⟩
  rw [hQL] at CH HTD HT1 HT2 HLB
  rw [hT1] at C1 HT1
  rw [hT2] at C2 HT2
  obtain ⟨LN, hLN⟩ : ∃ n, QL.length = n := ⟨_, rfl⟩
  obtain ⟨M1, hM1⟩ : ∃ n, T1.length = n := ⟨_, rfl⟩
  obtain ⟨M2, hM2⟩ : ∃ n, T2.length = n := ⟨_, rfl⟩
  obtain ⟨KN, hKN⟩ : ∃ n, (keysK QL).length = n := ⟨_, rfl⟩
  have HLN := Lib.hid hLN
  have T1L := Lib.hid hM1
  have T2L := Lib.hid hM2
  have HKN := Lib.hid hKN
  rw [hLN] at HLB
  have HM1 : Hid (M1 = min A1.toNat KN) := Lib.hid (by rw [← hM1, HT1.out, List.length_take, sortK_len, hKN])
  have HM2 : Hid (M2 = min (A1 + A2).toNat KN) := Lib.hid (by rw [← hM2, HT2.out, List.length_take, sortK_len, hKN])
  have HG := Lib.hid (And.intro g3 (And.intro g4 (And.intro g5 g6)))
  clear ht0 hQL hT1 hT2 hLN hM1 hM2 hKN
  obtain ⟨Z, hZ⟩ : ∃ Z, stsOf c us = Z := ⟨_, rfl⟩
  rw [hZ] at FD CH C1 C2 C0
  have HQ := Lib.hid hq
  have HBX : Hid (Have w ((w.alloc (.cells #[.int .i64 x.bt, .int .i64 x.rw, .int .i64 x.wd, .int .i64 x.md, .int .u64 x.sd, .slice A n0 k0] 63)).alloc (.cells #[.int .i64 b0, .int .i64 b1] 98)) [boxT (w.heap.size + 1) 98 #[.int .i64 b0, .int .i64 b1], boxT w.heap.size 63 #[.int .i64 x.bt, .int .i64 x.rw, .int .i64 x.wd, .int .i64 x.md, .int .u64 x.sd, .slice A n0 k0]]) := Lib.hid (by
    have h := (box_new w 63 #[.int .i64 x.bt, .int .i64 x.rw, .int .i64 x.wd, .int .i64 x.md, .int .u64 x.sd, .slice A n0 k0]).push (boxT (w.alloc (.cells #[.int .i64 x.bt, .int .i64 x.rw, .int .i64 x.wd, .int .i64 x.md, .int .u64 x.sd, .slice A n0 k0] 63)).heap.size 98 #[.int .i64 b0, .int .i64 b1]) (Lw.below_alloc (Below.refl _ _) _) (heap_alloc_new (w.alloc (.cells #[.int .i64 x.bt, .int .i64 x.rw, .int .i64 x.wd, .int .i64 x.md, .int .u64 x.sd, .slice A n0 k0] 63)) _) (fun k hk => Nat.le_of_eq hk.symm)
    simpa using h)
  clear hr hco hC hbt hbt2 hkeys hul hui hus hZ hq hx g1 g2 g3 g4 g5 g6 hE
  have NILL : Hid (([] : List (Nat × Int)).length = 0) := Lib.hid rfl
  obtain ⟨NIL, hNIL⟩ : ∃ l : List (Nat × Int), [] = l := ⟨_, rfl⟩
  rw [hNIL] at C0 NILL
  clear hNIL
  go_enter Tryz.func10, Tryz.ntmps10
  go_upto_region 14 with (first
    | (go_at_call 34; (with_reducible refine (C0.out p F _ (stI HV6.out.i4)).mono ?_); rintro e w7 ⟨A7, n7, cap7, rfl, h1, h2, hb⟩; obtain rfl : 0 = n7 := NILL.out.symm.trans (strI h1).len; have HV7 := Lib.hid (HV6.out.push (stRowT 3 encK A7 0 cap7 NIL) hb h1 h2); clear h1 h2 hb; clear y0 y1; obtain ⟨y0, y1⟩ := box2f HV7.out.i6)
    | (go_at_call 34; (with_reducible refine (C2.out p F _ (stI HV5.out.i3)).mono ?_); rintro e w6 ⟨A6, n6, cap6, rfl, h1, h2, hb⟩; obtain rfl : M2 = n6 := T2L.out.symm.trans (strI h1).len; have HV6 := Lib.hid (HV5.out.push (stRowT 3 encK A6 M2 cap6 T2) hb h1 h2); clear h1 h2 hb; clear y0 y1; obtain ⟨y0, y1⟩ := box2f HV6.out.i5)
    | (go_at_call 34; (with_reducible refine (C1.out p F _ (stI HV4.out.i2)).mono ?_); rintro e w5 ⟨A5, n5, cap5, rfl, h1, h2, hb⟩; obtain rfl : M1 = n5 := T1L.out.symm.trans (strI h1).len; have HV5 := Lib.hid (HV4.out.push (stRowT 3 encK A5 M1 cap5 T1) hb h1 h2); clear h1 h2 hb; clear y0 y1; obtain ⟨y0, y1⟩ := box2f HV5.out.i4)
    | (go_at_call 17; (with_reducible refine (CH.out p F _ (stI HV3.out.i1)).mono ?_); rintro e w4 ⟨A4, n4, cap4, rfl, h1, h2, hb⟩; obtain rfl : LN = n4 := HLN.out.symm.trans (strI h1).len; have HV4 := Lib.hid (HV3.out.push (stRowT 3 encF A4 LN cap4 QL) hb h1 h2); clear h1 h2 hb; clear y0 y1; obtain ⟨y0, y1⟩ := box2f HV4.out.i3)
    | (go_at_call 36; (with_reducible refine (FD.out _ (HQ.out.up HV1.out.below)).mono ?_); rintro e w2 ⟨p, F, rfl, hv⟩; have HV2 := Lib.hid (HV1.out.join hv); simp only [List.cons_append, List.nil_append] at HV2; clear hv; have HV3 := Lib.hid (HV2.out.push (boxT w2.heap.size 24 #[.int .i64 c.bt, .int .i64 c.rw, .int .i64 c.wd, .int .i64 c.md, .int .u64 c.sd]) (Lw.below_alloc (Below.refl _ _) _) (heap_alloc_new w2 _) (fun k hk => Nat.le_of_eq hk.symm)); clear x0 x1 x2 x3 x4 x5 y0 y1; obtain ⟨y0, y1⟩ := box2f HV3.out.i2)
    | (go_at_call 26; (with_reducible refine (shown_any _).mono ?_); rintro e w1 ⟨rfl, hb⟩; have HV1 := Lib.hid (HBX.out.up hb); clear hb; obtain ⟨x0, x1, x2, x3, x4, x5⟩ := box6 HV1.out.i1; obtain ⟨y0, y1⟩ := box2f HV1.out.i0))
  have hLN4 := HLB.out
  clear y0 y1 a1 a2 a3 d1 d2 d3 d4 e1 e2 e3 e4 wA wA2
  go_wp2
  go_loopw [20, 21] (fun kv iv wr => ∃ (i : Nat), i ≤ LN ∧ iv = .int .i64 (i : Int) ∧ kv = .int .i64 (((keysK (QL.take i)).length : Nat) : Int) ∧ w7 = wr) (fun _ iv _ => LN - (intOf iv).toNat)
  case atStart => exact ⟨0, Nat.zero_le _, rfl, rfl, rfl⟩
  case round =>
    obtain ⟨i, hi, rfl, rfl, rfl⟩ := hrel
    obtain ⟨KC, hKC⟩ : ∃ n, (keysK (QL.take i)).length = n := ⟨_, rfl⟩
    rw [hKC]
    have hkl : KC ≤ i := by rw [← hKC]; have h5 := keysK_len (QL.take i); rw [List.length_take] at h5; omega
    by_cases hlt : i < LN
    · have li0 : (0 : Int) ≤ (i : Int) := by omega
      have li1 : (i : Int) < (LN : Int) := by omega
      obtain ⟨q, hq⟩ : ∃ q, QL[i]? = some q := ⟨_, List.getElem?_eq_getElem (by rw [HLN.out]; exact hlt)⟩
      obtain ⟨aa, g, o, rfl, hadd, hat⟩ := (strI HV7.out.i3).at hq (v0 := .int .i64 (q.1.1 : Int)) rfl
      have r0 := hat 0 (.int .i64 (q.1.1 : Int)) rfl
      rw [Nat.add_zero] at r0
      have HKX := Lib.hid (keys_next hq)
      have HKC := Lib.hid hKC
      obtain ⟨LV, hLV⟩ : ∃ v : Int, (q.1.1 : Int) = v := ⟨_, rfl⟩
      rw [hLV] at r0
      have HLV := Lib.hid hLV
      clear hat hq hLV hKC
      by_cases h0 : LV = 0
      · subst h0
        have HK2 : Hid ((keysK (QL.take (i + 1))).length = KC + 1) := Lib.hid (by rw [HKX.out, HKC.out, if_pos (by have := HLV.out; omega)])
        go_wp2
        go_roundw
        case rel => exact ⟨i + 1, by omega, by go_num, by rw [HK2.out]; go_num, by first | rfl | trivial⟩
        case measure => simp [intOf]; omega
      · have h1 : ((LV : Int) == 0) = false := beq_eq_false_iff_ne.2 h0
        have HK2 : Hid ((keysK (QL.take (i + 1))).length = KC) := Lib.hid (by rw [HKX.out, HKC.out, if_neg (by have := HLV.out; omega)]; rfl)
        go_wp2
        go_roundw
        case rel => exact ⟨i + 1, by omega, by go_num, by rw [HK2.out], by first | rfl | trivial⟩
        case measure => simp [intOf]; omega
    · obtain rfl : i = LN := by omega
      have li1 : ¬ (i : Int) < (i : Int) := by omega
      have hKK : KC = KN := by rw [← hKC, ← HKN.out, List.take_of_length_le (by rw [HLN.out]; exact Nat.le_refl _)]
      subst hKK
      obtain ⟨k1, k2⟩ := min_two A1 KC M1 (by have := HG.out; omega) HM1.out
      obtain ⟨k3, k4⟩ := min_two (A1 + A2) KC M2 (by have := HG.out; omega) HM2.out
      have hM1 : M1 ≤ 40 := by have := HM1.out; have := HG.out; omega
      have hM2 : M2 ≤ 40 := by have := HM2.out; have := HG.out; omega
      clear hKC hkl hlt hi
      go_wp2
      clear li1 k1 k2 k3 k4
      go_loopw [22] (fun iv wr => ∃ (t d : Nat), t ≤ M2 ∧ iv = .int .i64 (t : Int) ∧ wr = w7.drewN d) (fun iv _ => M2 - (intOf iv).toNat)
      case atStart => exact ⟨0, 0, Nat.zero_le _, rfl, rfl⟩
      case round =>
        obtain ⟨t, d, ht, rfl, rfl⟩ := hrel
        by_cases hlt : t < M2
        · have lt0 : (0 : Int) ≤ (t : Int) := by omega
          have lt1 : (t : Int) < (M2 : Int) := by omega
          obtain ⟨u, hu⟩ : ∃ u, T2[t]? = some u := ⟨_, List.getElem?_eq_getElem (by rw [T2L.out]; exact hlt)⟩
          obtain ⟨ab, g2, o2, rfl, hadd2, hat2⟩ := (strI HV7.out.i1).at hu (v0 := .int .i64 0) rfl
          have s0 := hat2 0 (.int .i64 0) rfl
          have s1 := hat2 1 (.int .u64 (u.1 : Int)) rfl
          have s2 := hat2 2 (.int .i64 u.2) rfl
          rw [Nat.add_zero] at s0
          have HU := Lib.hid hu
          obtain ⟨IX, hIX⟩ : ∃ v : Int, (u.1 : Int) = v := ⟨_, rfl⟩
          obtain ⟨NV, hNV⟩ : ∃ v : Int, u.2 = v := ⟨_, rfl⟩
          rw [hIX] at s1
          rw [hNV] at s2
          have HIX := Lib.hid (And.intro hIX hNV)
          have HMEM : Hid (((0, u.1), u.2) ∈ QL) := Lib.hid (top_in (by rw [← HT2.out]; exact hu))
          clear hat2 hu hIX hNV
          obtain ⟨d0, hd0⟩ : ∃ d0, d0 = d := ⟨_, rfl⟩
          rw [← hd0]
          clear hd0
          go_wp2
          go_loopw [23, 24] (fun fv kv wi => ∃ (k d : Nat) (b : Bool), k ≤ i ∧ kv = .int .i64 (k : Int) ∧ fv = .bool b ∧ (∀ j, j < k → QL[j]? = some ((0, u.1), u.2) → b = true) ∧ wi = w7.drewN d) (fun _ kv _ => i - (intOf kv).toNat)
          case atStart => exact ⟨0, d0, false, Nat.zero_le _, rfl, rfl, fun j hj => by omega, rfl⟩
          case round =>
            obtain ⟨k, d, b, hk, rfl, rfl, hfo, rfl⟩ := hrel
            have HFO := Lib.hid hfo
            clear hfo
            by_cases hlk : k < i
            · have lk0 : (0 : Int) ≤ (k : Int) := by omega
              have lk1 : (k : Int) < (i : Int) := by omega
              cases b with
              | true =>
                go_wp2
                go_quiet (fail)
                go_wp2
                go_roundw
                case rel => exact ⟨k + 1, _, true, by omega, by go_num, rfl, fun _ _ _ => rfl, rfl⟩
                case measure => simp [intOf]; omega
              | false =>
                obtain ⟨q, hq⟩ : ∃ q, QL[k]? = some q := ⟨_, List.getElem?_eq_getElem (by rw [HLN.out]; exact hlk)⟩
                have HQK := Lib.hid hq
                obtain ⟨aa, g, o, rfl, hadd, hat⟩ := (strI HV7.out.i3).at hq (v0 := .int .i64 (q.1.1 : Int)) rfl
                have r0 := hat 0 (.int .i64 (q.1.1 : Int)) rfl
                have r1 := hat 1 (.int .u64 (q.1.2 : Int)) rfl
                have r2 := hat 2 (.int .i64 q.2) rfl
                rw [Nat.add_zero] at r0
                obtain ⟨LV, hLV⟩ : ∃ v : Int, (q.1.1 : Int) = v := ⟨_, rfl⟩
                obtain ⟨IK, hIK⟩ : ∃ v : Int, (q.1.2 : Int) = v := ⟨_, rfl⟩
                obtain ⟨NK, hNK⟩ : ∃ v : Int, q.2 = v := ⟨_, rfl⟩
                rw [hLV] at r0
                rw [hIK] at r1
                rw [hNK] at r2
                have HLV := Lib.hid (And.intro hLV (And.intro hIK hNK))
                clear hat hq hLV hIK hNK
                have HNO : Hid (¬ (LV = 0 ∧ IK = IX ∧ NK = NV) → ∀ j, j < k + 1 → QL[j]? = some ((0, u.1), u.2) → false = true) := Lib.hid (fun hne j hj hjj => by
                  by_cases e : j = k
                  · exfalso
                    subst e
                    have e5 := hjj
                    rw [HQK.out] at e5
                    have e6 := Option.some.inj e5
                    obtain ⟨f1, f2, f3⟩ := HLV.out
                    obtain ⟨f4, f5⟩ := HIX.out
                    rw [e6] at f1 f2 f3
                    simp only at f1 f2 f3
                    exact hne ⟨by omega, by omega, by omega⟩
                  · exact HFO.out j (by omega) hjj)
                by_cases h0 : LV = 0
                · by_cases h1 : IK = IX
                  · by_cases h2 : NK = NV
                    · subst h0 h1 h2
                      go_wp2
                      go_quiet (fail)
                      go_wp2
                      go_roundw
                      case rel => exact ⟨k + 1, _, true, by omega, by go_num, rfl, fun _ _ _ => rfl, rfl⟩
                      case measure => simp [intOf]; omega
                    · have HN3 := Lib.hid (HNO.out (fun h => h2 h.2.2))
                      have f2 : ((NK : Int) == NV) = false := beq_eq_false_iff_ne.2 h2
                      subst h0 h1
                      go_wp2
                      go_quiet (fail)
                      go_wp2
                      go_roundw
                      case rel => exact ⟨k + 1, _, false, by omega, by go_num, rfl, HN3.out, rfl⟩
                      case measure => simp [intOf]; omega
                  · have HN3 := Lib.hid (HNO.out (fun h => h1 h.2.1))
                    have f1 : ((IK : Int) == IX) = false := beq_eq_false_iff_ne.2 h1
                    subst h0
                    go_wp2
                    go_quiet (fail)
                    go_wp2
                    go_roundw
                    case rel => exact ⟨k + 1, _, false, by omega, by go_num, rfl, HN3.out, rfl⟩
                    case measure => simp [intOf]; omega
                · have HN3 := Lib.hid (HNO.out (fun h => h0 h.1))
                  have f0 : ((LV : Int) == 0) = false := beq_eq_false_iff_ne.2 h0
                  go_wp2
                  go_quiet (fail)
                  go_wp2
                  go_roundw
                  case rel => exact ⟨k + 1, _, false, by omega, by go_num, rfl, HN3.out, rfl⟩
                  case measure => simp [intOf]; omega
            · obtain rfl : k = i := by omega
              have lk1 : ¬ (k : Int) < (k : Int) := by omega
              have hbt : b = true := by
                obtain ⟨j, hj⟩ := List.getElem?_of_mem HMEM.out
                have hjl := (List.getElem?_eq_some_iff.1 hj).1
                rw [HLN.out] at hjl
                exact HFO.out j hjl hj
              subst hbt
              clear HFO
              by_cases ho : t < M1
              · obtain ⟨v1, hv1⟩ : ∃ v, T1[t]? = some v := ⟨_, List.getElem?_eq_getElem (by rw [T1L.out]; exact ho)⟩
                have hvu : v1 = u := take_same (by rw [← HT1.out]; exact hv1) (by rw [← HT2.out]; exact HU.out)
                subst hvu
                obtain ⟨ad, g3, o3, rfl, hadd3, hat3⟩ := (strI HV7.out.i2).at hv1 (v0 := .int .i64 0) rfl
                have m0 := hat3 0 (.int .i64 0) rfl
                have m1 := hat3 1 (.int .u64 (v1.1 : Int)) rfl
                have m2 := hat3 2 (.int .i64 v1.2) rfl
                rw [Nat.add_zero] at m0
                rw [HIX.out.1] at m1
                rw [HIX.out.2] at m2
                have o0 : decide (t < M1) = true := decide_eq_true ho
                have o1 : (t : Int) < (M1 : Int) := by omega
                clear hat3 hv1
                as_aux_lemma =>
                  by_cases ht0 : 0 < t
                  · obtain ⟨j, hj⟩ : ∃ j, t = j + 1 := ⟨t - 1, by omega⟩
                    obtain ⟨v, hv⟩ : ∃ v, T2[j]? = some v := ⟨_, List.getElem?_eq_getElem (by rw [T2L.out]; omega)⟩
                    obtain ⟨ac, g4, o4, hac, hadd4, hat4⟩ := (strI HV7.out.i1).at hv (v0 := .int .i64 0) rfl
                    obtain rfl : ab = ac := by injection hac
                    have z1 := hat4 1 (.int .u64 (v.1 : Int)) rfl
                    have z2 := hat4 2 (.int .i64 v.2) rfl
                    have hor := lt_at HTD.out (by rw [← HT2.out]; exact hv) (by rw [← HT2.out]; exact HU.out) (show j < t by omega)
                    obtain ⟨JX, hJX⟩ : ∃ x : Int, (v.1 : Int) = x := ⟨_, rfl⟩
                    obtain ⟨JN, hJN⟩ : ∃ x : Int, v.2 = x := ⟨_, rfl⟩
                    rw [hJX] at z1
                    rw [hJN] at z2
                    have hor2 : NV < JN ∨ (JN = NV ∧ JX < IX) := by
                      obtain ⟨f4, f5⟩ := HIX.out
                      rw [← f5, ← hJN]
                      rcases hor with h | ⟨h, h2⟩
                      · exact .inl h
                      · exact .inr ⟨h, by omega⟩
                    have p0 : decide (0 < t) = true := decide_eq_true ht0
                    have p2 : (0 : Int) ≤ (j : Int) := by omega
                    have p3 : (j : Int) < (M2 : Int) := by omega
                    have p4 : wrap64 ((t : Int) - 1) = (j : Int) := (IntWalk.wrap64_in _ ⟨by omega, by omega⟩).trans (by omega)
                    have p5 : IntKind.i64.wrap ((t : Int) - 1) = (j : Int) := (IntWalk.i64_in _ ⟨by omega, by omega⟩).trans (by omega)
                    clear hat4 hac hv hj hor hJX hJN
                    rcases hor2 with h1 | ⟨rfl, h1⟩
                    · have g7 : decide (JN < NV) = false := decide_eq_false (by omega)
                      have g8 : ((JN : Int) == NV) = false := beq_eq_false_iff_ne.2 (by omega)
                      have g9 : ¬ JN < NV := by omega
                      clear h1
                      go_wp2
                      go_quiet (fail)
                      go_wp2
                      go_roundw
                      case rel => exact ⟨t + 1, _, by omega, by go_num, rfl⟩
                      case measure => simp [intOf]; omega
                    · have g7 : decide (IX ≤ JX) = false := decide_eq_false (by omega)
                      have g9 : ¬ IX ≤ JX := by omega
                      clear h1
                      go_wp2
                      go_quiet (fail)
                      go_wp2
                      go_roundw
                      case rel => exact ⟨t + 1, _, by omega, by go_num, rfl⟩
                      case measure => simp [intOf]; omega
                  · have p0 : decide (0 < t) = false := decide_eq_false ht0
                    go_wp2
                    go_quiet (fail)
                    go_wp2
                    go_roundw
                    case rel => exact ⟨t + 1, _, by omega, by go_num, rfl⟩
                    case measure => simp [intOf]; omega
              · have o0 : decide (t < M1) = false := decide_eq_false ho
                have o1 : ¬ (t : Int) < (M1 : Int) := by omega
                as_aux_lemma =>
                  by_cases ht0 : 0 < t
                  · obtain ⟨j, hj⟩ : ∃ j, t = j + 1 := ⟨t - 1, by omega⟩
                    obtain ⟨v, hv⟩ : ∃ v, T2[j]? = some v := ⟨_, List.getElem?_eq_getElem (by rw [T2L.out]; omega)⟩
                    obtain ⟨ac, g4, o4, hac, hadd4, hat4⟩ := (strI HV7.out.i1).at hv (v0 := .int .i64 0) rfl
                    obtain rfl : ab = ac := by injection hac
                    have z1 := hat4 1 (.int .u64 (v.1 : Int)) rfl
                    have z2 := hat4 2 (.int .i64 v.2) rfl
                    have hor := lt_at HTD.out (by rw [← HT2.out]; exact hv) (by rw [← HT2.out]; exact HU.out) (show j < t by omega)
                    obtain ⟨JX, hJX⟩ : ∃ x : Int, (v.1 : Int) = x := ⟨_, rfl⟩
                    obtain ⟨JN, hJN⟩ : ∃ x : Int, v.2 = x := ⟨_, rfl⟩
                    rw [hJX] at z1
                    rw [hJN] at z2
                    have hor2 : NV < JN ∨ (JN = NV ∧ JX < IX) := by
                      obtain ⟨f4, f5⟩ := HIX.out
                      rw [← f5, ← hJN]
                      rcases hor with h | ⟨h, h2⟩
                      · exact .inl h
                      · exact .inr ⟨h, by omega⟩
                    have p0 : decide (0 < t) = true := decide_eq_true ht0
                    have p2 : (0 : Int) ≤ (j : Int) := by omega
                    have p3 : (j : Int) < (M2 : Int) := by omega
                    have p4 : wrap64 ((t : Int) - 1) = (j : Int) := (IntWalk.wrap64_in _ ⟨by omega, by omega⟩).trans (by omega)
                    have p5 : IntKind.i64.wrap ((t : Int) - 1) = (j : Int) := (IntWalk.i64_in _ ⟨by omega, by omega⟩).trans (by omega)
                    clear hat4 hac hv hj hor hJX hJN
                    rcases hor2 with h1 | ⟨rfl, h1⟩
                    · have g7 : decide (JN < NV) = false := decide_eq_false (by omega)
                      have g8 : ((JN : Int) == NV) = false := beq_eq_false_iff_ne.2 (by omega)
                      have g9 : ¬ JN < NV := by omega
                      clear h1
                      go_wp2
                      go_quiet (fail)
                      go_wp2
                      go_roundw
                      case rel => exact ⟨t + 1, _, by omega, by go_num, rfl⟩
                      case measure => simp [intOf]; omega
                    · have g7 : decide (IX ≤ JX) = false := decide_eq_false (by omega)
                      have g9 : ¬ IX ≤ JX := by omega
                      clear h1
                      go_wp2
                      go_quiet (fail)
                      go_wp2
                      go_roundw
                      case rel => exact ⟨t + 1, _, by omega, by go_num, rfl⟩
                      case measure => simp [intOf]; omega
                  · have p0 : decide (0 < t) = false := decide_eq_false ht0
                    go_wp2
                    go_quiet (fail)
                    go_wp2
                    go_roundw
                    case rel => exact ⟨t + 1, _, by omega, by go_num, rfl⟩
                    case measure => simp [intOf]; omega
        · obtain rfl : t = M2 := by omega
          have lt1 : ¬ (t : Int) < (t : Int) := by omega
          go_wp2
          go_ret
          exact ⟨ret_bs (by first | rfl | (simp [*]; done)), below_drewN HV7.out.below _⟩
theorem first_law (x : Cfg) (A : Option Addr) (n0 k0 : Nat) (qs : Ups) (a b0 b1 : Int) (w : World) (hx : x.Ok) (hq : UpdV w A n0 k0 qs) :
    Calls Tryz.prog 10 #[.agg #[.int .i64 x.bt, .int .i64 x.rw, .int .i64 x.wd, .int .i64 x.md, .int .u64 x.sd, .slice A n0 k0], .agg #[.int .i64 b0, .int .i64 b1], .int .i64 a] w fun e w' => e = .returned (.bool true) ∧ Below w.heap.size w w' := by
  obtain ⟨V, LS, a1, a2, a3, g1, g2⟩ := least_cut a
  obtain ⟨V1, A1, d1, d2, d3, d4, g3, g4⟩ := bud_cut b0 20 (by omega) (by omega)
  obtain ⟨V2, A2, e1, e2, e3, e4, g5, g6⟩ := bud_cut b1 20 (by omega) (by omega)
  by_cases hE : hvC (anyC x 8 9) (fun L i => spV (anyC x 8 9) (stsOf (anyC x 8 9) (upsR (anyC x 8 9) 0 qs 0 60)) (L : Int) i) LS 400 = 0
  · exact first_y x A n0 k0 qs a b0 b1 w hx hq V LS V1 A1 V2 A2 a1 a2 a3 g1 g2 d1 d2 d3 d4 g3 g4 e1 e2 e3 e4 g5 g6 hE
  · exact first_n x A n0 k0 qs a b0 b1 w hx hq V LS V1 A1 V2 A2 a1 a2 a3 g1 g2 d1 d2 d3 d4 g3 g4 e1 e2 e3 e4 g5 g6 hE
theorem arr2_int_u : Tryz.prog.underlying 98 = some (.array 2 3) := by kernel_rfl
theorem arr2_int_c : Tryz.prog.cellsOf 98 = 2 := by kernel_rfl
theorem arr2_int_e : Tryz.prog.cellsOf 3 = 1 := by kernel_rfl
theorem arr2_int_k : Tryz.prog.underlying 3 = some (.int .i64) := by kernel_rfl
theorem arr2_int_l {α : Type} (T : Array α) (h : T.size = 2) : ∃ x0 x1 : α, T = #[x0, x1] := by
  obtain ⟨l⟩ := T
  match l, h with
  | [x0, x1], _ => exact ⟨x0, x1, rfl⟩
theorem open_arr2_int {H : Type} {enc : TypeId × Value → H} {W : World} {v : Value} {d : DataW H} {p : List MemPlace} {base : Nat} (hv : Value.okWide Tryz.prog W .any base 98 v)
    (h : DataW.Trod enc Tryz.prog W 0 (fun _ => true) true 98 v d p) :
    ∃ x0 x1 : Int, v = .agg #[.int .i64 x0, .int .i64 x1] ∧ (-9223372036854775808 ≤ x0 ∧ x0 ≤ 9223372036854775807) ∧ (-9223372036854775808 ≤ x1 ∧ x1 ≤ 9223372036854775807) := by
  have hcs : ∃ cs : Array Value, v = .agg cs ∧ cs.size = Tryz.prog.cellsOf 98 := by
    simp only [Value.okWide, arr2_int_u] at hv
    obtain ⟨cs, h1, h2, _⟩ := hv
    exact ⟨cs, h1, h2⟩
  obtain ⟨cs, rfl, hsz⟩ := hcs
  obtain ⟨c0, c1, rfl⟩ := arr2_int_l _ (hsz.trans arr2_int_c)
  obtain ⟨fuel, hf⟩ := h
  obtain ⟨xs, m, _, _, _, hlen, hg⟩ := DataW.trod_array arr2_int_u hf
  have g0 := hg 0 (by omega)
  have g1 := hg 1 (by omega)
  rw [arr2_int_e] at g0 g1
  match xs, hlen with
  | [y0, y1], _ =>
    simp [Value.cells] at g0 g1
    obtain ⟨x0, e0, _, w0⟩ := DataW.trod_int arr2_int_k g0
    obtain ⟨x1, e1, _, w1⟩ := DataW.trod_int arr2_int_k g1
    simp at e0 e1
    subst e0 e1
    exact ⟨x0, x1, rfl, Lw.wf_i64 w0, Lw.wf_i64 w1⟩
namespace summaryFirst
open Go.ChangeShapes Go.WideShapes Go.ChangeAt Go.Joins
set_option maxRecDepth 100000 in
theorem lifted (os : Os) (started : os.Started) (H : Type) (enc : TypeId × Value → H) :
    ReturnsInHanded {} Tryz.checked os 10 .any (Rows.summaryFirstSpec.pre6 enc Tryz.prog Tryz.f10 Rows.summaryFirstRow.domain false) (Rows.summaryFirstSpec.post enc Tryz.prog Tryz.f10 false true false false) := by
  refine Lw.lifted (C := Tryz.checked) (B := 4) (by kernel_rfl) os started (by kernel_rfl) Tryz.func10
    (ChangeSpec.witness6 (enc := enc) (C := Tryz.checked) false ⟨#[], #[.agg #[.int .i64 0, .int .i64 0, .int .i64 0, .int .i64 0, .int .u64 0, .slice none 0 0], .agg #[.int .i64 0, .int .i64 0], .int .i64 0], []⟩ 8 (by kernel_rfl) (by kernel_rfl) (by kernel_rfl) (by kernel_rfl)) rfl Tryz.underlying4 (by kernel_rfl) (by kernel_rfl) (by kernel_rfl) ?_ ?_
  · intro ds h
    rw [Tryz.params10] at h
    match ds, h with
    | [_, _, _], _ => rfl
  · intro W base args ds p hval hA
    rw [Tryz.params10] at hA hval
    obtain ⟨v0, vs0, d0, ds0, p0, q0, hargs, rfl, rfl, h0, r0⟩ := trodAll_cons hA
    obtain ⟨v1, vs1, d1, ds1, p1, q1, rfl, rfl, rfl, h1, r1⟩ := trodAll_cons r0
    obtain ⟨v2, vs2, d2, ds2, p2, q2, rfl, rfl, rfl, h2, r2⟩ := trodAll_cons r1
    obtain ⟨rfl, rfl, rfl⟩ := trodAll_nil r2
    obtain rfl : args = #[v0, v1, v2] := by cases args; simp_all
    obtain ⟨x0, A0, n0, k0, qs0, rfl, hx0, hq0⟩ := open_playX (hval 0 63 v0 rfl rfl) h0
    obtain ⟨x1_0, x1_1, rfl, z1_0, z1_1⟩ := open_arr2_int (hval 1 98 v1 rfl rfl) h1
    obtain ⟨a2, rfl, rfl, rfl, w2⟩ := open_int Tryz.underlying2 (hval 2 2 v2 rfl rfl) h2
    have b2 := Lw.wf_i64 w2
    exact first_law x0 A0 n0 k0 qs0 a2 x1_0 x1_1 W hx0 hq0
theorem over : Rows.summaryFirstRow.holds Tryz.pinned (OpenSpec.ofChange Rows.summaryFirstSpec) :=
  OpenClaim.holds_of_wide 10 Tryz.f10 rfl rfl rfl rfl rfl rfl rfl ⟨rfl, rfl, rfl, rfl, rfl⟩ rfl rfl rfl rfl rfl (by kernel_rfl) Tryz.func10 (by kernel_rfl)
    (of_decide_eq_true (by kernel_rfl)) (by unfold Func.isWrapper; first | (rw [if_pos (by decide +kernel)]; kernel_rfl) | (rw [if_neg (by decide +kernel)]; exact ⟨rfl, rfl⟩))
    (fun os started H enc _ => lifted os started H enc)
theorem proved : Rows.SummaryFirstSaid :=
  over
#print axioms proved
end summaryFirst
end Go.Proofs.YtkflggojiiebeaaGreat.Smr
