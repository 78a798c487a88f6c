/- The statement SummaryHistogram of layer 19 holds. Printed by wip/gen/smr5.py. -/
import Derived.Test.YtkflggojiiebeaaGreatQaa
import Derived.Test.YtkflggojiiebeaaGreatQab
import Derived.Test.YtkflggojiiebeaaGreatQac
import Derived.Test.YtkflggojiiebeaaGreatQad
import Derived.Test.YtkflggojiiebeaaGreatQae
import Derived.Test.YtkflggojiiebeaaGreatQaf
import Derived.Test.YtkflggojiiebeaaGreatQag
import Derived.Test.YtkflggojiiebeaaGreatQah
import Derived.Test.YtkflggojiiebeaaGreatQca
import Derived.Test.YtkflggojiiebeaaGreatQcb
import Derived.Test.YtkflggojiiebeaaGreatQcc
import Derived.Test.YtkflggojiiebeaaGreatQda
import Derived.Test.YtkflggojiiebeaaGreatQea
import Derived.Test.YtkflggojiiebeaaGreatQfa
import Derived.Test.YtkflggojiiebeaaGreatQha
import Derived.Test.YtkflggojiiebeaaGreatQia
import Derived.Test.YtkflggojiiebeaaGreatQib
import Derived.Test.YtkflggojiiebeaaGreatQja
import Derived.Test.YtkflggojiiebeaaGreatQjb
import Derived.Test.YtkflggojiiebeaaGreatQjc
import Derived.Test.YtkflggojiiebeaaGreatQla
import Derived.Test.YtkflggojiiebeaaGreatQoa
import Derived.Test.YtkflggojiiebeaaGreatQpa
import Derived.Test.YtkflggojiiebeaaGreatQsa
import Derived.Test.YtkflggojiiebeaaGreatQva
import Derived.Test.YtkflggojiiebeaaGreatQza
import Derived.Test.YtkflggojiiebeaaGreatRows
import Derived.WalkKit
import Derived.ProofKit
import Derived.OpenShut
import Derived.DataShut
import Derived.Lib.SmallJoins
import Derived.Handy
import Derived.WalkSmall
import Derived.Deep.Draws
import Derived.WalkSpells
import Derived.Laws.AppendOwnNone
import Derived.Deep.AppendLies
import Derived.Lib.Hide
import Derived.Deep.MidRow
import Derived.Laws.BitsAllLaws
import Derived.WalkMore
import Derived.Deep.LoopGhost
import Derived.Deep.RegionHeld3
import Derived.Deep.QuietTactic
import Derived.BigQuiet
import Derived.Laws.Cover3
import Derived.Shelf.Spec.BitsCarry
import Derived.Deep.RegionWith
import Derived.Laws.OwnMore
import Derived.Deep.DeepCutAuto
import Derived.Laws.EntriesVeiled
import Derived.Deep.CutRange
import Derived.Defers
import Derived.RangeFuncNested
import Derived.RangeFuncBound
import Derived.RangeFuncCalls
import Derived.RangeFuncLeaves
import Derived.Deep.WholeRow
import Derived.Shelf.SlSortCmp.NoneTotal
import Derived.Maps.AppendAt
import Derived.Shelf.Abstract
import Derived.Shelf.RegionOpen
import Derived.OwnWalkIn
import Derived.TacticsInMore
import Derived.LoopNIn
import Derived.LoopIn
import Derived.RangeFuncBox
import Derived.Laws.ResultCell
import Derived.Laws.CopyOwn
import Derived.Maps.OwnSet
import Derived.Maps.Own
import Derived.DeepKeys4
import Derived.Lib.AppendZerosOnto
import Derived.Lib.SliceRun
import Derived.Deep.OwnRows
import Derived.Laws.IdiomCopy
namespace Go.Proofs.YtkflggojiiebeaaGreat.Con
end Go.Proofs.YtkflggojiiebeaaGreat.Con
namespace Go.Proofs.YtkflggojiiebeaaGreat.Exa
end Go.Proofs.YtkflggojiiebeaaGreat.Exa
namespace Go.Proofs.YtkflggojiiebeaaGreat.Fld
end Go.Proofs.YtkflggojiiebeaaGreat.Fld
namespace Go.Proofs.YtkflggojiiebeaaGreat.Grd
end Go.Proofs.YtkflggojiiebeaaGreat.Grd
namespace Go.Proofs.YtkflggojiiebeaaGreat.Hsh
end Go.Proofs.YtkflggojiiebeaaGreat.Hsh
namespace Go.Proofs.YtkflggojiiebeaaGreat.Hvy
end Go.Proofs.YtkflggojiiebeaaGreat.Hvy
namespace Go.Proofs.YtkflggojiiebeaaGreat.Inn
end Go.Proofs.YtkflggojiiebeaaGreat.Inn
namespace Go.Proofs.YtkflggojiiebeaaGreat.Lev
end Go.Proofs.YtkflggojiiebeaaGreat.Lev
namespace Go.Proofs.YtkflggojiiebeaaGreat.Lin
end Go.Proofs.YtkflggojiiebeaaGreat.Lin
namespace Go.Proofs.YtkflggojiiebeaaGreat.Lw
end Go.Proofs.YtkflggojiiebeaaGreat.Lw
namespace Go.Proofs.YtkflggojiiebeaaGreat.Ord
end Go.Proofs.YtkflggojiiebeaaGreat.Ord
namespace Go.Proofs.YtkflggojiiebeaaGreat.Pcs
end Go.Proofs.YtkflggojiiebeaaGreat.Pcs
namespace Go.Proofs.YtkflggojiiebeaaGreat.Qnt
end Go.Proofs.YtkflggojiiebeaaGreat.Qnt
namespace Go.Proofs.YtkflggojiiebeaaGreat.Sed
end Go.Proofs.YtkflggojiiebeaaGreat.Sed
namespace Go.Proofs.YtkflggojiiebeaaGreat.Shp
end Go.Proofs.YtkflggojiiebeaaGreat.Shp
namespace Go.Proofs.YtkflggojiiebeaaGreat.Sk
end Go.Proofs.YtkflggojiiebeaaGreat.Sk
namespace Go.Proofs.YtkflggojiiebeaaGreat.Smr
end Go.Proofs.YtkflggojiiebeaaGreat.Smr
namespace Go.Proofs.YtkflggojiiebeaaGreat.Spn
end Go.Proofs.YtkflggojiiebeaaGreat.Spn
namespace Go.Proofs.YtkflggojiiebeaaGreat.Stk
end Go.Proofs.YtkflggojiiebeaaGreat.Stk
namespace Go.Proofs.YtkflggojiiebeaaGreat.Wid
end Go.Proofs.YtkflggojiiebeaaGreat.Wid
namespace Go.Proofs.YtkflggojiiebeaaGreat.Smr
open Go Go.RowKit Lw Grd Lin Con Shp Sk Exa Lev Stk Pcs Spn Qnt Hvy Go.Shelf
set_option linter.unusedVariables false
set_option linter.unusedSimpArgs false
theorem own_rd1 {k : IntKind} {w : World} {base : Nat} {e : TypeId} {A : Option Addr} {n cap : Nat} {zs : List Int} (h : w.ownsRow base e 1 (.slice A n cap) n (zs.map (Value.int k))) : Rd k w A zs := by
  obtain ⟨A2, cap2, e2, hr, -⟩ := own_rd h
  injection e2 with e2a e2b e2c
  subst e2a
  exact hr
theorem histo_le {c : Cfg} {pt : Nat → Int → Int} {l : List Int} {m : Nat} (h : l.length = m) (hm : m ≤ 20) : (hgL c pt l).length ≤ 21 := by
  unfold hgL manyL
  split
  · split
    · rw [List.length_map, spansQ_len]; omega
    · exact Nat.zero_le _
  · exact Nat.zero_le _
set_option maxRecDepth 100000 in
set_option maxHeartbeats 40000000 in
theorem histo_law (x : Cfg) (A : Option Addr) (n0 k0 : Nat) (qs : Ups) (B : Option Addr) (nb cb : Nat) (zs : List Int) (w : World) (hx : x.Ok) (hq : UpdV w A n0 k0 qs) (hB : B = none → nb = 0 ∧ cb = 0) (hbn : nb ≤ cb) (hcap : cb ≤ maxLen) (hr : Rd .u64 w B zs) (hl : zs.length = nb) (hz : ∀ v ∈ zs, 0 ≤ v ∧ v ≤ 18446744073709551615) :
    Calls Tryz.prog 6 #[.agg #[.int .i64 x.bt, .int .i64 x.rw, .int .i64 x.wd, .int .i64 x.md, .int .u64 x.sd, .slice A n0 k0], .slice B nb cb] w fun e w' => e = .returned (.bool true) ∧ Below w.heap.size w w' := by
  unfold maxLen at hcap
  obtain ⟨i0, hi, hz0, hz1, hz2⟩ := info_parts u64_info
  obtain ⟨m, hmin⟩ : ∃ m : Nat, (if (20 : Int) < nb then 20 else (nb : Int)) = m := ⟨min nb 20, by split <;> omega⟩
  have hm1 : m ≤ 20 := by split at hmin <;> omega
  have hm2 : m ≤ nb := by split at hmin <;> omega
  have hmin2 : min (nb : Int) 20 = (m : Int) := by split at hmin <;> omega
  have hB2 : B = none → m = 0 ∧ cb = 0 := fun h => ⟨by have := (hB h).1; omega, (hB h).2⟩
  have LZ : Hid ((zs.take m).length = m) := Lib.hid (by rw [List.length_take]; omega)
  have HZ := Lib.hid ((fun v hv => hz v (List.mem_of_mem_take hv) : ∀ v ∈ zs.take m, 0 ≤ v ∧ v ≤ 18446744073709551615))
  have HRB := Lib.hid hr
  obtain ⟨c, hC⟩ : ∃ c, anyC x 6 9 = c := ⟨_, rfl⟩
  have HMD := Lib.hid (fun w hq => made_6 x A n0 k0 qs c w hx hq hC)
  have HQ := Lib.hid hq
  have HBX : Hid (Have w (w.alloc (.cells #[.int .i64 x.bt, .int .i64 x.rw, .int .i64 x.wd, .int .i64 x.md, .int .u64 x.sd, .slice A n0 k0] 63)) [boxT w.heap.size 63 #[.int .i64 x.bt, .int .i64 x.rw, .int .i64 x.wd, .int .i64 x.md, .int .u64 x.sd, .slice A n0 k0]]) := Lib.hid (box_new w _ _)
  clear hC hx hq hB hr hl hz
  go_enter Tryz.func6, Tryz.ntmps6
  go_upto_region 5 with (first
    | (go_at_call 27; (with_reducible refine (HMD.out _ (HQ.out.up HV1.out.below)).mono ?_); rintro e w2 ⟨p, r, F, G, sts, rfl, hv⟩; have HV2 := Lib.hid (HV1.out.join hv); simp only [List.cons_append, List.nil_append] at HV2; clear hv x0 x1 x2 x3 x4 x5)
    | (go_at_call 26; (with_reducible refine (shown_any _).mono ?_); rintro e w1 ⟨rfl, hb⟩; have HV1 := Lib.hid (HBX.out.up hb); clear hb; obtain ⟨x0, x1, x2, x3, x4, x5⟩ := box6 HV1.out.i0))
  have HIN : Hid (∀ n i : Int, -9223372036854775808 ≤ spV c sts n i ∧ spV c sts n i ≤ 9223372036854775807) := Lib.hid (fun n i => sp_in16 (stI HV2.out.i1) n i)
  have HPT : Hid ((∀ lo hi : Int, In64 (ptL c (fun L i => spV c sts (L : Int) i) lo hi)) ∧ (∀ lo hi : Int, 0 ≤ lo → (ptL c (fun L i => spV c sts (L : Int) i) lo hi).length ≤ 1000)) := Lib.hid ⟨fun lo hi => parts_in16 (stI HV2.out.i1) lo hi, fun lo hi h => parts_len16 (stI HV2.out.i1).1 _ lo hi h⟩
  have HFIN : Hid (∃ (E : Int) (LL : List Int), LL.length ≤ 21 ∧
      (∀ w9 a9 c9, ST w9 p F c sts → Rd .u64 w9 (some a9) (zs.take m) → Calls Tryz.prog 31 #[.pointer (some p), .slice (some a9) m c9] w9 fun e w' => ∃ (A2 : Option Addr) (n2 cap2 : Nat), e = .returned (.tuple #[.slice A2 n2 cap2, .int .i64 E]) ∧ w'.ownsRow w9.heap.size 2 1 (.slice A2 n2 cap2) n2 (LL.map (Value.int .i64)) ∧ LL.length = n2 ∧ Below w9.heap.size w9 w') ∧
      (∀ w9 a9 c9, DK w9 r G c sts → Rd .u64 w9 (some a9) (zs.take m) → Calls Tryz.prog 32 #[.pointer (some r), .slice (some a9) m c9] w9 fun e w' => ∃ (A2 : Option Addr) (n2 cap2 : Nat), e = .returned (.tuple #[.slice A2 n2 cap2, .int .i64 E]) ∧ w'.ownsRow w9.heap.size 2 1 (.slice A2 n2 cap2) n2 (LL.map (Value.int .i64)) ∧ LL.length = n2 ∧ Below w9.heap.size w9 w')) := Lib.hid ⟨(hgC c (fun L i => spV c sts (L : Int) i) (zs.take m)), (hgL c (fun L i => spV c sts (L : Int) i) (zs.take m)), histo_le LZ.out hm1, fun w9 a9 c9 hs hr9 => sm_histo p F c sts (some a9) m c9 (zs.take m) w9 hs (fun h => by cases h) hr9 LZ.out HZ.out (by omega) hs.2.1, fun w9 a9 c9 hs hr9 => rhisto r G c sts (some a9) m c9 (zs.take m) w9 hs HPT.out hr9 LZ.out HZ.out (by omega)⟩
  obtain ⟨E, LL, hll, q1, q2⟩ := HFIN.out
  have HLL := Lib.hid hll
  have CC := Lib.hid q1
  have CD := Lib.hid q2
  clear HFIN HIN HPT q1 q2 hll
  go_wp2_with (first
    | (go_at_call 33; (with_reducible refine (same_yes A4 A5 n4 cap4 cap5 LL _ (own_rd1 (okI HV5.out.i1)) (own_rd1 (okI HV5.out.i0)) HN4.out (by have := HN4.out; have := HLL.out; omega)).mono ?_); rintro e w6 ⟨rfl, hb⟩; have HV6 := Lib.hid (HV5.out.up hb); clear hb)
    | (go_at_call 32; (with_reducible refine (CD.out _ _ _ (dkI HV4.out.i2) (own_rd1 (okI HV4.out.i1))).mono ?_); rintro e w5 ⟨A5, n5, cap5, rfl, ho5, hl5, hb⟩; obtain rfl : n4 = n5 := HN4.out.symm.trans hl5; have HV5 := Lib.hid (HV4.out.push (ownK w4.heap.size 2 1 (.slice A5 n4 cap5) n4 (LL.map (Value.int .i64))) hb ho5 (fun k hk => own_ge ho5 k hk)); clear ho5 hl5 hb)
    | (go_at_call 31; (with_reducible refine (CC.out _ _ _ (stI HV3.out.i2) (own_rd1 (okI HV3.out.i0))).mono ?_); rintro e w4 ⟨A4, n4, cap4, rfl, ho4, hl4, hb⟩; have HN4 := Lib.hid hl4; have HV4 := Lib.hid (HV3.out.push (ownK w3.heap.size 2 1 (.slice A4 n4 cap4) n4 (LL.map (Value.int .i64))) hb ho4 (fun k hk => own_ge ho4 k hk)); clear ho4 hl4 hb)
    | (at_builtin; go_must (refine app_any .u64 rfl _ _ 66 rfl w2.heap.size 22 i0 8 u64s_u hi hz0 hz1 hz2 (.slice (some ⟨w2.heap.size, 0, none⟩) 0 0) 0 [] rfl (own_empty w2 _ _ _ (Nat.le_refl _)) (fun h => by cases h) B m cb (zs.take m) rfl hB2 LZ.out ((HRB.out.take m).up (below_call HV2.out.below (by repeat' (first | (with_reducible first | exact Below.refl _ _ | assumption | refine below_over ?_ _ _ | refine Lw.below_alloc ?_ _ | refine Below.drew ?_ | refine below_drewN ?_ _ | refine Below.setCell ?_ ?_ _) | go_size)) (Nat.le_refl _))) (by unfold maxLen; omega) (by omega) (by simp) ?_); intro A3 cap3 w3 hown3 hgrow3 rd3 hc3 hc4; have hb3 := app_below hgrow3 (Nat.le_refl _); rw [List.nil_append] at hown3; (try simp only [Nat.zero_add] at hown3); (try simp only [Nat.zero_add]); have HV3 := Lib.hid (HV2.out.push (ownK w2.heap.size 22 1 (.slice (some A3) m cap3) m ((zs.take m).map (Value.int .u64))) hb3 hown3 (fun k hk => own_ge hown3 k hk)); clear hown3 hgrow3 rd3 hc3 hc4 hb3))
  go_ret
  exact ⟨ret_bs (by first | rfl | (simp [*]; done)), HV6.out.below⟩
namespace summaryHistogram
open Go.ChangeShapes Go.WideShapes Go.ChangeAt Go.Joins
set_option maxRecDepth 100000 in
theorem lifted (os : Os) (started : os.Started) (H : Type) (enc : TypeId × Value → H) :
    ReturnsInHanded {} Tryz.checked os 6 .any (Rows.summaryHistogramSpec.pre6 enc Tryz.prog Tryz.f6 Rows.summaryHistogramRow.domain false) (Rows.summaryHistogramSpec.post enc Tryz.prog Tryz.f6 false true false false) := by
  refine Lw.lifted (C := Tryz.checked) (B := 4) (by kernel_rfl) os started (by kernel_rfl) Tryz.func6
    (ChangeSpec.witness6 (enc := enc) (C := Tryz.checked) false ⟨#[], #[.agg #[.int .i64 0, .int .i64 0, .int .i64 0, .int .i64 0, .int .u64 0, .slice none 0 0], .slice none 0 0], []⟩ 8 (by kernel_rfl) (by kernel_rfl) (by kernel_rfl) (by kernel_rfl)) rfl Tryz.underlying4 (by kernel_rfl) (by kernel_rfl) (by kernel_rfl) ?_ ?_
  · intro ds h
    rw [Tryz.params6] at h
    match ds, h with
    | [_, _], _ => rfl
  · intro W base args ds p hval hA
    rw [Tryz.params6] at hA hval
    obtain ⟨v0, vs0, d0, ds0, p0, q0, hargs, rfl, rfl, h0, r0⟩ := trodAll_cons hA
    obtain ⟨v1, vs1, d1, ds1, p1, q1, rfl, rfl, rfl, h1, r1⟩ := trodAll_cons r0
    obtain ⟨rfl, rfl, rfl⟩ := trodAll_nil r1
    obtain rfl : args = #[v0, v1] := by cases args; simp_all
    obtain ⟨x0, A0, n0, k0, qs0, rfl, hx0, hq0⟩ := open_playX (hval 0 63 v0 rfl rfl) h0
    obtain ⟨A1, n1, c1, zs1, rfl, hA1, hn1, hc1, hr1, hl1, hz1⟩ := open_list_uint64 (hval 1 66 v1 rfl rfl) h1
    exact histo_law x0 A0 n0 k0 qs0 A1 n1 c1 zs1 W hx0 hq0 hA1 hn1 hc1 hr1 hl1 hz1
theorem over : Rows.summaryHistogramRow.holds Tryz.pinned (OpenSpec.ofChange Rows.summaryHistogramSpec) :=
  OpenClaim.holds_of_wide 6 Tryz.f6 rfl rfl rfl rfl rfl rfl rfl ⟨rfl, rfl, rfl, rfl, rfl⟩ rfl rfl rfl rfl rfl (by kernel_rfl) Tryz.func6 (by kernel_rfl)
    (of_decide_eq_true (by kernel_rfl)) (by unfold Func.isWrapper; first | (rw [if_pos (by decide +kernel)]; kernel_rfl) | (rw [if_neg (by decide +kernel)]; exact ⟨rfl, rfl⟩))
    (fun os started H enc _ => lifted os started H enc)
theorem proved : Rows.SummaryHistogramSaid :=
  over
#print axioms proved
end summaryHistogram
end Go.Proofs.YtkflggojiiebeaaGreat.Smr
