/- Texts that the statements of this seat lean on, put together: StkMid, StkOps, StkRCpy, StkRNew, StkThing, StkIt, StkFst, StkRGet, StkRUpd. -/
import Derived.Test.YtccabgeeglhagaaGreatMd
import Derived.Test.YtccabgeeglhagaaGreatMg
import Derived.Test.YtccabgeeglhagaaGreatMi
import Derived.Test.YtccabgeeglhagaaGreatMj
import Derived.Deep.LoopGhost
import Derived.Deep.RegionHeld3
import Derived.Deep.DeepCutAuto
import Derived.Deep.QuietTactic
import Derived.BigQuiet
import Derived.Shelf.Abstract
import Derived.Shelf.RegionOpen
import Derived.WalkKit
import Derived.OwnWalkIn
import Derived.TacticsInMore
import Derived.LoopNIn
import Derived.LoopIn
import Derived.RangeFuncBox
/- The cells that the document's grid and level answer, as a row that may be written; a level's cells loaded. Printed by wip/gen/stk17.py. -/
namespace Go.Proofs.YtccabgeeglhagaaGreat.Stk
open Go Go.RowKit Lw Grd Lin Con Shp Sk Exa Lev
set_option linter.unusedVariables false
set_option linter.unusedSimpArgs false
set_option maxRecDepth 100000 in
set_option maxHeartbeats 2000000 in
theorem rcellsM_any (b : Nat) (hdr : Value) (R : List Row) (Z : List Int) (w : World) (h : RG w b hdr R) (hZ : (nums R).flatten = Z) (hn : R.length ≤ 8) (hm : ∀ r ∈ R, r.2.2.length ≤ 128) :
    Calls Tryz.prog 32 #[.pointer (some ⟨b, 0, none⟩)] w fun e w' => ∃ (g cap : Nat), e = .returned (.slice (some ⟨g, 0, none⟩) Z.length cap) ∧ Ord.Mid w' g 0 Z ∧ Z.length ≤ cap ∧ cap ≤ maxLen ∧ w.heap.size ≤ g ∧ Below w.heap.size w w' := by
  obtain ⟨i0, hi, hz0, hz1, hz2⟩ := info_parts Grd.i64_info
  have HG := Lib.hid h
  have HZZ := Lib.hid hZ
  clear hZ
  obtain ⟨A, cap, rfl, hcap, hA, hcell⟩ := h.hd
  have hb := cell_of_row w b 0 _ _ _ h.cell
  simp only [List.getElem?_toArray, List.getElem?_cons_zero] at hb
  have hlen : (nums R).length = R.length := by simp [nums]
  have HLM := Lib.hid (fun k => flat_len (nums R) k 128 (fun zs hz => by obtain ⟨r, hr, rfl⟩ := List.mem_map.1 hz; exact hm r hr))
  have HC := Lib.hid hcell
  have HLEN := Lib.hid hlen
  have HM := Lib.hid hm
  clear h hcell hA hlen hm
  go_enter Tryz.func32, Tryz.ntmps32
  go_wp2
  go_loopw [3, 4] (fun v i wr => ∃ (k n : Nat) (ad : Addr) (cp : Nat), k ≤ R.length ∧ i = .int .i64 k ∧ n = ((nums R).take k).flatten.length ∧ v = .slice (some ad) n cp ∧ wr.ownsRow w.heap.size 2 1 v n (((nums R).take k).flatten.map (Value.int .i64)) ∧ Below w.heap.size w wr) (fun _ i _ => R.length - (intOf i).toNat)
  case atStart => exact ⟨0, 0, _, 0, Nat.zero_le _, rfl, rfl, rfl, own_empty w _ _ _ (Nat.le_refl _), Lw.below_alloc (Below.refl _ _) _⟩
  case round =>
    obtain ⟨k, n, ad, cp, hk, rfl, hnn, rfl, hown, hbel⟩ := hrel
    have hbr := cell_up hb hbel
    have hlm := HLM.out k
    have hbs := hbel.size
    by_cases hlt : k < R.length
    · obtain ⟨r, hr⟩ : ∃ r, R[k]? = some r := ⟨_, List.getElem?_eq_getElem hlt⟩
      obtain ⟨oad, rfl, hcr⟩ := HC.out k r hr
      have hrm := List.mem_of_getElem? hr
      have hml := HM.out r hrm
      have hcr2 := cell_up hcr hbel
      have hrd : Rd .i64 w (some ⟨r.1, 0, none⟩) r.2.2 := fun j v hv => ⟨_, rfl, HG.out.numAt hrm hv⟩
      have HN := Lib.hid (flat_next (nums R) k r.2.2 (by simp [nums, hr]))
      have HRD := Lib.hid (hrd.up hbel)
      have HB := Lib.hid hbel
      have HNN := Lib.hid hnn
      have hn2 : n ≤ 1024 := by omega
      clear hlm
      obtain ⟨g, gc, zs⟩ := r
      unfold rowHd at hcr2
      simp only at hcr2 hml HRD HN
      clear hr hcr hrd hbel hnn hrm
      go_wp2_with (at_builtin; (refine app_any .i64 rfl _ _ 43 rfl w.heap.size 2 i0 8 Grd.i64s_u hi hz0 hz1 hz2 (.slice (some ad) n cp) n ((nums R).take k).flatten rfl hown (fun h => by cases h) (some ⟨g, 0, none⟩) zs.length gc zs rfl (by simp) rfl HRD.out (by unfold maxLen; omega) (by omega) hbs ?_); intro A2 cap2 w2 own2 grow2 rd2 c2 d2; have hb2 : Below w.heap.size w w2 := app_below3 HB.out grow2 (fun q hq => own_ge hown q hq))
      go_roundw
      case rel => exact ⟨k + 1, n + zs.length, A2, cap2, by omega, by go_num, by rw [HN.out, List.length_append, ← HNN.out], rfl, by rw [HN.out]; exact own2, hb2⟩
      case measure => simp [intOf]; omega
    · have e : k = R.length := by omega
      subst e
      rw [List.take_of_length_le (by have := HLEN.out; omega), HZZ.out] at hown hnn hlm
      subst hnn
      obtain ⟨A2, c2, e2, hrd, h1, h2, h3⟩ := own_rd hown
      injection e2 with e3 e4 e5
      subst e3
      subst e5
      obtain ⟨gm, rfl, hgm, hmid⟩ := Ord.mid_own hown
      have HO := Lib.hid hmid
      have HB := Lib.hid hbel
      clear hown hrd hbel h3 hmid
      go_wp2
      go_ret
      exact ⟨_, _, rfl, HO.out, h1, h2, hgm, HB.out⟩
theorem dcellsM_any (q : Addr) (G : Nat → Prop) (m n : Nat) (L : List (List Int)) (w : World) (h : DG w q G m n L) :
    Calls Tryz.prog 32 #[.pointer (some q)] w fun e w' => ∃ (g cap : Nat), e = .returned (.slice (some ⟨g, 0, none⟩) (m * n) cap) ∧ Ord.Mid w' g 0 L.flatten ∧ m * n ≤ cap ∧ cap ≤ maxLen ∧ w.heap.size ≤ g ∧ Below w.heap.size w w' := by
  obtain ⟨b, hdr, R, rfl, hg, rfl, hG, hd⟩ := h
  obtain ⟨s1, s2, s3⟩ := DG.sizes hd
  have h := rcellsM_any b hdr R (nums R).flatten w hg rfl s1 s2
  rw [flat_dims hd] at h
  exact h
set_option maxRecDepth 100000 in
set_option maxHeartbeats 4000000 in
theorem lcellsM_S (p : Addr) (F : Nat → Prop) (c : Cfg) (l : Int) (L : List (List Int)) (w : World) (h : DLS w p F c l L) :
    Calls Tryz.prog 14 #[.pointer (some p)] w fun e w' => ∃ (g cap : Nat), e = .returned (.slice (some ⟨g, 0, none⟩) (rws c * wds c) cap) ∧ Ord.Mid w' g 0 L.flatten ∧ rws c * wds c ≤ cap ∧ cap ≤ maxLen ∧ w.heap.size ≤ g ∧ Below w.heap.size w w' := by
  obtain ⟨a, G, b, rfl, hb, ht, hn, rfl⟩ := h
  have c0 := grd_cell hb 0 (v := .pointer none) rfl
  have c1 := grd_cell hb 1 (v := .pointer (some a)) rfl
  obtain ⟨hr, hok, hl0, hl1, bs, gp, G0, rfl, hbs, hg, hGb, rfl⟩ := dsI ht
  have e6 := grd_cell hbs 6 (v := .pointer (some gp)) rfl
  have C := Lib.hid (dcellsM_any gp G0 _ _ L w hg)
  clear hb ht hn hbs hg
  go_enter Tryz.func14, Tryz.ntmps14
  go_wp2_with (go_at_call 32; (with_reducible refine (C.out).mono ?_); rintro e w2 ⟨A, cap, rfl, h1, h2, h3, h4, hb9⟩; have H1 := Lib.hid h1; have H2 := Lib.hid (And.intro h2 (And.intro h3 h4)); have HB2 := Lib.hid hb9; clear h1 h2 h3 h4 hb9)
  go_ret
  exact ⟨A, cap, rfl, H1.out, H2.out.1, H2.out.2.1, H2.out.2.2, HB2.out⟩
theorem dla_len {w : World} {p : Addr} {F : Nat → Prop} {c : Cfg} {l : Int} {L : List Int} (h : DLA w p F c l L) : L.length ≤ 128 := by
  obtain ⟨a, G, b, rfl, hb, ht, hn, rfl⟩ := h
  have h2 : DA w a G c l L := ht
  exact h2.2.1
theorem dvm_cells (p : Addr) (F : Nat → Prop) (c : Cfg) (l : Int) (st : LS) (w : World) (h : DLV w p F c l st) :
    Calls Tryz.prog 14 #[.pointer (some p)] w fun e w' => ∃ (g n cap : Nat), e = .returned (.slice (some ⟨g, 0, none⟩) n cap) ∧ Ord.Mid w' g 0 st.fl ∧ st.fl.length = n ∧ n ≤ cap ∧ cap ≤ maxLen ∧ w.heap.size ≤ g ∧ Below w.heap.size w w' := by
  cases st with
  | A L => exact (lcells_A p F c l L w h.2).mono (fun e w' ⟨g, cap, h1, h2, h3, h4, h5, h6⟩ => ⟨g, _, cap, h1, h2, rfl, h4, h5, h3, h6⟩)
  | S L =>
    have hl : L.flatten.length = rws c * wds c := flat_dims (dls_dims h.2)
    exact (lcellsM_S p F c l L w h.2).mono (fun e w' ⟨g, cap, h1, h2, h3, h4, h5, h6⟩ => ⟨g, _, cap, h1, h2, hl, h3, h4, h5, h6⟩)
/-- A level's cells are loaded. -/
theorem dv_load (p : Addr) (F : Nat → Prop) (c : Cfg) (l : Int) (st : LS) (ad : Addr) (n cap : Nat) (zs : List Int) (w : World) (h : DLV w p F c l st) (hrd : Rd .i64 w (some ad) zs) (hl : zs.length = n) (hz : In64 zs) (hn : n = st.fl.length) (hap : ¬ F ad.block) :
    Calls Tryz.prog 15 #[.pointer (some p), .slice (some ad) n cap] w fun e w' => e = .returned (.tuple #[]) ∧ ∃ F' st', DLV w' p F' c l st' ∧ st'.fl = zs ∧ st'.ar = st.ar ∧ Kept F w w' ∧ (∀ k, F' k → F k ∨ w.heap.size ≤ k) := by
  cases st with
  | A L => exact (lload_A p F c l L ad n cap zs w h.2 hrd hl hz (by have := dla_len h.2; have h9 : n = L.length := hn; omega)).mono (fun e w' ⟨h1, F', h2, h3, h4⟩ => ⟨h1, F', .A zs, ⟨h.1, h2⟩, rfl, rfl, h3, h4⟩)
  | S L =>
    have hl2 : L.flatten.length = rws c * wds c := flat_dims (dls_dims h.2)
    exact (lload_S p F c l L ad n cap zs w h.2 hrd hl hz (by have h9 : n = L.flatten.length := hn; omega) hap).mono (fun e w' ⟨h1, F', L', h2, h3, h4, h5⟩ => ⟨h1, F', .S L', ⟨h.1, h2⟩, h3, rfl, h4, h5⟩)
/-- What a level has is told by its cells. -/
theorem ls_eq {w1 w2 : World} {p : Addr} {v : Value} {F1 F2 : Nat → Prop} {c : Cfg} {l : Int} {s1 s2 : LS} (h1 : DLV w1 p F1 c l s1) (h2 : ELV w2 v F2 c l s2) (hf : s1.fl = s2.fl) : s1 = s2 := by
  have ha : s1.ar = s2.ar := h1.1.symm.trans h2.1
  cases s1 with
  | A L1 =>
    cases s2 with
    | A L2 => exact congrArg LS.A hf
    | S L2 => cases ha
  | S L1 =>
    cases s2 with
    | A L2 => cases ha
    | S L2 =>
      obtain ⟨q, e, h3⟩ := h2.2
      exact congrArg LS.S (flat_inj (dls_dims h1.2) h3.dims hf)
end Go.Proofs.YtccabgeeglhagaaGreat.Stk
/- A row of ops of layer 15. Printed by wip/gen/stk19.py. -/
namespace Go.Proofs.YtccabgeeglhagaaGreat.Stk
open Go Go.RowKit Lw Grd Lin Con Shp Sk Exa Lev
set_option linter.unusedVariables false
set_option linter.unusedSimpArgs false
theorem open_opz_u : Tryz.prog.underlying 25 = some (.slice 35) := by kernel_rfl
theorem open_opz_c : Tryz.prog.cellsOf 35 = 4 := by kernel_rfl
set_option maxRecDepth 100000 in
theorem open_opz {H : Type} {enc : TypeId × Value → H} {w : World} {base fuel : Nat} {spare : Nat → Bool} {held : Bool} {cs : List Value} {x : DataW H × List MemPlace} (h : DataW.trod enc Tryz.prog w base spare held fuel 25 cs = some x) :
    ∃ (A : Option Addr) (len cap : Nat) (qs : List (Int × Int × Int × Int)), cs = [.slice A len cap] ∧ (A = none → len = 0 ∧ cap = 0) ∧ len ≤ cap ∧ cap ≤ maxLen ∧ qs.length = len ∧ ∀ (i : Nat) q, qs[i]? = some q → ∃ a, A = some a ∧ w.cell? (a.add (i * 4)) = some (.int .i64 (q.1)) ∧ w.cell? (a.add (i * 4 + 1)) = some (.int .i64 (q.2.1)) ∧ w.cell? (a.add (i * 4 + 2)) = some (.int .u64 (q.2.2.1)) ∧ w.cell? (a.add (i * 4 + 3)) = some (.int .i64 (q.2.2.2)) ∧ (-9223372036854775808 ≤ (q.1) ∧ (q.1) ≤ 9223372036854775807) ∧ (-9223372036854775808 ≤ (q.2.1) ∧ (q.2.1) ≤ 9223372036854775807) ∧ (0 ≤ (q.2.2.1) ∧ (q.2.2.1) ≤ 18446744073709551615) ∧ (-9223372036854775808 ≤ (q.2.2.2) ∧ (q.2.2.2) ≤ 9223372036854775807) := by
  rcases Go.Deep.open_slice open_opz_u h with ⟨rfl, _⟩ | ⟨a, len, cap, m, n, D, Pl, rfl, hb, hl, hm, hmm, _, hx⟩
  · exact ⟨none, 0, 0, [], rfl, fun _ => ⟨rfl, rfl⟩, Nat.le_refl _, by simp, rfl, fun i q hq => by simp at hq⟩
  have hlm : len ≤ m := by rw [hmm]; split <;> omega
  have each : ∀ i, i < len → ∃ q : Int × Int × Int × Int, w.cell? (a.add (i * 4)) = some (.int .i64 (q.1)) ∧ w.cell? (a.add (i * 4 + 1)) = some (.int .i64 (q.2.1)) ∧ w.cell? (a.add (i * 4 + 2)) = some (.int .u64 (q.2.2.1)) ∧ w.cell? (a.add (i * 4 + 3)) = some (.int .i64 (q.2.2.2)) ∧ (-9223372036854775808 ≤ (q.1) ∧ (q.1) ≤ 9223372036854775807) ∧ (-9223372036854775808 ≤ (q.2.1) ∧ (q.2.1) ≤ 9223372036854775807) ∧ (0 ≤ (q.2.2.1) ∧ (q.2.2.1) ≤ 18446744073709551615) ∧ (-9223372036854775808 ≤ (q.2.2.2) ∧ (q.2.2.2) ≤ 9223372036854775807) := by
    intro i hi
    obtain ⟨cs', h1, h2⟩ := hx i (by omega)
    rw [open_opz_c] at h1
    obtain ⟨_, hlen, hcell⟩ := World.cells?_some h1
    obtain ⟨xs, k, _, _, _, hxl, hf⟩ := DataW.trod_struct Tryz.underlying35 h2
    match xs, hxl, cs', hlen with
    | [y0, y1, y2, y3], _, [v0, v1, v2, v3], _ =>
      have g0 := hf 0 _ rfl
      have g1 := hf 1 _ rfl
      have g2 := hf 2 _ rfl
      have g3 := hf 3 _ rfl
      have e0 := hcell 0 (by omega)
      have e1 := hcell 1 (by omega)
      have e2 := hcell 2 (by omega)
      have e3 := hcell 3 (by omega)
      rw [add_add'] at e0 e1 e2 e3
      simp [show Tryz.prog.cellsOf 3 = 1 from by kernel_rfl, show Tryz.prog.cellsOf 22 = 1 from by kernel_rfl, show Tryz.prog.cellsOf 2 = 1 from by kernel_rfl] at g0 g1 g2 g3
      obtain ⟨x0, f0, _, w0⟩ := DataW.trod_int (show Tryz.prog.underlying 3 = some (.int .i64) by kernel_rfl) g0
      obtain ⟨x1, f1, _, w1⟩ := DataW.trod_int (show Tryz.prog.underlying 3 = some (.int .i64) by kernel_rfl) g1
      obtain ⟨x2, f2, _, w2⟩ := DataW.trod_int (show Tryz.prog.underlying 22 = some (.int .u64) by kernel_rfl) g2
      obtain ⟨x3, f3, _, w3⟩ := DataW.trod_int (show Tryz.prog.underlying 2 = some (.int .i64) by kernel_rfl) g3
      simp at f0 f1 f2 f3
      subst f0 f1 f2 f3
      exact ⟨(x0, x1, x2, x3), by simpa using e0, by simpa using e1, by simpa using e2, by simpa using e3, Lw.wf_i64 w0, Lw.wf_i64 w1, Lw.wf_u64 w2, Lw.wf_i64 w3⟩
  have each2 : ∀ i, ∃ q : Int × Int × Int × Int, i < len → (w.cell? (a.add (i * 4)) = some (.int .i64 (q.1)) ∧ w.cell? (a.add (i * 4 + 1)) = some (.int .i64 (q.2.1)) ∧ w.cell? (a.add (i * 4 + 2)) = some (.int .u64 (q.2.2.1)) ∧ w.cell? (a.add (i * 4 + 3)) = some (.int .i64 (q.2.2.2)) ∧ (-9223372036854775808 ≤ (q.1) ∧ (q.1) ≤ 9223372036854775807) ∧ (-9223372036854775808 ≤ (q.2.1) ∧ (q.2.1) ≤ 9223372036854775807) ∧ (0 ≤ (q.2.2.1) ∧ (q.2.2.1) ≤ 18446744073709551615) ∧ (-9223372036854775808 ≤ (q.2.2.2) ∧ (q.2.2.2) ≤ 9223372036854775807)) := fun i => by
    by_cases hi : i < len
    · obtain ⟨q, hq⟩ := each i hi
      exact ⟨q, fun _ => hq⟩
    · exact ⟨(0, 0, 0, 0), fun h => absurd h hi⟩
  refine ⟨some a, len, cap, (List.range len).map fun i => Classical.choose (each2 i), rfl, (fun h => by cases h), hl, hm, by simp, ?_⟩
  intro i q hq
  rw [List.getElem?_map] at hq
  obtain ⟨j, hj, rfl⟩ := Option.map_eq_some_iff.1 hq
  have hj2 := List.getElem?_eq_some_iff.1 hj
  obtain ⟨hj3, hj4⟩ := hj2
  simp at hj3 hj4
  subst hj4
  exact ⟨a, rfl, Classical.choose_spec (each2 i) hj3⟩
abbrev Opz := Int × Int × Int × Int
/-- A row of ops, handed in. -/
structure OpzV (w : World) (A : Option Addr) (n c : Nat) (qs : List Opz) : Prop where
  nil : A = none → n = 0 ∧ c = 0
  nc : n ≤ c
  cm : c ≤ maxLen
  len : qs.length = n
  each : ∀ (i : Nat) q, qs[i]? = some q → ∃ a, A = some a ∧ w.cell? (a.add (i * 4)) = some (.int .i64 (q.1)) ∧ w.cell? (a.add (i * 4 + 1)) = some (.int .i64 (q.2.1)) ∧ w.cell? (a.add (i * 4 + 2)) = some (.int .u64 (q.2.2.1)) ∧ w.cell? (a.add (i * 4 + 3)) = some (.int .i64 (q.2.2.2)) ∧ (-9223372036854775808 ≤ (q.1) ∧ (q.1) ≤ 9223372036854775807) ∧ (-9223372036854775808 ≤ (q.2.1) ∧ (q.2.1) ≤ 9223372036854775807) ∧ (0 ≤ (q.2.2.1) ∧ (q.2.2.1) ≤ 18446744073709551615) ∧ (-9223372036854775808 ≤ (q.2.2.2) ∧ (q.2.2.2) ≤ 9223372036854775807)
theorem OpzV.at {w : World} {A : Option Addr} {n c : Nat} {qs : List Opz} (h : OpzV w A n c qs) {i : Nat} {q : Opz} (hq : qs[i]? = some q) : ∃ (a : Addr) (g o : Nat), A = some a ∧ a.add (i * 4) = ⟨g, o, none⟩ ∧ w.cell? ⟨g, o, none⟩ = some (.int .i64 q.1) ∧ w.cell? ⟨g, o + 1, none⟩ = some (.int .i64 q.2.1) ∧ w.cell? ⟨g, o + 2, none⟩ = some (.int .u64 q.2.2.1) ∧ w.cell? ⟨g, o + 3, none⟩ = some (.int .i64 q.2.2.2) ∧ (-9223372036854775808 ≤ q.2.1 ∧ q.2.1 ≤ 9223372036854775807) ∧ (0 ≤ q.2.2.1 ∧ q.2.2.1 ≤ 18446744073709551615) ∧ (-9223372036854775808 ≤ q.2.2.2 ∧ q.2.2.2 ≤ 9223372036854775807) := by
  obtain ⟨a, e, h1, h2, h3, h4, _, h5, h6, h7⟩ := h.each i q hq
  rw [← add_add'] at h2 h3 h4
  have hs : (a.add (i * 4)).spot = none := by
    unfold World.cell? at h1
    split at h1
    · split at h1
      · cases h1
      · rename_i hs; simpa using hs
    · cases h1
  obtain ⟨ad, had⟩ : ∃ ad, a.add (i * 4) = ad := ⟨_, rfl⟩
  rw [had] at h1 h2 h3 h4 hs
  obtain ⟨g, o, sp⟩ := ad
  simp only at hs
  subst hs
  rw [Ord.add_at] at h2 h3 h4
  exact ⟨a, g, o, e, had, h1, h2, h3, h4, h5, h6, h7⟩
end Go.Proofs.YtccabgeeglhagaaGreat.Stk
/- The document's Copy of a stack. Printed by wip/gen/stk16.py. -/
namespace Go.Proofs.YtccabgeeglhagaaGreat.Stk
open Go Go.RowKit Lw Grd Lin Con Shp Sk Exa Lev
set_option linter.unusedVariables false
set_option linter.unusedSimpArgs false
set_option maxRecDepth 100000 in
set_option maxHeartbeats 4000000 in
theorem dk_copy (p : Addr) (F : Nat → Prop) (c : Cfg) (sts : List LS) (w : World) (h : DK w p F c sts) :
    Calls Tryz.prog 11 #[.pointer (some p)] w fun e w' => ∃ (q : Addr) (Q : Nat → Prop), e = .returned (.pointer (some q)) ∧ DK w' q Q c sts ∧ (∀ k, Q k → w.heap.size ≤ k) ∧ Below w.heap.size w w' := by
  obtain ⟨hr, hc, hl, b0, B0, hdr0, vals0, ts0, rfl, hrow0, hI, rfl⟩ := h
  have HH := Lib.hid (Hold.start hI)
  have HO := Lib.hid hc
  have HR := Lib.hid hr
  have HL := Lib.hid hl
  have HROW0 := Lib.hid hrow0
  have hb1 := hr.1
  have hb2 := hr.2.1
  obtain ⟨g0, cap0, rfl, hcs⟩ := ownD_cell (HH.out.i (t := ownT B0 45 hdr0 vals0) (by simp)) (by have := hrow0.lv; omega)
  obtain ⟨N, hN⟩ : ∃ N, vals0.length = N := ⟨_, rfl⟩
  have HNB : Hid (N = c.bt.toNat + 1) := Lib.hid (by have := hrow0.lv; omega)
  have hN60 : N ≤ 60 := by have := HNB.out; omega
  have HCS := Lib.hid hcs
  have d0 := box_cell (HH.out.i (t := dkB b0 c (.slice (some ⟨g0, 0, none⟩) vals0.length cap0)) (by simp)) (i := 0) rfl
  have d1 := box_cell (HH.out.i (t := dkB b0 c (.slice (some ⟨g0, 0, none⟩) vals0.length cap0)) (by simp)) (i := 1) rfl
  have d2 := box_cell (HH.out.i (t := dkB b0 c (.slice (some ⟨g0, 0, none⟩) vals0.length cap0)) (by simp)) (i := 2) rfl
  have d3 := box_cell (HH.out.i (t := dkB b0 c (.slice (some ⟨g0, 0, none⟩) vals0.length cap0)) (by simp)) (i := 3) rfl
  have d4 := box_cell (HH.out.i (t := dkB b0 c (.slice (some ⟨g0, 0, none⟩) vals0.length cap0)) (by simp)) (i := 4) rfl
  have d5 : w.cell? ⟨b0, 5, none⟩ = some (.slice (some ⟨g0, 0, none⟩) N cap0) := by rw [← hN]; exact box_cell (HH.out.i (t := dkB b0 c (.slice (some ⟨g0, 0, none⟩) vals0.length cap0)) (by simp)) (i := 5) rfl
  have HD5 := Lib.hid d5
  have HLS : Hid (sts.length = N) := Lib.hid (by have := hrow0.lv; omega)
  obtain ⟨j0, hj, hy0, hy1, hy2⟩ := info_parts dls_info
  have HJ := Lib.hid hj
  have HS := Lib.hid (((Hold.start0 (Below.refl _ w)).push (ownT w.heap.size 45 (.slice none 0 0) []) (Below.refl _ _) (ownD_nil _ _ _) (fun k hk => ownD_nilF _ _ hk)).push (dkB w.heap.size c (.slice none 0 0)) (Lw.below_alloc (Below.refl _ _) _) (heap_alloc_new w _) (fun k hk => Nat.le_of_eq hk.symm))
  clear hr hc hl hrow0 hI hcs hj d5 hN
  go_enter Tryz.func11, Tryz.ntmps11
  go_wp2
  clear d0 d1 d2 d3 d4
  go_loopw [4] (fun i wr => ∃ (n : Nat) (hdr : Value) (vals : List Value) (ts : List Thing), n ≤ N ∧ i = .int .i64 n ∧ LRow dlT c vals ts (sts.take n) ∧ Hold (fun _ => False) w wr (dkB w.heap.size c hdr :: ownT w.heap.size 45 hdr vals :: ts)) (fun i _ => N - (intOf i).toNat)
  case atStart => exact ⟨0, .slice none 0 0, [], [], Nat.zero_le _, rfl, LRow.nil _ _, HS.out⟩
  case round =>
    obtain ⟨n, hdr, vals, ts, hn, rfl, hrow, hv⟩ := hrel
    have HROW := Lib.hid hrow
    have HV := Lib.hid hv
    have hBW : Below w.heap.size w wr := hv.1.below
    have HBW := Lib.hid hBW
    have hTL : (sts.take n).length = n := by rw [List.length_take, HLS.out]; omega
    have HTL := Lib.hid hTL
    have LV := Lib.hid (hrow.lv.trans hTL)
    have d5 := cell_up HD5.out hBW
    have x1 := box_cell (hv.i (t := dkB w.heap.size c hdr) (by simp)) (i := 5) rfl
    clear hrow hv hBW hTL
    by_cases hlt : n < N
    · obtain ⟨st, hst⟩ : ∃ st, sts[n]? = some st := ⟨_, List.getElem?_eq_getElem (by rw [HLS.out]; exact hlt)⟩
      obtain ⟨p0, Q0, e1, e2, e3⟩ := dk_at HROW0.out HH.out hst
      have d6 := cell_up (HCS.out n _ e1) HBW.out
      have HE := Lib.hid (show DLV wr.drew p0 Q0 c (n : Int) st from e2.keep (Kept.of_below (F := fun _ => False) (Below.drew HBW.out)) (fun _ _ h => h))
      have HST := Lib.hid hst
      have hlt2 : (n : Int) < (N : Int) := by omega
      have hn0 : (0 : Int) ≤ (n : Int) := by omega
      have HE1 := Lib.hid e1
      clear e1 e2 e3 hst
      go_wp2
      refine wp_region_held_drew (S := (fun w' => w'.cell? ⟨b0, 5, none⟩ = some (.slice (some ⟨g0, 0, none⟩) N cap0) ∧ w'.cell? ⟨g0, n, none⟩ = some (.pointer (some p0)))) (by kernel_rfl) ⟨cell_up HD5.out (HV.out.up (Below.drew (Below.refl _ wr))).1.below, cell_up (HCS.out n _ HE1.out) (HV.out.up (Below.drew (Below.refl _ wr))).1.below⟩ (fun hHeld => ?_)
      refine wpAnyH_take (i := 0) (v := ?_) rfl (by kernel_rfl) (by kernel_rfl) (by kernel_rfl) (fun _ _ _ h => h) (Or.inl ⟨by rfl, ?_⟩) hHeld ?_
      rotate_left
      · intro w hSw
        (try dsimp only at hSw)
        go_simp
        (try with_reducible rfl)
      (try simp only [List.getElem_toArray, List.getElem_cons_zero, List.getElem_cons_succ, Act.put, List.setIfInBounds_toArray, List.set_cons_zero, List.set_cons_succ])
      refine wpAnyH_take (i := 1) (v := ?_) rfl (by kernel_rfl) (by kernel_rfl) (by kernel_rfl) (fun _ _ _ h => h) (Or.inl ⟨by rfl, ?_⟩) hHeld ?_
      rotate_left
      · intro w hSw
        (try dsimp only at hSw)
        go_simp
        (try with_reducible rfl)
      (try simp only [List.getElem_toArray, List.getElem_cons_zero, List.getElem_cons_succ, Act.put, List.setIfInBounds_toArray, List.set_cons_zero, List.set_cons_succ])
      refine wpAnyH_take (i := 2) (v := ?_) rfl (by kernel_rfl) (by kernel_rfl) (by kernel_rfl) (fun _ _ _ h => h) (Or.inl ⟨by rfl, ?_⟩) hHeld ?_
      rotate_left
      · intro w hSw
        (try dsimp only at hSw)
        go_simp
        (try with_reducible rfl)
      (try simp only [List.getElem_toArray, List.getElem_cons_zero, List.getElem_cons_succ, Act.put, List.setIfInBounds_toArray, List.set_cons_zero, List.set_cons_succ])
      refine wpAnyH_take (i := 3) (v := ?_) rfl (by kernel_rfl) (by kernel_rfl) (by kernel_rfl) (fun _ _ _ h => h) (Or.inl ⟨by rfl, ?_⟩) hHeld ?_
      rotate_left
      · intro w hSw
        (try dsimp only at hSw)
        go_simp
        (try with_reducible rfl)
      (try simp only [List.getElem_toArray, List.getElem_cons_zero, List.getElem_cons_succ, Act.put, List.setIfInBounds_toArray, List.set_cons_zero, List.set_cons_succ])
      refine wpAnyH_take (i := 5) (v := ?_) rfl (by kernel_rfl) (by kernel_rfl) (by kernel_rfl) (fun _ _ _ h => h) (Or.inl ⟨by rfl, ?_⟩) hHeld ?_
      rotate_left
      · intro w hSw
        (try dsimp only at hSw)
        go_simp
        (try with_reducible rfl)
      (try simp only [List.getElem_toArray, List.getElem_cons_zero, List.getElem_cons_succ, Act.put, List.setIfInBounds_toArray, List.set_cons_zero, List.set_cons_succ])
      refine wpAnyH_take (i := 6) (v := ?_) rfl (by kernel_rfl) (by kernel_rfl) (by kernel_rfl) (fun _ _ _ h => h) (Or.inl ⟨by rfl, ?_⟩) hHeld ?_
      rotate_left
      · intro w hSw
        (try dsimp only at hSw)
        go_simp
        (try with_reducible rfl)
      (try simp only [List.getElem_toArray, List.getElem_cons_zero, List.getElem_cons_succ, Act.put, List.setIfInBounds_toArray, List.set_cons_zero, List.set_cons_succ])
      refine wpAnyH_take (i := 7) (v := ?_) rfl (by kernel_rfl) (by kernel_rfl) (by kernel_rfl) (fun _ _ _ h => h) (Or.inl ⟨by rfl, ?_⟩) hHeld ?_
      rotate_left
      · intro w hSw
        (try dsimp only at hSw)
        go_simp
        (try with_reducible rfl)
      (try simp only [List.getElem_toArray, List.getElem_cons_zero, List.getElem_cons_succ, Act.put, List.setIfInBounds_toArray, List.set_cons_zero, List.set_cons_succ])
      refine wpAnyH_take (i := 8) (v := ?_) rfl (by kernel_rfl) (by kernel_rfl) (by kernel_rfl) (fun _ _ _ h => h) (Or.inl ⟨by rfl, ?_⟩) hHeld ?_
      rotate_left
      · intro w hSw
        (try dsimp only at hSw)
        go_simp
        (try with_reducible rfl)
      (try simp only [List.getElem_toArray, List.getElem_cons_zero, List.getElem_cons_succ, Act.put, List.setIfInBounds_toArray, List.set_cons_zero, List.set_cons_succ])
      refine wpAnyH_take (i := 9) (v := ?_) rfl (by kernel_rfl) (by kernel_rfl) (by kernel_rfl) (fun _ _ _ h => h) (Or.inl ⟨by rfl, ?_⟩) hHeld ?_
      rotate_left
      · intro w hSw
        (try dsimp only at hSw)
        go_simp
        (try with_reducible rfl)
      (try simp only [List.getElem_toArray, List.getElem_cons_zero, List.getElem_cons_succ, Act.put, List.setIfInBounds_toArray, List.set_cons_zero, List.set_cons_succ])
      refine wpAnyH_take (i := 10) (v := ?_) rfl (by kernel_rfl) (by kernel_rfl) (by kernel_rfl) (fun _ _ _ h => h) (Or.inl ⟨by rfl, ?_⟩) hHeld ?_
      rotate_left
      · intro w hSw
        (try dsimp only at hSw)
        go_simp
        (try with_reducible rfl)
      (try simp only [List.getElem_toArray, List.getElem_cons_zero, List.getElem_cons_succ, Act.put, List.setIfInBounds_toArray, List.set_cons_zero, List.set_cons_succ])
      refine wpAnyH_take (i := 11) (v := ?_) rfl (by kernel_rfl) (by kernel_rfl) (by kernel_rfl) (fun _ _ _ h => h) (Or.inl ⟨by rfl, ?_⟩) hHeld ?_
      rotate_left
      · intro w hSw
        (try dsimp only at hSw)
        go_simp
        (try with_reducible rfl)
      (try simp only [List.getElem_toArray, List.getElem_cons_zero, List.getElem_cons_succ, Act.put, List.setIfInBounds_toArray, List.set_cons_zero, List.set_cons_succ])
      refine wpAnyH_ready (rs := [4, 12]) (by kernel_rfl) (by simp) ?_
      refine AllReadyH.cons rfl (fun K hK => ?_) (AllReadyH.cons rfl (fun K hK => ?_) AllReadyH.nil)
      · go_simp
        refine hK.out _ _ hHeld (fun hHeld => ?_)
        clear hK K
        (try simp only [List.getElem_toArray, List.getElem_cons_zero, List.getElem_cons_succ, Act.put, List.setIfInBounds_toArray, List.set_cons_zero, List.set_cons_succ])
        refine wpAnyH_ready (rs := [12]) (by kernel_rfl) (by simp) ?_
        refine AllReadyH.cons rfl (fun K hK => ?_) AllReadyH.nil
        go_simp
        (go_at_call 31; (with_reducible refine (dv_copy p0 Q0 c n st _ HE.out).mono ?_); rintro e w5 ⟨pv, Q5, rfl, hE5, hQ5, hb5⟩; have HV5 := Lib.hid (Hold.snoc (HV.out.up (Below.drew (Below.refl _ wr))) (dlT (.pointer (some pv)) Q5 c n st) hb5 ⟨pv, rfl, hE5⟩ hQ5); have BW5 : Below wr.heap.size wr w5 := (Below.drew (Below.refl _ wr)).trans hb5; clear hE5 hQ5 hb5; have x5 := box_cell (HV5.out.i (t := dkB w.heap.size c hdr) (by simp)) (i := 5) rfl; have HV6 := Lib.hid (HV5.out.up (Lw.below_alloc (Below.refl _ w5) (.cells #[.pointer (some pv)] 45))); have x6 := box_cell (HV6.out.i (t := dkB w.heap.size c hdr) (by simp)) (i := 5) rfl)
        refine hK.out _ _ ⟨cell_up HD5.out (HV5.out).1.below, cell_up (HCS.out n _ HE1.out) (HV5.out).1.below⟩ (fun hHeld => ?_)
        clear hK K
        (try simp only [List.getElem_toArray, List.getElem_cons_zero, List.getElem_cons_succ, Act.put, List.setIfInBounds_toArray, List.set_cons_zero, List.set_cons_succ])
        refine wpAnyH_ready (rs := [13]) (by kernel_rfl) (by simp) ?_
        refine AllReadyH.cons rfl (fun K hK => ?_) AllReadyH.nil
        go_simp
        refine hK.out _ _ ⟨cell_up HD5.out (HV6.out).1.below, cell_up (HCS.out n _ HE1.out) (HV6.out).1.below⟩ (fun hHeld => ?_)
        clear hK K
        (try simp only [List.getElem_toArray, List.getElem_cons_zero, List.getElem_cons_succ, Act.put, List.setIfInBounds_toArray, List.set_cons_zero, List.set_cons_succ])
        refine wpAnyH_ready (rs := [14]) (by kernel_rfl) (by simp) ?_
        refine AllReadyH.cons rfl (fun K hK => ?_) AllReadyH.nil
        (refine appd_step rfl _ _ 46 rfl w.heap.size 45 j0 (.pointer none) 8 dls_u HJ.out hy0 hy1 hy2 rfl hdr n vals rfl (by have h7 := HV6.out.i (t := ownT w.heap.size 45 hdr vals) (by simp); have h8 : World.ownsRow _ _ _ _ hdr vals.length vals := h7; rw [LV.out] at h8; exact h8) (.pointer (some pv)) w5.heap.size rfl (cell_one_new _ _ _) rfl (by unfold maxLen; omega) (by omega) (by have h9 := HV6.out.1.size; exact h9) ?_; intro g7 cap7 w7 own7 grow7 hat7; have HV7 := Lib.hid (Hold.app (fs := [dkB w.heap.size c hdr]) HV6.out (by rw [LV.out]; exact own7) grow7 hat7); have x7 := box_cell (HV7.out.i (t := dkB w.heap.size c hdr) (by simp)) (i := 5) rfl; have z7 : w7.frozen? ⟨w.heap.size, 5, none⟩ = false := frozen_of_row w7 w.heap.size 5 _ _ (HV7.out.i (t := dkB w.heap.size c hdr) (by simp)))
        refine hK.out _ _ ⟨cell_up HD5.out (HV7.out).1.below, cell_up (HCS.out n _ HE1.out) (HV7.out).1.below⟩ (fun hHeld => ?_)
        clear hK K
        (try simp only [List.getElem_toArray, List.getElem_cons_zero, List.getElem_cons_succ, Act.put, List.setIfInBounds_toArray, List.set_cons_zero, List.set_cons_succ])
        refine wpAnyH_take (i := 15) (v := ?_) rfl (by kernel_rfl) (by kernel_rfl) (by kernel_rfl) (fun _ _ _ h => h) (Or.inl ⟨by rfl, ?_⟩) hHeld ?_
        rotate_left
        · intro w hSw
          (try dsimp only at hSw)
          go_simp
          (try with_reducible rfl)
        (try simp only [List.getElem_toArray, List.getElem_cons_zero, List.getElem_cons_succ, Act.put, List.setIfInBounds_toArray, List.set_cons_zero, List.set_cons_succ])
        refine wpAnyH_take (i := 16) (v := ?_) rfl (by kernel_rfl) (by kernel_rfl) (by kernel_rfl) (fun _ _ _ h => h) (Or.inl ⟨by rfl, ?_⟩) hHeld ?_
        rotate_left
        · intro w hSw
          (try dsimp only at hSw)
          go_simp
          (try with_reducible rfl)
        (try simp only [List.getElem_toArray, List.getElem_cons_zero, List.getElem_cons_succ, Act.put, List.setIfInBounds_toArray, List.set_cons_zero, List.set_cons_succ])
        refine wpAnyH_ready (rs := [17]) (by kernel_rfl) (by simp) ?_
        refine AllReadyH.cons rfl (fun K hK => ?_) AllReadyH.nil
        go_simp
        refine hK.out _ _ ⟨cell_up HD5.out (Hold.store (fs := []) HV7.out _).1.below, cell_up (HCS.out n _ HE1.out) (Hold.store (fs := []) HV7.out _).1.below⟩ (fun hHeld => ?_)
        clear hK K
        (try simp only [List.getElem_toArray, List.getElem_cons_zero, List.getElem_cons_succ, Act.put, List.setIfInBounds_toArray, List.set_cons_zero, List.set_cons_succ])
        refine wpAnyH_done (by kernel_rfl) ?_ _
        go_wp2
        go_roundw
        all_goals first
          | (simp [intOf]; omega)
          | (refine ⟨n + 1, .slice (some ⟨g7, 0, none⟩) (n + 1) cap7, vals ++ [.pointer (some pv)], ts ++ [dlT (.pointer (some pv)) Q5 c n st], by omega, by go_num, ?_, ?_⟩
             · have h9 := HROW.out.snoc HTL.out (.pointer (some pv)) Q5 st
               rw [← take_next HST.out] at h9
               exact h9
             · have h9 := Hold.store (fs := []) HV7.out (.slice (some ⟨g7, 0, none⟩) (vals.length + 1) cap7)
               rw [LV.out] at h9
               exact h9)
      · go_simp
        (go_at_call 31; (with_reducible refine (dv_copy p0 Q0 c n st _ HE.out).mono ?_); rintro e w5 ⟨pv, Q5, rfl, hE5, hQ5, hb5⟩; have HV5 := Lib.hid (Hold.snoc (HV.out.up (Below.drew (Below.refl _ wr))) (dlT (.pointer (some pv)) Q5 c n st) hb5 ⟨pv, rfl, hE5⟩ hQ5); have BW5 : Below wr.heap.size wr w5 := (Below.drew (Below.refl _ wr)).trans hb5; clear hE5 hQ5 hb5; have x5 := box_cell (HV5.out.i (t := dkB w.heap.size c hdr) (by simp)) (i := 5) rfl; have HV6 := Lib.hid (HV5.out.up (Lw.below_alloc (Below.refl _ w5) (.cells #[.pointer (some pv)] 45))); have x6 := box_cell (HV6.out.i (t := dkB w.heap.size c hdr) (by simp)) (i := 5) rfl)
        refine hK.out _ _ ⟨cell_up HD5.out (HV5.out).1.below, cell_up (HCS.out n _ HE1.out) (HV5.out).1.below⟩ (fun hHeld => ?_)
        clear hK K
        (try simp only [List.getElem_toArray, List.getElem_cons_zero, List.getElem_cons_succ, Act.put, List.setIfInBounds_toArray, List.set_cons_zero, List.set_cons_succ])
        refine wpAnyH_ready (rs := [4, 13]) (by kernel_rfl) (by simp) ?_
        refine AllReadyH.cons rfl (fun K hK => ?_) (AllReadyH.cons rfl (fun K hK => ?_) AllReadyH.nil)
        · go_simp
          refine hK.out _ _ hHeld (fun hHeld => ?_)
          clear hK K
          (try simp only [List.getElem_toArray, List.getElem_cons_zero, List.getElem_cons_succ, Act.put, List.setIfInBounds_toArray, List.set_cons_zero, List.set_cons_succ])
          refine wpAnyH_ready (rs := [13]) (by kernel_rfl) (by simp) ?_
          refine AllReadyH.cons rfl (fun K hK => ?_) AllReadyH.nil
          go_simp
          refine hK.out _ _ ⟨cell_up HD5.out (HV6.out).1.below, cell_up (HCS.out n _ HE1.out) (HV6.out).1.below⟩ (fun hHeld => ?_)
          clear hK K
          (try simp only [List.getElem_toArray, List.getElem_cons_zero, List.getElem_cons_succ, Act.put, List.setIfInBounds_toArray, List.set_cons_zero, List.set_cons_succ])
          refine wpAnyH_ready (rs := [14]) (by kernel_rfl) (by simp) ?_
          refine AllReadyH.cons rfl (fun K hK => ?_) AllReadyH.nil
          (refine appd_step rfl _ _ 46 rfl w.heap.size 45 j0 (.pointer none) 8 dls_u HJ.out hy0 hy1 hy2 rfl hdr n vals rfl (by have h7 := HV6.out.i (t := ownT w.heap.size 45 hdr vals) (by simp); have h8 : World.ownsRow _ _ _ _ hdr vals.length vals := h7; rw [LV.out] at h8; exact h8) (.pointer (some pv)) w5.heap.size rfl (cell_one_new _ _ _) rfl (by unfold maxLen; omega) (by omega) (by have h9 := HV6.out.1.size; exact h9) ?_; intro g7 cap7 w7 own7 grow7 hat7; have HV7 := Lib.hid (Hold.app (fs := [dkB w.heap.size c hdr]) HV6.out (by rw [LV.out]; exact own7) grow7 hat7); have x7 := box_cell (HV7.out.i (t := dkB w.heap.size c hdr) (by simp)) (i := 5) rfl; have z7 : w7.frozen? ⟨w.heap.size, 5, none⟩ = false := frozen_of_row w7 w.heap.size 5 _ _ (HV7.out.i (t := dkB w.heap.size c hdr) (by simp)))
          refine hK.out _ _ ⟨cell_up HD5.out (HV7.out).1.below, cell_up (HCS.out n _ HE1.out) (HV7.out).1.below⟩ (fun hHeld => ?_)
          clear hK K
          (try simp only [List.getElem_toArray, List.getElem_cons_zero, List.getElem_cons_succ, Act.put, List.setIfInBounds_toArray, List.set_cons_zero, List.set_cons_succ])
          refine wpAnyH_take (i := 15) (v := ?_) rfl (by kernel_rfl) (by kernel_rfl) (by kernel_rfl) (fun _ _ _ h => h) (Or.inl ⟨by rfl, ?_⟩) hHeld ?_
          rotate_left
          · intro w hSw
            (try dsimp only at hSw)
            go_simp
            (try with_reducible rfl)
          (try simp only [List.getElem_toArray, List.getElem_cons_zero, List.getElem_cons_succ, Act.put, List.setIfInBounds_toArray, List.set_cons_zero, List.set_cons_succ])
          refine wpAnyH_take (i := 16) (v := ?_) rfl (by kernel_rfl) (by kernel_rfl) (by kernel_rfl) (fun _ _ _ h => h) (Or.inl ⟨by rfl, ?_⟩) hHeld ?_
          rotate_left
          · intro w hSw
            (try dsimp only at hSw)
            go_simp
            (try with_reducible rfl)
          (try simp only [List.getElem_toArray, List.getElem_cons_zero, List.getElem_cons_succ, Act.put, List.setIfInBounds_toArray, List.set_cons_zero, List.set_cons_succ])
          refine wpAnyH_ready (rs := [17]) (by kernel_rfl) (by simp) ?_
          refine AllReadyH.cons rfl (fun K hK => ?_) AllReadyH.nil
          go_simp
          refine hK.out _ _ ⟨cell_up HD5.out (Hold.store (fs := []) HV7.out _).1.below, cell_up (HCS.out n _ HE1.out) (Hold.store (fs := []) HV7.out _).1.below⟩ (fun hHeld => ?_)
          clear hK K
          (try simp only [List.getElem_toArray, List.getElem_cons_zero, List.getElem_cons_succ, Act.put, List.setIfInBounds_toArray, List.set_cons_zero, List.set_cons_succ])
          refine wpAnyH_done (by kernel_rfl) ?_ _
          go_wp2
          go_roundw
          all_goals first
            | (simp [intOf]; omega)
            | (refine ⟨n + 1, .slice (some ⟨g7, 0, none⟩) (n + 1) cap7, vals ++ [.pointer (some pv)], ts ++ [dlT (.pointer (some pv)) Q5 c n st], by omega, by go_num, ?_, ?_⟩
               · have h9 := HROW.out.snoc HTL.out (.pointer (some pv)) Q5 st
                 rw [← take_next HST.out] at h9
                 exact h9
               · have h9 := Hold.store (fs := []) HV7.out (.slice (some ⟨g7, 0, none⟩) (vals.length + 1) cap7)
                 rw [LV.out] at h9
                 exact h9)
        · go_simp
          refine hK.out _ _ ⟨cell_up HD5.out (HV6.out).1.below, cell_up (HCS.out n _ HE1.out) (HV6.out).1.below⟩ (fun hHeld => ?_)
          clear hK K
          (try simp only [List.getElem_toArray, List.getElem_cons_zero, List.getElem_cons_succ, Act.put, List.setIfInBounds_toArray, List.set_cons_zero, List.set_cons_succ])
          refine wpAnyH_ready (rs := [4]) (by kernel_rfl) (by simp) ?_
          refine AllReadyH.cons rfl (fun K hK => ?_) AllReadyH.nil
          go_simp
          refine hK.out _ _ hHeld (fun hHeld => ?_)
          clear hK K
          (try simp only [List.getElem_toArray, List.getElem_cons_zero, List.getElem_cons_succ, Act.put, List.setIfInBounds_toArray, List.set_cons_zero, List.set_cons_succ])
          refine wpAnyH_ready (rs := [14]) (by kernel_rfl) (by simp) ?_
          refine AllReadyH.cons rfl (fun K hK => ?_) AllReadyH.nil
          (refine appd_step rfl _ _ 46 rfl w.heap.size 45 j0 (.pointer none) 8 dls_u HJ.out hy0 hy1 hy2 rfl hdr n vals rfl (by have h7 := HV6.out.i (t := ownT w.heap.size 45 hdr vals) (by simp); have h8 : World.ownsRow _ _ _ _ hdr vals.length vals := h7; rw [LV.out] at h8; exact h8) (.pointer (some pv)) w5.heap.size rfl (cell_one_new _ _ _) rfl (by unfold maxLen; omega) (by omega) (by have h9 := HV6.out.1.size; exact h9) ?_; intro g7 cap7 w7 own7 grow7 hat7; have HV7 := Lib.hid (Hold.app (fs := [dkB w.heap.size c hdr]) HV6.out (by rw [LV.out]; exact own7) grow7 hat7); have x7 := box_cell (HV7.out.i (t := dkB w.heap.size c hdr) (by simp)) (i := 5) rfl; have z7 : w7.frozen? ⟨w.heap.size, 5, none⟩ = false := frozen_of_row w7 w.heap.size 5 _ _ (HV7.out.i (t := dkB w.heap.size c hdr) (by simp)))
          refine hK.out _ _ ⟨cell_up HD5.out (HV7.out).1.below, cell_up (HCS.out n _ HE1.out) (HV7.out).1.below⟩ (fun hHeld => ?_)
          clear hK K
          (try simp only [List.getElem_toArray, List.getElem_cons_zero, List.getElem_cons_succ, Act.put, List.setIfInBounds_toArray, List.set_cons_zero, List.set_cons_succ])
          refine wpAnyH_take (i := 15) (v := ?_) rfl (by kernel_rfl) (by kernel_rfl) (by kernel_rfl) (fun _ _ _ h => h) (Or.inl ⟨by rfl, ?_⟩) hHeld ?_
          rotate_left
          · intro w hSw
            (try dsimp only at hSw)
            go_simp
            (try with_reducible rfl)
          (try simp only [List.getElem_toArray, List.getElem_cons_zero, List.getElem_cons_succ, Act.put, List.setIfInBounds_toArray, List.set_cons_zero, List.set_cons_succ])
          refine wpAnyH_take (i := 16) (v := ?_) rfl (by kernel_rfl) (by kernel_rfl) (by kernel_rfl) (fun _ _ _ h => h) (Or.inl ⟨by rfl, ?_⟩) hHeld ?_
          rotate_left
          · intro w hSw
            (try dsimp only at hSw)
            go_simp
            (try with_reducible rfl)
          (try simp only [List.getElem_toArray, List.getElem_cons_zero, List.getElem_cons_succ, Act.put, List.setIfInBounds_toArray, List.set_cons_zero, List.set_cons_succ])
          refine wpAnyH_ready (rs := [17]) (by kernel_rfl) (by simp) ?_
          refine AllReadyH.cons rfl (fun K hK => ?_) AllReadyH.nil
          go_simp
          refine hK.out _ _ ⟨cell_up HD5.out (Hold.store (fs := []) HV7.out _).1.below, cell_up (HCS.out n _ HE1.out) (Hold.store (fs := []) HV7.out _).1.below⟩ (fun hHeld => ?_)
          clear hK K
          (try simp only [List.getElem_toArray, List.getElem_cons_zero, List.getElem_cons_succ, Act.put, List.setIfInBounds_toArray, List.set_cons_zero, List.set_cons_succ])
          refine wpAnyH_done (by kernel_rfl) ?_ _
          go_wp2
          go_roundw
          all_goals first
            | (simp [intOf]; omega)
            | (refine ⟨n + 1, .slice (some ⟨g7, 0, none⟩) (n + 1) cap7, vals ++ [.pointer (some pv)], ts ++ [dlT (.pointer (some pv)) Q5 c n st], by omega, by go_num, ?_, ?_⟩
               · have h9 := HROW.out.snoc HTL.out (.pointer (some pv)) Q5 st
                 rw [← take_next HST.out] at h9
                 exact h9
               · have h9 := Hold.store (fs := []) HV7.out (.slice (some ⟨g7, 0, none⟩) (vals.length + 1) cap7)
                 rw [LV.out] at h9
                 exact h9)
    · obtain rfl : n = N := by omega
      go_wp2
      go_ret
      have e9 : sts.take n = sts := List.take_of_length_le (by rw [HLS.out]; exact Nat.le_refl _)
      have h9 := HROW.out
      rw [e9] at h9
      obtain ⟨s1, s2, s3⟩ := dk_of HR.out HO.out HL.out h9 HV.out
      exact ⟨_, _, rfl, s1, fun k hk => (s3 k hk).elim (fun h => h.elim) id, s2.below⟩
end Go.Proofs.YtccabgeeglhagaaGreat.Stk
/- The document's New of a stack. Printed by wip/gen/stk16.py. -/
namespace Go.Proofs.YtccabgeeglhagaaGreat.Stk
open Go Go.RowKit Lw Grd Lin Con Shp Sk Exa Lev
set_option linter.unusedVariables false
set_option linter.unusedSimpArgs false
set_option maxRecDepth 100000 in
set_option maxHeartbeats 4000000 in
theorem dk_new (c : Cfg) (w : World) (h : c.Ok) (hr : IsRight c) :
    Calls Tryz.prog 7 #[.agg #[.int .i64 c.bt, .int .i64 c.rw, .int .i64 c.wd, .int .i64 c.md, .int .u64 c.sd]] w fun e w' => ∃ (p : Addr) (F : Nat → Prop), e = .returned (.pointer (some p)) ∧ DK w' p F c (stsOf c []) ∧ (∀ k, F k → w.heap.size ≤ k) ∧ Below w.heap.size w w' := by
  have HO := Lib.hid h
  have HR := Lib.hid hr
  have hb1 := hr.1
  have hb2 := hr.2.1
  obtain ⟨j0, hj, hy0, hy1, hy2⟩ := info_parts dls_info
  have HJ := Lib.hid hj
  have HB1 := Lib.hid ((Hold.start0 (Below.refl _ w)).push (cfD w.heap.size c) (Lw.below_alloc (Below.refl _ _) _) (heap_alloc_new w _) (fun k hk => Nat.le_of_eq hk.symm))
  have N2 : ((w.alloc (.cells #[.int .i64 c.bt, .int .i64 c.rw, .int .i64 c.wd, .int .i64 c.md, .int .u64 c.sd] 24)).alloc (.cells #[.int .i64 c.bt, .int .i64 c.rw, .int .i64 c.wd, .int .i64 c.md, .int .u64 c.sd, .slice none 0 0] 48)).heap[w.heap.size + 1]? = some (.cells #[.int .i64 c.bt, .int .i64 c.rw, .int .i64 c.wd, .int .i64 c.md, .int .u64 c.sd, .slice none 0 0] 48 (0, 0)) := by
    have := heap_alloc_new (w.alloc (.cells #[.int .i64 c.bt, .int .i64 c.rw, .int .i64 c.wd, .int .i64 c.md, .int .u64 c.sd] 24)) (.cells #[.int .i64 c.bt, .int .i64 c.rw, .int .i64 c.wd, .int .i64 c.md, .int .u64 c.sd, .slice none 0 0] 48)
    rw [World.size_alloc] at this
    exact this
  have HS := Lib.hid ((HB1.out.push (ownT w.heap.size 45 (.slice none 0 0) []) (Below.refl _ _) (ownD_nil _ _ _) (fun k hk => ownD_nilF _ _ hk)).push (dkB (w.heap.size + 1) c (.slice none 0 0)) (Lw.below_alloc (Below.refl _ _) _) N2 (fun k hk => Nat.le_of_eq (by simp; exact hk.symm)))
  clear h hr hj N2
  go_enter Tryz.func7, Tryz.ntmps7
  go_wp2
  go_loopw [4] (fun i wr => ∃ (n : Nat) (hdr : Value) (vals : List Value) (ts : List Thing) (sts : List LS), (n : Int) ≤ c.bt + 1 ∧ i = .int .i64 n ∧ LRow dlT c vals ts sts ∧ sts.length = n ∧ (∀ j, j < n → sts[j]? = some (lsZero c j)) ∧ Hold (fun _ => False) w wr (dkB (w.heap.size + 1) c hdr :: ownT w.heap.size 45 hdr vals :: cfD w.heap.size c :: ts)) (fun i _ => (c.bt + 1).toNat - (intOf i).toNat)
  case atStart => exact ⟨0, .slice none 0 0, [], [], [], by omega, rfl, LRow.nil _ _, rfl, fun j hj => by omega, HS.out⟩
  case round =>
    obtain ⟨n, hdr, vals, ts, sts, hn, rfl, hrow, hsl, hsj, hv⟩ := hrel
    have HROW := Lib.hid hrow
    have HSL := Lib.hid hsl
    have HSJ := Lib.hid hsj
    have HV := Lib.hid hv
    have LV := Lib.hid (hrow.lv.trans hsl)
    have g0 := box_cell (hv.i (t := cfD w.heap.size c) (by simp)) (i := 0) rfl
    have g1 := box_cell (hv.i (t := cfD w.heap.size c) (by simp)) (i := 1) rfl
    have g2 := box_cell (hv.i (t := cfD w.heap.size c) (by simp)) (i := 2) rfl
    have g3 := box_cell (hv.i (t := cfD w.heap.size c) (by simp)) (i := 3) rfl
    have g4 := box_cell (hv.i (t := cfD w.heap.size c) (by simp)) (i := 4) rfl
    have x1 := box_cell (hv.i (t := dkB (w.heap.size + 1) c hdr) (by simp)) (i := 5) rfl
    clear hrow hsl hsj hv
    by_cases hlt : (n : Int) ≤ c.bt
    · go_wp2
      refine wp_region_held_drew (S := (fun w' => w'.cell? ⟨w.heap.size, 0, none⟩ = some (.int .i64 c.bt) ∧ w'.cell? ⟨w.heap.size, 1, none⟩ = some (.int .i64 c.rw) ∧ w'.cell? ⟨w.heap.size, 2, none⟩ = some (.int .i64 c.wd) ∧ w'.cell? ⟨w.heap.size, 3, none⟩ = some (.int .i64 c.md) ∧ w'.cell? ⟨w.heap.size, 4, none⟩ = some (.int .u64 c.sd))) (by kernel_rfl) (cfd_all ((HV.out.up (Below.drew (Below.refl _ wr))).i (t := cfD w.heap.size c) (by simp))) (fun hHeld => ?_)
      refine wpAnyH_take (i := 0) (v := ?_) rfl (by kernel_rfl) (by kernel_rfl) (by kernel_rfl) (fun _ _ _ h => h) (Or.inl ⟨by rfl, ?_⟩) hHeld ?_
      rotate_left
      · intro w hSw
        (try dsimp only at hSw)
        go_simp
        (try with_reducible rfl)
      (try simp only [List.getElem_toArray, List.getElem_cons_zero, List.getElem_cons_succ, Act.put, List.setIfInBounds_toArray, List.set_cons_zero, List.set_cons_succ])
      refine wpAnyH_take (i := 1) (v := ?_) rfl (by kernel_rfl) (by kernel_rfl) (by kernel_rfl) (fun _ _ _ h => h) (Or.inl ⟨by rfl, ?_⟩) hHeld ?_
      rotate_left
      · intro w hSw
        (try dsimp only at hSw)
        go_simp
        (try with_reducible rfl)
      (try simp only [List.getElem_toArray, List.getElem_cons_zero, List.getElem_cons_succ, Act.put, List.setIfInBounds_toArray, List.set_cons_zero, List.set_cons_succ])
      refine wpAnyH_take (i := 2) (v := ?_) rfl (by kernel_rfl) (by kernel_rfl) (by kernel_rfl) (fun _ _ _ h => h) (Or.inl ⟨by rfl, ?_⟩) hHeld ?_
      rotate_left
      · intro w hSw
        (try dsimp only at hSw)
        go_simp
        (try with_reducible rfl)
      (try simp only [List.getElem_toArray, List.getElem_cons_zero, List.getElem_cons_succ, Act.put, List.setIfInBounds_toArray, List.set_cons_zero, List.set_cons_succ])
      refine wpAnyH_take (i := 3) (v := ?_) rfl (by kernel_rfl) (by kernel_rfl) (by kernel_rfl) (fun _ _ _ h => h) (Or.inl ⟨by rfl, ?_⟩) hHeld ?_
      rotate_left
      · intro w hSw
        (try dsimp only at hSw)
        go_simp
        (try with_reducible rfl)
      (try simp only [List.getElem_toArray, List.getElem_cons_zero, List.getElem_cons_succ, Act.put, List.setIfInBounds_toArray, List.set_cons_zero, List.set_cons_succ])
      refine wpAnyH_take (i := 5) (v := ?_) rfl (by kernel_rfl) (by kernel_rfl) (by kernel_rfl) (fun _ _ _ h => h) (Or.inl ⟨by rfl, ?_⟩) hHeld ?_
      rotate_left
      · intro w hSw
        (try dsimp only at hSw)
        go_simp
        (try with_reducible rfl)
      (try simp only [List.getElem_toArray, List.getElem_cons_zero, List.getElem_cons_succ, Act.put, List.setIfInBounds_toArray, List.set_cons_zero, List.set_cons_succ])
      refine wpAnyH_take (i := 6) (v := ?_) rfl (by kernel_rfl) (by kernel_rfl) (by kernel_rfl) (fun _ _ _ h => h) (Or.inl ⟨by rfl, ?_⟩) hHeld ?_
      rotate_left
      · intro w hSw
        (try dsimp only at hSw)
        go_simp
        (try with_reducible rfl)
      (try simp only [List.getElem_toArray, List.getElem_cons_zero, List.getElem_cons_succ, Act.put, List.setIfInBounds_toArray, List.set_cons_zero, List.set_cons_succ])
      refine wpAnyH_ready (rs := [4, 7]) (by kernel_rfl) (by simp) ?_
      refine AllReadyH.cons rfl (fun K hK => ?_) (AllReadyH.cons rfl (fun K hK => ?_) AllReadyH.nil)
      · go_simp
        refine hK.out _ _ hHeld (fun hHeld => ?_)
        clear hK K
        (try simp only [List.getElem_toArray, List.getElem_cons_zero, List.getElem_cons_succ, Act.put, List.setIfInBounds_toArray, List.set_cons_zero, List.set_cons_succ])
        refine wpAnyH_ready (rs := [7]) (by kernel_rfl) (by simp) ?_
        refine AllReadyH.cons rfl (fun K hK => ?_) AllReadyH.nil
        go_simp
        (go_at_call 26; (with_reducible refine (dv_new c n _ HO.out HR.out (by omega) hlt).mono ?_); rintro e w5 ⟨pv, Q5, rfl, hE5, hQ5, hb5⟩; have HV5 := Lib.hid (Hold.snoc (HV.out.up (Below.drew (Below.refl _ wr))) (dlT (.pointer (some pv)) Q5 c n (lsZero c n)) hb5 ⟨pv, rfl, hE5⟩ hQ5); have BW5 : Below wr.heap.size wr w5 := (Below.drew (Below.refl _ wr)).trans hb5; clear hE5 hQ5 hb5; have x5 := box_cell (HV5.out.i (t := dkB (w.heap.size + 1) c hdr) (by simp)) (i := 5) rfl; have HV6 := Lib.hid (HV5.out.up (Lw.below_alloc (Below.refl _ w5) (.cells #[.pointer (some pv)] 45))); have x6 := box_cell (HV6.out.i (t := dkB (w.heap.size + 1) c hdr) (by simp)) (i := 5) rfl)
        refine hK.out _ _ (cfd_all ((HV5.out).i (t := cfD w.heap.size c) (by simp))) (fun hHeld => ?_)
        clear hK K
        (try simp only [List.getElem_toArray, List.getElem_cons_zero, List.getElem_cons_succ, Act.put, List.setIfInBounds_toArray, List.set_cons_zero, List.set_cons_succ])
        refine wpAnyH_ready (rs := [8]) (by kernel_rfl) (by simp) ?_
        refine AllReadyH.cons rfl (fun K hK => ?_) AllReadyH.nil
        go_simp
        refine hK.out _ _ (cfd_all ((HV6.out).i (t := cfD w.heap.size c) (by simp))) (fun hHeld => ?_)
        clear hK K
        (try simp only [List.getElem_toArray, List.getElem_cons_zero, List.getElem_cons_succ, Act.put, List.setIfInBounds_toArray, List.set_cons_zero, List.set_cons_succ])
        refine wpAnyH_ready (rs := [9]) (by kernel_rfl) (by simp) ?_
        refine AllReadyH.cons rfl (fun K hK => ?_) AllReadyH.nil
        (refine appd_step rfl _ _ 46 rfl w.heap.size 45 j0 (.pointer none) 8 dls_u HJ.out hy0 hy1 hy2 rfl hdr n vals rfl (by have h7 := HV6.out.i (t := ownT w.heap.size 45 hdr vals) (by simp); have h8 : World.ownsRow _ _ _ _ hdr vals.length vals := h7; rw [LV.out] at h8; exact h8) (.pointer (some pv)) w5.heap.size rfl (cell_one_new _ _ _) rfl (by unfold maxLen; omega) (by omega) (by have h9 := HV6.out.1.size; exact h9) ?_; intro g7 cap7 w7 own7 grow7 hat7; have HV7 := Lib.hid (Hold.app (fs := [dkB (w.heap.size + 1) c hdr]) HV6.out (by rw [LV.out]; exact own7) grow7 hat7); have x7 := box_cell (HV7.out.i (t := dkB (w.heap.size + 1) c hdr) (by simp)) (i := 5) rfl; have z7 : w7.frozen? ⟨w.heap.size + 1, 5, none⟩ = false := frozen_of_row w7 (w.heap.size + 1) 5 _ _ (HV7.out.i (t := dkB (w.heap.size + 1) c hdr) (by simp)))
        refine hK.out _ _ (cfd_all ((HV7.out).i (t := cfD w.heap.size c) (by simp))) (fun hHeld => ?_)
        clear hK K
        (try simp only [List.getElem_toArray, List.getElem_cons_zero, List.getElem_cons_succ, Act.put, List.setIfInBounds_toArray, List.set_cons_zero, List.set_cons_succ])
        refine wpAnyH_take (i := 10) (v := ?_) rfl (by kernel_rfl) (by kernel_rfl) (by kernel_rfl) (fun _ _ _ h => h) (Or.inl ⟨by rfl, ?_⟩) hHeld ?_
        rotate_left
        · intro w hSw
          (try dsimp only at hSw)
          go_simp
          (try with_reducible rfl)
        (try simp only [List.getElem_toArray, List.getElem_cons_zero, List.getElem_cons_succ, Act.put, List.setIfInBounds_toArray, List.set_cons_zero, List.set_cons_succ])
        refine wpAnyH_take (i := 11) (v := ?_) rfl (by kernel_rfl) (by kernel_rfl) (by kernel_rfl) (fun _ _ _ h => h) (Or.inl ⟨by rfl, ?_⟩) hHeld ?_
        rotate_left
        · intro w hSw
          (try dsimp only at hSw)
          go_simp
          (try with_reducible rfl)
        (try simp only [List.getElem_toArray, List.getElem_cons_zero, List.getElem_cons_succ, Act.put, List.setIfInBounds_toArray, List.set_cons_zero, List.set_cons_succ])
        refine wpAnyH_ready (rs := [12]) (by kernel_rfl) (by simp) ?_
        refine AllReadyH.cons rfl (fun K hK => ?_) AllReadyH.nil
        go_simp
        refine hK.out _ _ (cfd_all ((Hold.store (fs := []) HV7.out _).i (t := cfD w.heap.size c) (by simp))) (fun hHeld => ?_)
        clear hK K
        (try simp only [List.getElem_toArray, List.getElem_cons_zero, List.getElem_cons_succ, Act.put, List.setIfInBounds_toArray, List.set_cons_zero, List.set_cons_succ])
        refine wpAnyH_done (by kernel_rfl) ?_ _
        go_wp2
        go_roundw
        all_goals first
          | (simp [intOf]; omega)
          | (refine ⟨n + 1, .slice (some ⟨g7, 0, none⟩) (n + 1) cap7, vals ++ [.pointer (some pv)], ts ++ [dlT (.pointer (some pv)) Q5 c n (lsZero c n)], sts ++ [lsZero c n], by omega, by go_num, HROW.out.snoc HSL.out _ Q5 _, by simp [HSL.out], fun j hj => new_row HSL.out HSJ.out hj, ?_⟩
             have h9 := Hold.store (fs := []) HV7.out (.slice (some ⟨g7, 0, none⟩) (vals.length + 1) cap7)
             rw [LV.out] at h9
             exact h9)
      · go_simp
        (go_at_call 26; (with_reducible refine (dv_new c n _ HO.out HR.out (by omega) hlt).mono ?_); rintro e w5 ⟨pv, Q5, rfl, hE5, hQ5, hb5⟩; have HV5 := Lib.hid (Hold.snoc (HV.out.up (Below.drew (Below.refl _ wr))) (dlT (.pointer (some pv)) Q5 c n (lsZero c n)) hb5 ⟨pv, rfl, hE5⟩ hQ5); have BW5 : Below wr.heap.size wr w5 := (Below.drew (Below.refl _ wr)).trans hb5; clear hE5 hQ5 hb5; have x5 := box_cell (HV5.out.i (t := dkB (w.heap.size + 1) c hdr) (by simp)) (i := 5) rfl; have HV6 := Lib.hid (HV5.out.up (Lw.below_alloc (Below.refl _ w5) (.cells #[.pointer (some pv)] 45))); have x6 := box_cell (HV6.out.i (t := dkB (w.heap.size + 1) c hdr) (by simp)) (i := 5) rfl)
        refine hK.out _ _ (cfd_all ((HV5.out).i (t := cfD w.heap.size c) (by simp))) (fun hHeld => ?_)
        clear hK K
        (try simp only [List.getElem_toArray, List.getElem_cons_zero, List.getElem_cons_succ, Act.put, List.setIfInBounds_toArray, List.set_cons_zero, List.set_cons_succ])
        refine wpAnyH_ready (rs := [4, 8]) (by kernel_rfl) (by simp) ?_
        refine AllReadyH.cons rfl (fun K hK => ?_) (AllReadyH.cons rfl (fun K hK => ?_) AllReadyH.nil)
        · go_simp
          refine hK.out _ _ hHeld (fun hHeld => ?_)
          clear hK K
          (try simp only [List.getElem_toArray, List.getElem_cons_zero, List.getElem_cons_succ, Act.put, List.setIfInBounds_toArray, List.set_cons_zero, List.set_cons_succ])
          refine wpAnyH_ready (rs := [8]) (by kernel_rfl) (by simp) ?_
          refine AllReadyH.cons rfl (fun K hK => ?_) AllReadyH.nil
          go_simp
          refine hK.out _ _ (cfd_all ((HV6.out).i (t := cfD w.heap.size c) (by simp))) (fun hHeld => ?_)
          clear hK K
          (try simp only [List.getElem_toArray, List.getElem_cons_zero, List.getElem_cons_succ, Act.put, List.setIfInBounds_toArray, List.set_cons_zero, List.set_cons_succ])
          refine wpAnyH_ready (rs := [9]) (by kernel_rfl) (by simp) ?_
          refine AllReadyH.cons rfl (fun K hK => ?_) AllReadyH.nil
          (refine appd_step rfl _ _ 46 rfl w.heap.size 45 j0 (.pointer none) 8 dls_u HJ.out hy0 hy1 hy2 rfl hdr n vals rfl (by have h7 := HV6.out.i (t := ownT w.heap.size 45 hdr vals) (by simp); have h8 : World.ownsRow _ _ _ _ hdr vals.length vals := h7; rw [LV.out] at h8; exact h8) (.pointer (some pv)) w5.heap.size rfl (cell_one_new _ _ _) rfl (by unfold maxLen; omega) (by omega) (by have h9 := HV6.out.1.size; exact h9) ?_; intro g7 cap7 w7 own7 grow7 hat7; have HV7 := Lib.hid (Hold.app (fs := [dkB (w.heap.size + 1) c hdr]) HV6.out (by rw [LV.out]; exact own7) grow7 hat7); have x7 := box_cell (HV7.out.i (t := dkB (w.heap.size + 1) c hdr) (by simp)) (i := 5) rfl; have z7 : w7.frozen? ⟨w.heap.size + 1, 5, none⟩ = false := frozen_of_row w7 (w.heap.size + 1) 5 _ _ (HV7.out.i (t := dkB (w.heap.size + 1) c hdr) (by simp)))
          refine hK.out _ _ (cfd_all ((HV7.out).i (t := cfD w.heap.size c) (by simp))) (fun hHeld => ?_)
          clear hK K
          (try simp only [List.getElem_toArray, List.getElem_cons_zero, List.getElem_cons_succ, Act.put, List.setIfInBounds_toArray, List.set_cons_zero, List.set_cons_succ])
          refine wpAnyH_take (i := 10) (v := ?_) rfl (by kernel_rfl) (by kernel_rfl) (by kernel_rfl) (fun _ _ _ h => h) (Or.inl ⟨by rfl, ?_⟩) hHeld ?_
          rotate_left
          · intro w hSw
            (try dsimp only at hSw)
            go_simp
            (try with_reducible rfl)
          (try simp only [List.getElem_toArray, List.getElem_cons_zero, List.getElem_cons_succ, Act.put, List.setIfInBounds_toArray, List.set_cons_zero, List.set_cons_succ])
          refine wpAnyH_take (i := 11) (v := ?_) rfl (by kernel_rfl) (by kernel_rfl) (by kernel_rfl) (fun _ _ _ h => h) (Or.inl ⟨by rfl, ?_⟩) hHeld ?_
          rotate_left
          · intro w hSw
            (try dsimp only at hSw)
            go_simp
            (try with_reducible rfl)
          (try simp only [List.getElem_toArray, List.getElem_cons_zero, List.getElem_cons_succ, Act.put, List.setIfInBounds_toArray, List.set_cons_zero, List.set_cons_succ])
          refine wpAnyH_ready (rs := [12]) (by kernel_rfl) (by simp) ?_
          refine AllReadyH.cons rfl (fun K hK => ?_) AllReadyH.nil
          go_simp
          refine hK.out _ _ (cfd_all ((Hold.store (fs := []) HV7.out _).i (t := cfD w.heap.size c) (by simp))) (fun hHeld => ?_)
          clear hK K
          (try simp only [List.getElem_toArray, List.getElem_cons_zero, List.getElem_cons_succ, Act.put, List.setIfInBounds_toArray, List.set_cons_zero, List.set_cons_succ])
          refine wpAnyH_done (by kernel_rfl) ?_ _
          go_wp2
          go_roundw
          all_goals first
            | (simp [intOf]; omega)
            | (refine ⟨n + 1, .slice (some ⟨g7, 0, none⟩) (n + 1) cap7, vals ++ [.pointer (some pv)], ts ++ [dlT (.pointer (some pv)) Q5 c n (lsZero c n)], sts ++ [lsZero c n], by omega, by go_num, HROW.out.snoc HSL.out _ Q5 _, by simp [HSL.out], fun j hj => new_row HSL.out HSJ.out hj, ?_⟩
               have h9 := Hold.store (fs := []) HV7.out (.slice (some ⟨g7, 0, none⟩) (vals.length + 1) cap7)
               rw [LV.out] at h9
               exact h9)
        · go_simp
          refine hK.out _ _ (cfd_all ((HV6.out).i (t := cfD w.heap.size c) (by simp))) (fun hHeld => ?_)
          clear hK K
          (try simp only [List.getElem_toArray, List.getElem_cons_zero, List.getElem_cons_succ, Act.put, List.setIfInBounds_toArray, List.set_cons_zero, List.set_cons_succ])
          refine wpAnyH_ready (rs := [4]) (by kernel_rfl) (by simp) ?_
          refine AllReadyH.cons rfl (fun K hK => ?_) AllReadyH.nil
          go_simp
          refine hK.out _ _ hHeld (fun hHeld => ?_)
          clear hK K
          (try simp only [List.getElem_toArray, List.getElem_cons_zero, List.getElem_cons_succ, Act.put, List.setIfInBounds_toArray, List.set_cons_zero, List.set_cons_succ])
          refine wpAnyH_ready (rs := [9]) (by kernel_rfl) (by simp) ?_
          refine AllReadyH.cons rfl (fun K hK => ?_) AllReadyH.nil
          (refine appd_step rfl _ _ 46 rfl w.heap.size 45 j0 (.pointer none) 8 dls_u HJ.out hy0 hy1 hy2 rfl hdr n vals rfl (by have h7 := HV6.out.i (t := ownT w.heap.size 45 hdr vals) (by simp); have h8 : World.ownsRow _ _ _ _ hdr vals.length vals := h7; rw [LV.out] at h8; exact h8) (.pointer (some pv)) w5.heap.size rfl (cell_one_new _ _ _) rfl (by unfold maxLen; omega) (by omega) (by have h9 := HV6.out.1.size; exact h9) ?_; intro g7 cap7 w7 own7 grow7 hat7; have HV7 := Lib.hid (Hold.app (fs := [dkB (w.heap.size + 1) c hdr]) HV6.out (by rw [LV.out]; exact own7) grow7 hat7); have x7 := box_cell (HV7.out.i (t := dkB (w.heap.size + 1) c hdr) (by simp)) (i := 5) rfl; have z7 : w7.frozen? ⟨w.heap.size + 1, 5, none⟩ = false := frozen_of_row w7 (w.heap.size + 1) 5 _ _ (HV7.out.i (t := dkB (w.heap.size + 1) c hdr) (by simp)))
          refine hK.out _ _ (cfd_all ((HV7.out).i (t := cfD w.heap.size c) (by simp))) (fun hHeld => ?_)
          clear hK K
          (try simp only [List.getElem_toArray, List.getElem_cons_zero, List.getElem_cons_succ, Act.put, List.setIfInBounds_toArray, List.set_cons_zero, List.set_cons_succ])
          refine wpAnyH_take (i := 10) (v := ?_) rfl (by kernel_rfl) (by kernel_rfl) (by kernel_rfl) (fun _ _ _ h => h) (Or.inl ⟨by rfl, ?_⟩) hHeld ?_
          rotate_left
          · intro w hSw
            (try dsimp only at hSw)
            go_simp
            (try with_reducible rfl)
          (try simp only [List.getElem_toArray, List.getElem_cons_zero, List.getElem_cons_succ, Act.put, List.setIfInBounds_toArray, List.set_cons_zero, List.set_cons_succ])
          refine wpAnyH_take (i := 11) (v := ?_) rfl (by kernel_rfl) (by kernel_rfl) (by kernel_rfl) (fun _ _ _ h => h) (Or.inl ⟨by rfl, ?_⟩) hHeld ?_
          rotate_left
          · intro w hSw
            (try dsimp only at hSw)
            go_simp
            (try with_reducible rfl)
          (try simp only [List.getElem_toArray, List.getElem_cons_zero, List.getElem_cons_succ, Act.put, List.setIfInBounds_toArray, List.set_cons_zero, List.set_cons_succ])
          refine wpAnyH_ready (rs := [12]) (by kernel_rfl) (by simp) ?_
          refine AllReadyH.cons rfl (fun K hK => ?_) AllReadyH.nil
          go_simp
          refine hK.out _ _ (cfd_all ((Hold.store (fs := []) HV7.out _).i (t := cfD w.heap.size c) (by simp))) (fun hHeld => ?_)
          clear hK K
          (try simp only [List.getElem_toArray, List.getElem_cons_zero, List.getElem_cons_succ, Act.put, List.setIfInBounds_toArray, List.set_cons_zero, List.set_cons_succ])
          refine wpAnyH_done (by kernel_rfl) ?_ _
          go_wp2
          go_roundw
          all_goals first
            | (simp [intOf]; omega)
            | (refine ⟨n + 1, .slice (some ⟨g7, 0, none⟩) (n + 1) cap7, vals ++ [.pointer (some pv)], ts ++ [dlT (.pointer (some pv)) Q5 c n (lsZero c n)], sts ++ [lsZero c n], by omega, by go_num, HROW.out.snoc HSL.out _ Q5 _, by simp [HSL.out], fun j hj => new_row HSL.out HSJ.out hj, ?_⟩
               have h9 := Hold.store (fs := []) HV7.out (.slice (some ⟨g7, 0, none⟩) (vals.length + 1) cap7)
               rw [LV.out] at h9
               exact h9)
    · go_wp2
      go_ret
      have he : n = c.bt.toNat + 1 := by omega
      subst he
      obtain ⟨s1, s2, s3⟩ := dk_of HR.out HO.out HSL.out HROW.out (Hold.sub HV.out (.cons_cons _ (.cons_cons _ (.cons _ (List.Sublist.refl _)))))
      have e9 : sts = stsOf c [] := List.ext_getElem? (fun j => by
        by_cases hj : j < c.bt.toNat + 1
        · rw [HSJ.out j hj, stsOf_get hj, stOf_nil]
        · rw [List.getElem?_eq_none (by rw [HSL.out]; omega), List.getElem?_eq_none (by rw [stsOf_len]; omega)])
      rw [e9] at s1
      exact ⟨_, rfl, _, s1, fun k hk => (s3 k hk).elim (fun h => h.elim) id, s2.below⟩
end Go.Proofs.YtccabgeeglhagaaGreat.Stk
/- The code's stack as a thing. Printed by wip/gen/stk.py. -/
namespace Go.Proofs.YtccabgeeglhagaaGreat.Stk
open Go Go.RowKit Lw Grd Lin Con Shp Sk Exa Lev
set_option linter.unusedVariables false
set_option linter.unusedSimpArgs false
/-- A stack of the code at p, in the blocks F. -/
def ST (w : World) (p : Addr) (F : Nat → Prop) (c : Cfg) (sts : List LS) : Prop :=
  IsRight c ∧ c.Ok ∧ sts.length = c.bt.toNat + 1 ∧ ∃ (b B0 : Nat) (hdr : Value) (vals : List Value) (ts : List Thing), p = ⟨b, 0, none⟩ ∧ LRow elvT c vals ts sts ∧ (manyT (boxT b 64 #[.int .i64 c.bt, .int .i64 c.rw, .int .i64 c.wd, .int .i64 c.md, .int .u64 c.sd, hdr] :: ownT B0 57 hdr vals :: ts)).I w ∧ F = (manyT (boxT b 64 #[.int .i64 c.bt, .int .i64 c.rw, .int .i64 c.wd, .int .i64 c.md, .int .u64 c.sd, hdr] :: ownT B0 57 hdr vals :: ts)).F
def stT (p : Addr) (F : Nat → Prop) (c : Cfg) (sts : List LS) : Thing where
  I := fun w => ST w p F c sts
  F := F
  keep := fun w w' H h hk hf => by
    obtain ⟨h1, h2, h3, b, B0, hdr, vals, ts, e, hr, hm, rfl⟩ := h
    exact ⟨h1, h2, h3, b, B0, hdr, vals, ts, e, hr, (manyT _).keep w w' H hm hk hf, rfl⟩
  lt := fun w h k hk => by
    obtain ⟨h1, h2, h3, b, B0, hdr, vals, ts, e, hr, hm, rfl⟩ := h
    exact (manyT _).lt w hm k hk
theorem stI {w : World} {p : Addr} {F : Nat → Prop} {c : Cfg} {sts : List LS} (h : (stT p F c sts).I w) : ST w p F c sts := h
theorem ST.right {w : World} {p : Addr} {F : Nat → Prop} {c : Cfg} {sts : List LS} (h : ST w p F c sts) : IsRight c ∧ c.Ok ∧ sts.length = c.bt.toNat + 1 := ⟨h.1, h.2.1, h.2.2.1⟩
theorem ST.up {w w' : World} {p : Addr} {F : Nat → Prop} {c : Cfg} {sts : List LS} (h : ST w p F c sts) (hb : Below w.heap.size w w') : ST w' p F c sts :=
  (stT p F c sts).keep w w' (fun _ => False) h (Kept.of_below hb) (fun _ _ h => h)
/-- A level's cells, if there is such a level. -/
def lvFl (sts : List LS) (n : Int) : List Int := if 0 ≤ n then ((sts[n.toNat]?).map LS.fl).getD [] else []
def spV (c : Cfg) (sts : List LS) (n i : Int) : Int := if 0 ≤ n then ((sts[n.toNat]?).map (fun st => lsPtV c n st i)).getD 0 else 0
def spC (c : Cfg) (sts : List LS) (n i : Int) : Int := if 0 ≤ n then ((sts[n.toNat]?).map (fun st => lsPtC c n st i)).getD 2 else 2
end Go.Proofs.YtccabgeeglhagaaGreat.Stk
/- The code's iterator over levels: what it hands to a round, and what it asks of it. By hand. -/
namespace Go.Proofs.YtccabgeeglhagaaGreat.Stk
open Go Go.RowKit Lw Grd Lin Con Shp Sk Exa Lev
set_option linter.unusedVariables false
set_option linter.unusedSimpArgs false
attribute [local go_sem] Oper.semAt_some
/-- One of N levels. -/
abbrev Lof (N : Nat) := {j : Nat // j < N}
/-- What a round is handed. -/
def encL (vals : List Value) (c : Cfg) (k : Int) (x : Lof vals.length) : Array Value := #[vals[x.1]'x.2, .int .u64 (aboveV c x.1 k)]
/-- The first levels, one behind another. -/
def UpTo {N : Nat} (pre : List (Lof N)) : Prop := pre.map (fun x => x.1) = List.range pre.length
theorem UpTo.nil (N : Nat) : UpTo ([] : List (Lof N)) := rfl
theorem UpTo.snoc {N : Nat} {pre : List (Lof N)} {x : Lof N} : UpTo (pre ++ [x]) ↔ UpTo pre ∧ x.1 = pre.length := by
  unfold UpTo
  rw [List.map_append, List.length_append, List.length_singleton, List.range_succ]
  constructor
  · intro h
    obtain ⟨h1, h2⟩ := List.append_inj h (by simp)
    exact ⟨h1, by simpa using h2⟩
  · rintro ⟨h1, h2⟩
    rw [h1, ← h2]
    rfl
theorem grown_of {w w' : World} (h : Below w.heap.size w w') : w.grownBy w' none := ⟨h.1, h.2, h.3, h.4, fun k hk _ => h.5 k hk⟩
set_option maxRecDepth 100000 in
set_option maxHeartbeats 2000000 in
theorem above_iter (m : Nat) (hm : 1 ≤ m) (c : Cfg) (hc : c.Ok) (k : Int) (k0 : 0 ≤ k) (k1 : k ≤ 18446744073709551615) (l bs bk b g cap : Nat) (G : Nat → Prop) (vals : List Value) (hN : vals.length ≤ 60) (hbs : G bs) (hbk : G bk) (hb : G b) (hg : G g) (J Jx : List (Lof vals.length) → World → Prop)
    (W : World) (hG : ∀ k, G k → k < W.heap.size) (hJ : AbidesFrom W.heap.size J)
    (hY : ∀ pre x W, J pre W → pre.length < vals.length → YieldAt Fence.wide (m - 1) Tryz.prog l (encL vals c k x) W fun e W' => (e = .returned (.bool true) ∧ J (pre ++ [x]) W' ∧ KeptG G W W') ∨ (e = .returned (.bool false) ∧ Jx (pre ++ [x]) W'))
    (h1 : W.cell? ⟨bs, 0, none⟩ = some (.pointer (some ⟨b, 0, none⟩))) (h2 : W.cell? ⟨bk, 0, none⟩ = some (.int .u64 k)) (h3 : W.heap[b]? = some (.cells #[.int .i64 c.bt, .int .i64 c.rw, .int .i64 c.wd, .int .i64 c.md, .int .u64 c.sd, .slice (some ⟨g, 0, none⟩) vals.length cap] 64 (0, 0))) (h4 : ∀ (j : Nat) (v : Value), vals[j]? = some v → W.cell? ⟨g, j, none⟩ = some v) (h0 : J [] W) :
    CallsIn Fence.wide m Tryz.prog 57 #[.func (.yield l) #[] #[], .pointer (some ⟨bs, 0, none⟩), .pointer (some ⟨bk, 0, none⟩)] W fun e W' => (∃ v, e = .returned v) ∧ ((∃ xs, (UpTo xs ∧ xs.length = vals.length) ∧ J xs W') ∨ (∃ pre, UpTo pre ∧ Jx pre W')) := by
  have hbx : (boxT b 64 #[.int .i64 c.bt, .int .i64 c.rw, .int .i64 c.wd, .int .i64 c.md, .int .u64 c.sd, .slice (some ⟨g, 0, none⟩) vals.length cap]).I W := h3
  refine callsIn_of_wp Tryz.func57 rfl trivial ?_ rfl
  simp only [Tryz.ntmps57, List.size_toArray, List.length_cons, List.length_nil, Nat.reduceAdd, Nat.reduceSub, Array.replicate_succ, Array.replicate_zero, List.push_toArray, List.append_toArray, List.nil_append, List.cons_append]
  have c0 : W.cell? ⟨b, 0, none⟩ = some (.int .i64 c.bt) := box_cell hbx rfl
  have c1 : W.cell? ⟨b, 1, none⟩ = some (.int .i64 c.rw) := box_cell hbx rfl
  have c2 : W.cell? ⟨b, 2, none⟩ = some (.int .i64 c.wd) := box_cell hbx rfl
  have c3 : W.cell? ⟨b, 3, none⟩ = some (.int .i64 c.md) := box_cell hbx rfl
  have c4 : W.cell? ⟨b, 4, none⟩ = some (.int .u64 c.sd) := box_cell hbx rfl
  have c5 : W.cell? ⟨b, 5, none⟩ = some (.slice (some ⟨g, 0, none⟩) vals.length cap) := box_cell hbx rfl
  gi_wp2
  gi_loopw [13] (fun i wr => ∃ (j : Nat) (pre : List (Lof vals.length)), j ≤ vals.length ∧ i = .int .i64 j ∧ UpTo pre ∧ pre.length = j ∧ J pre wr ∧ KeptG G W wr)
    (fun i _ => vals.length - (intOf i).toNat)
  case atStart => exact ⟨0, [], Nat.zero_le _, rfl, UpTo.nil _, rfl, h0, KeptG.refl _ _⟩
  case round =>
    obtain ⟨j, pre, hj, rfl, hup, hlen, hJs, hkp⟩ := hrel
    by_cases hlt : j < vals.length
    · obtain ⟨v, hv⟩ : ∃ v, vals[j]? = some v := ⟨_, List.getElem?_eq_getElem hlt⟩
      have hv2 : vals[j]'hlt = v := by
        have h9 := List.getElem?_eq_getElem hlt
        rw [hv] at h9
        exact (Option.some.inj h9).symm
      have hcv := hkp.cell (h4 j v hv) hg
      have d1 := hkp.cell h1 hbs
      have d2 := hkp.cell h2 hbk
      have e0 := hkp.cell c0 hb
      have e1 := hkp.cell c1 hb
      have e2 := hkp.cell c2 hb
      have e3 := hkp.cell c3 hb
      have e4 := hkp.cell c4 hb
      gi_wp2
      refine wpIn_wide.2 ?_
      go_region_with (go_at_call 58; (with_reducible refine (above_any c j k _ hc (by omega) (by omega) k0 k1).mono ?_); rintro e w' ⟨rfl, hbw⟩; have hb2 : Below wr.heap.size wr w' := (Below.drew (Below.refl _ wr)).trans hbw; have hJ2 := hJ pre wr w' none hJs (grown_of hb2) (fun r e => by cases e); obtain ⟨fn, tmps, assign, body, hy, hR⟩ := hY pre ⟨j, hlt⟩ w' hJ2 (by omega); have hk2 := hkp.trans (KeptG.of_below (fun k hk => Nat.lt_of_lt_of_le (hG k hk) hkp.size) hb2); simp only [encL, hv2] at hy)
      all_goals
        gi_wp2
        refine hR.mono ?_
        rintro e W3 (⟨rfl, hJ3, hk3⟩ | ⟨rfl, hJx3⟩)
        · gi_wp2
          go_roundw
          case rel => exact ⟨j + 1, pre ++ [⟨j, hlt⟩], by omega, by simp, UpTo.snoc.2 ⟨hup, hlen.symm⟩, by simp [hlen], hJ3, hk2.trans hk3⟩
          case measure => simp [intOf]; omega
        · gi_wp2
          refine bodyPost_ret (results_none rfl _ _ _) rfl ?_
          exact ⟨⟨_, rfl⟩, .inr ⟨pre ++ [⟨j, hlt⟩], UpTo.snoc.2 ⟨hup, hlen.symm⟩, hJx3⟩⟩
    · obtain rfl : j = vals.length := by omega
      gi_wp2
      go_end0
      exact ⟨⟨_, rfl⟩, .inl ⟨pre, ⟨hup, hlen⟩, hJs⟩⟩
end Go.Proofs.YtccabgeeglhagaaGreat.Stk
/- The code's first error over all levels: a range over a function. Printed by wip/gen/stk10.py. -/
namespace Go.Proofs.YtccabgeeglhagaaGreat.Stk
open Go Go.RowKit Lw Grd Lin Con Shp Sk Exa Lev Go.Shelf
set_option linter.unusedVariables false
set_option linter.unusedSimpArgs false
attribute [local go_sem] Oper.semAt_some
theorem sabove_any (p : Addr) (k : Int) (w : World) :
    Calls Tryz.prog 35 #[.pointer (some p), .int .u64 k] w fun e w' => e = .returned (.func (.func 57) #[] #[.pointer (some ⟨w.heap.size, 0, none⟩), .pointer (some ⟨w.heap.size + 1, 0, none⟩)]) ∧ w' = (w.alloc (.cells #[.pointer (some p)] 28)).alloc (.cells #[.int .u64 k] 22) := by
  go_enter Tryz.func35, Tryz.ntmps35
  go_wp2
  go_ret
  exact ⟨rfl, rfl⟩
theorem HoldC.drop {F0 : Nat → Prop} {w0 w : World} {t : Thing} {ts : List Thing} (h : HoldC F0 w0 w (t :: ts)) : HoldC F0 w0 w ts :=
  ⟨⟨h.1.1, fun u hu => h.1.2.1 u (List.mem_cons_of_mem _ hu), h.1.2.2.2⟩, fun u hu => h.2 u (List.mem_cons_of_mem _ hu)⟩
theorem holdc_store {F0 : Nat → Prop} {w0 w : World} {fs ts : List Thing} {b : Nat} {e : TypeId} {v v' : Value} (h : HoldC F0 w0 w (fs ++ boxT b e #[v] :: ts)) : HoldC F0 w0 (w.setCell ⟨b, 0, none⟩ v') (fs ++ boxT b e #[v'] :: ts) := by
  have hb : Boxed w b e v := h.i (t := boxT b e #[v]) (by simp)
  have hb2 := hb.set v'
  refine h.turn (boxT b e #[v']) hb2 (Kept.set (F := (boxT b e #[v]).F) (Kept.refl _ _) (.inl rfl) 0 v') (fun k hk => .inl hk) (cel_box hb2)
set_option maxRecDepth 100000 in
set_option maxHeartbeats 2000000 in
theorem first_1 (c : Cfg) (k : Int) (vals : List Value) (lb : Array Value) (bd : Nat) (F0 : Nat → Prop) (w0 w : World) (gs ls0 : List Thing)
    (P : List (Lof vals.length) → List Thing → Prop) (Px : List (Lof vals.length) → Int → List Thing → Prop)
    (h0 : HoldC F0 w0 w (gs ++ ls0)) (hP : P [] ls0)
    (hseq : ∀ (w1 : World) (m : Nat), 1 ≤ m → Below w.heap.size w w1 → SeqStopsK Fence.wide m Tryz.prog 57 lb (encL vals c k) (KeptG (manyT gs).F) (fun xs => UpTo xs ∧ xs.length = vals.length) UpTo vals.length w1)
    (hcall : ∀ (us : List Thing) (pre : List (Lof vals.length)) (ls : List Thing) (x : Lof vals.length) (W : World), HoldC F0 w0 W (us ++ (gs ++ ls)) → P pre ls → pre.length < vals.length →
      Calls Tryz.prog 36 #[vals[x.1]'x.2, .int .u64 (aboveV c x.1 k), .pointer (some ⟨bd, 0, none⟩)] W fun e W' => ∃ (code : Int) (ls' : List Thing), e = .returned (.int .i64 code) ∧ KeepsOthers W W' ∧ KeptG (manyT gs).F W W' ∧ HoldC F0 w0 W' (us ++ (gs ++ ls')) ∧ (code = 0 → P (pre ++ [x]) ls') ∧ (¬ code = 0 → Px (pre ++ [x]) code ls')) :
    Calls Tryz.prog 34 #[.func (.func 57) #[] lb, .func (.func 36) #[] #[.pointer (some ⟨bd, 0, none⟩)]] w fun e W' =>
      ∃ ls, HoldC F0 w0 W' (gs ++ ls) ∧ ((e = .returned (.int .i64 0) ∧ ∃ xs, (UpTo xs ∧ xs.length = vals.length) ∧ P xs ls) ∨ (∃ pre code, UpTo pre ∧ ¬ code = 0 ∧ e = .returned (.int .i64 code) ∧ Px pre code ls)) := by
  refine (callsIn_wide (n := 9)).1 ?_
  refine callsIn_of_wp_marks Tryz.func34 rfl trivial ?_ rfl
  simp only [Tryz.ntmps34, List.size_toArray, List.length_cons, List.length_nil, Nat.reduceAdd, Nat.reduceSub, Array.replicate_succ, Array.replicate_zero, List.push_toArray, List.append_toArray, List.nil_append, List.cons_append]
  gi_wp2
  have B1 : Below w.heap.size w (w.alloc (.cells #[.func (.func 36) #[] #[.pointer (some ⟨bd, 0, none⟩)]] 93)) := Lw.below_alloc (Below.refl _ _) _
  have B2 := Lw.below_alloc (Below.refl _ (w.alloc (.cells #[.func (.func 36) #[] #[.pointer (some ⟨bd, 0, none⟩)]] 93))) (.cells #[.int .i64 0] 29)
  have h1 := h0.push (boxT w.heap.size 93 #[.func (.func 36) #[] #[.pointer (some ⟨bd, 0, none⟩)]]) B1 (heap_alloc_new w _) (fun k hk => Nat.le_of_eq hk.symm) (cel_box (heap_alloc_new w _))
  have h2 := h1.push (boxT (w.heap.size + 1) 29 #[.int .i64 0]) B2 (by have := heap_alloc_new (w.alloc (.cells #[.func (.func 36) #[] #[.pointer (some ⟨bd, 0, none⟩)]] 93)) (.cells #[.int .i64 0] 29); rw [World.size_alloc] at this; exact this) (fun k hk => Nat.le_of_eq (by simp; exact hk.symm)) (cel_box (by have := heap_alloc_new (w.alloc (.cells #[.func (.func 36) #[] #[.pointer (some ⟨bd, 0, none⟩)]] 93)) (.cells #[.int .i64 0] 29); rw [World.size_alloc] at this; exact this))
  have hG : ∀ k, (manyT gs).F k → k < w.heap.size := fun k hk => by
    obtain ⟨t, ht, hk2⟩ := hk
    exact t.lt w (h0.i (List.mem_append_left _ ht)) k hk2
  have hw0 : w0.heap.size ≤ w.heap.size := h0.1.1.size
  have hI : ∀ (r : Int) (us : List Thing), OwnFrom w.heap.size (fun (_ : Unit) W => HoldC F0 w0 W us) := fun r us => HoldC.own hw0 (fun _ => us)
  refine wpIn_rangeFunc_ownG rfl (by omega) (gf := 57) (lb := lb) rfl trivial (enters_of Tryz.func57 (by kernel_rfl) rfl)
    (hseq _ (9 - 1) (by omega) (B1.trans (B2.mono (by simp)))) (fun h k => KeptG.trans h k) (KeptG.put (fun k hk => by have := hG k hk; simp; omega)) (Below.refl _ _) (fun _ => rfl)
    (fun pre W => ∃ ls, HoldC F0 w0 W (boxT (w.heap.size + 1) 29 #[.int .i64 0] :: boxT w.heap.size 93 #[.func (.func 36) #[] #[.pointer (some ⟨bd, 0, none⟩)]] :: (gs ++ ls)) ∧ P pre ls)
    (fun j pre W => j = .ret ∧ ∃ ls code, HoldC F0 w0 W (boxT (w.heap.size + 1) 29 #[.int .i64 code] :: boxT w.heap.size 93 #[.func (.func 36) #[] #[.pointer (some ⟨bd, 0, none⟩)]] :: (gs ++ ls)) ∧ ¬ code = 0 ∧ Px pre code ls)
    (by
      rintro s A B row ⟨ls, h, hp⟩ hg hr
      exact ⟨ls, HoldC.own (Nat.le_trans hw0 (by simp; omega)) (fun (_ : Unit) => _) () A B row h hg hr, hp⟩)
    (by
      rintro j s A B row ⟨hj, ls, code, h, hne, hp⟩ hg hr
      exact ⟨hj, ls, code, HoldC.own (Nat.le_trans hw0 (by simp; omega)) (fun (_ : Unit) => _) () A B row h hg hr, hne, hp⟩)
    ⟨ls0, h2, hP⟩
    (fun x => { tmps := #[.func (.func 57) #[] lb, .func (.func 36) #[] #[.pointer (some ⟨bd, 0, none⟩)], undef, .pointer (some ⟨w.heap.size, 0, none⟩), .pointer (some ⟨w.heap.size + 1, 0, none⟩), vals[x.1]'x.2, .int .u64 (aboveV c x.1 k), undef, .func (.func 57) #[] lb, vals[x.1]'x.2, .int .u64 (aboveV c x.1 k), undef, undef, undef, undef, undef, undef, undef], defers := [] }) ?assign ?body ?done ?stop
  case assign =>
    intro l x W K hK
    simp only [encL]
    gi_wp2
    exact hK
  case body =>
    rintro l pre x W ⟨ls, hh, hp⟩ hlen
    have b1 := box_cell (hh.i (t := boxT w.heap.size 93 #[.func (.func 36) #[] #[.pointer (some ⟨bd, 0, none⟩)]]) (by simp)) (i := 0) rfl
    gi_wp2_with (refine ⟨trivial, ?_⟩; gi_at_call 36; refine (CallsIn.inRound l (callsIn_wide.2 (hcall [boxT (w.heap.size + 1) 29 #[.int .i64 0], boxT w.heap.size 93 #[.func (.func 36) #[] #[.pointer (some ⟨bd, 0, none⟩)]]] pre ls x W hh hp hlen))).mono ?_; rintro e W' ⟨code, ls', rfl, hko, hkg, hh', hz, hnz⟩; have r1 : Boxed W' (w.heap.size + 1) 29 (.int .i64 0) := hh'.i (t := boxT (w.heap.size + 1) 29 #[.int .i64 0]) (by simp); have r2 := r1.cell; have r3 := r1.frozen)
    · rename_i hcc
      have hc0 : ¬ code = 0 := by simpa using hcc
      have hs := holdc_store (v' := .int .i64 code) (fs := []) hh'
      exact ⟨(hko.trans (KeepsOthers.setCell _ _ _)).from _, rfl, ls', code, hs, hc0, hnz hc0⟩
    · rename_i hcc
      have hc0 : code = 0 := by simpa using hcc
      exact ⟨hko.from _, hkg, ls', hh', hz hc0⟩
  case done =>
    rintro D ys W hD hys ⟨ls, hh, hp⟩ hK
    have r1 : Boxed W (w.heap.size + 1) 29 (.int .i64 0) := hh.i (t := boxT (w.heap.size + 1) 29 #[.int .i64 0]) (by simp)
    have r2 := r1.cell
    have r3 := r1.frozen
    gi_wp2
    have hs := holdc_store (v' := .int .i64 0) (fs := []) hh
    have hK' := (KeepsOthers.setCell W ⟨w.heap.size + 1, 0, none⟩ (.int .i64 0)).same D _ hK rfl
    refine ⟨by simp, .inl ⟨_, _, rfl, run_takeDeferred hK', ?_⟩⟩
    have hs2 := HoldC.own (B := w.heap.size) hw0 (fun (_ : Unit) => boxT (w.heap.size + 1) 29 #[.int .i64 0] :: boxT w.heap.size 93 #[.func (.func 36) #[] #[.pointer (some ⟨bd, 0, none⟩)]] :: (gs ++ ls)) () _ _ _ hs (grownBy_putObj' _ D (.deferred none)) (fun r e => by cases e; exact ⟨by simp at hD; omega, _, hK', rfl⟩)
    have hc5 : (((W.setCell ⟨w.heap.size + 1, 0, none⟩ (.int .i64 0)).putObj D (.deferred none))).cell? ⟨w.heap.size + 1, 0, none⟩ = some (.int .i64 0) := box_cell (hs2.i (t := boxT (w.heap.size + 1) 29 #[.int .i64 0]) (by simp)) (i := 0) rfl
    refine ⟨.int .i64 0, ?_, ls, hs2.drop.drop, .inl ⟨rfl, ys, hys, hp⟩⟩
    simp [results, Tryz.f34, go_sem, hc5]
  case stop =>
    rintro D j pre W hD hpre ⟨rfl, ls, code, hh, hne, hp⟩ hK
    gi_wp2
    refine ⟨by simp, .inl ⟨_, _, rfl, run_takeDeferred hK, ?_⟩⟩
    have hs2 := HoldC.own (B := w.heap.size) hw0 (fun (_ : Unit) => boxT (w.heap.size + 1) 29 #[.int .i64 code] :: boxT w.heap.size 93 #[.func (.func 36) #[] #[.pointer (some ⟨bd, 0, none⟩)]] :: (gs ++ ls)) () _ _ _ hh (grownBy_putObj' _ D (.deferred none)) (fun r e => by cases e; exact ⟨by simp at hD; omega, _, hK, rfl⟩)
    have hc5 : (W.putObj D (.deferred none)).cell? ⟨w.heap.size + 1, 0, none⟩ = some (.int .i64 code) := box_cell (hs2.i (t := boxT (w.heap.size + 1) 29 #[.int .i64 code]) (by simp)) (i := 0) rfl
    refine ⟨.int .i64 code, ?_, ls, hs2.drop.drop, .inr ⟨pre, code, hpre, hne, rfl, hp⟩⟩
    simp [results, Tryz.f34, go_sem, hc5]
set_option maxRecDepth 100000 in
set_option maxHeartbeats 2000000 in
theorem first_2 (c : Cfg) (k : Int) (vals : List Value) (lb : Array Value) (bd : Nat) (F0 : Nat → Prop) (w0 w : World) (gs ls0 : List Thing)
    (P : List (Lof vals.length) → List Thing → Prop) (Px : List (Lof vals.length) → Int → List Thing → Prop)
    (h0 : HoldC F0 w0 w (gs ++ ls0)) (hP : P [] ls0)
    (hseq : ∀ (w1 : World) (m : Nat), 1 ≤ m → Below w.heap.size w w1 → SeqStopsK Fence.wide m Tryz.prog 57 lb (encL vals c k) (KeptG (manyT gs).F) (fun xs => UpTo xs ∧ xs.length = vals.length) UpTo vals.length w1)
    (hcall : ∀ (us : List Thing) (pre : List (Lof vals.length)) (ls : List Thing) (x : Lof vals.length) (W : World), HoldC F0 w0 W (us ++ (gs ++ ls)) → P pre ls → pre.length < vals.length →
      Calls Tryz.prog 37 #[vals[x.1]'x.2, .int .u64 (aboveV c x.1 k), .pointer (some ⟨bd, 0, none⟩)] W fun e W' => ∃ (code : Int) (ls' : List Thing), e = .returned (.int .i64 code) ∧ KeepsOthers W W' ∧ KeptG (manyT gs).F W W' ∧ HoldC F0 w0 W' (us ++ (gs ++ ls')) ∧ (code = 0 → P (pre ++ [x]) ls') ∧ (¬ code = 0 → Px (pre ++ [x]) code ls')) :
    Calls Tryz.prog 34 #[.func (.func 57) #[] lb, .func (.func 37) #[] #[.pointer (some ⟨bd, 0, none⟩)]] w fun e W' =>
      ∃ ls, HoldC F0 w0 W' (gs ++ ls) ∧ ((e = .returned (.int .i64 0) ∧ ∃ xs, (UpTo xs ∧ xs.length = vals.length) ∧ P xs ls) ∨ (∃ pre code, UpTo pre ∧ ¬ code = 0 ∧ e = .returned (.int .i64 code) ∧ Px pre code ls)) := by
  refine (callsIn_wide (n := 9)).1 ?_
  refine callsIn_of_wp_marks Tryz.func34 rfl trivial ?_ rfl
  simp only [Tryz.ntmps34, List.size_toArray, List.length_cons, List.length_nil, Nat.reduceAdd, Nat.reduceSub, Array.replicate_succ, Array.replicate_zero, List.push_toArray, List.append_toArray, List.nil_append, List.cons_append]
  gi_wp2
  have B1 : Below w.heap.size w (w.alloc (.cells #[.func (.func 37) #[] #[.pointer (some ⟨bd, 0, none⟩)]] 93)) := Lw.below_alloc (Below.refl _ _) _
  have B2 := Lw.below_alloc (Below.refl _ (w.alloc (.cells #[.func (.func 37) #[] #[.pointer (some ⟨bd, 0, none⟩)]] 93))) (.cells #[.int .i64 0] 29)
  have h1 := h0.push (boxT w.heap.size 93 #[.func (.func 37) #[] #[.pointer (some ⟨bd, 0, none⟩)]]) B1 (heap_alloc_new w _) (fun k hk => Nat.le_of_eq hk.symm) (cel_box (heap_alloc_new w _))
  have h2 := h1.push (boxT (w.heap.size + 1) 29 #[.int .i64 0]) B2 (by have := heap_alloc_new (w.alloc (.cells #[.func (.func 37) #[] #[.pointer (some ⟨bd, 0, none⟩)]] 93)) (.cells #[.int .i64 0] 29); rw [World.size_alloc] at this; exact this) (fun k hk => Nat.le_of_eq (by simp; exact hk.symm)) (cel_box (by have := heap_alloc_new (w.alloc (.cells #[.func (.func 37) #[] #[.pointer (some ⟨bd, 0, none⟩)]] 93)) (.cells #[.int .i64 0] 29); rw [World.size_alloc] at this; exact this))
  have hG : ∀ k, (manyT gs).F k → k < w.heap.size := fun k hk => by
    obtain ⟨t, ht, hk2⟩ := hk
    exact t.lt w (h0.i (List.mem_append_left _ ht)) k hk2
  have hw0 : w0.heap.size ≤ w.heap.size := h0.1.1.size
  have hI : ∀ (r : Int) (us : List Thing), OwnFrom w.heap.size (fun (_ : Unit) W => HoldC F0 w0 W us) := fun r us => HoldC.own hw0 (fun _ => us)
  refine wpIn_rangeFunc_ownG rfl (by omega) (gf := 57) (lb := lb) rfl trivial (enters_of Tryz.func57 (by kernel_rfl) rfl)
    (hseq _ (9 - 1) (by omega) (B1.trans (B2.mono (by simp)))) (fun h k => KeptG.trans h k) (KeptG.put (fun k hk => by have := hG k hk; simp; omega)) (Below.refl _ _) (fun _ => rfl)
    (fun pre W => ∃ ls, HoldC F0 w0 W (boxT (w.heap.size + 1) 29 #[.int .i64 0] :: boxT w.heap.size 93 #[.func (.func 37) #[] #[.pointer (some ⟨bd, 0, none⟩)]] :: (gs ++ ls)) ∧ P pre ls)
    (fun j pre W => j = .ret ∧ ∃ ls code, HoldC F0 w0 W (boxT (w.heap.size + 1) 29 #[.int .i64 code] :: boxT w.heap.size 93 #[.func (.func 37) #[] #[.pointer (some ⟨bd, 0, none⟩)]] :: (gs ++ ls)) ∧ ¬ code = 0 ∧ Px pre code ls)
    (by
      rintro s A B row ⟨ls, h, hp⟩ hg hr
      exact ⟨ls, HoldC.own (Nat.le_trans hw0 (by simp; omega)) (fun (_ : Unit) => _) () A B row h hg hr, hp⟩)
    (by
      rintro j s A B row ⟨hj, ls, code, h, hne, hp⟩ hg hr
      exact ⟨hj, ls, code, HoldC.own (Nat.le_trans hw0 (by simp; omega)) (fun (_ : Unit) => _) () A B row h hg hr, hne, hp⟩)
    ⟨ls0, h2, hP⟩
    (fun x => { tmps := #[.func (.func 57) #[] lb, .func (.func 37) #[] #[.pointer (some ⟨bd, 0, none⟩)], undef, .pointer (some ⟨w.heap.size, 0, none⟩), .pointer (some ⟨w.heap.size + 1, 0, none⟩), vals[x.1]'x.2, .int .u64 (aboveV c x.1 k), undef, .func (.func 57) #[] lb, vals[x.1]'x.2, .int .u64 (aboveV c x.1 k), undef, undef, undef, undef, undef, undef, undef], defers := [] }) ?assign ?body ?done ?stop
  case assign =>
    intro l x W K hK
    simp only [encL]
    gi_wp2
    exact hK
  case body =>
    rintro l pre x W ⟨ls, hh, hp⟩ hlen
    have b1 := box_cell (hh.i (t := boxT w.heap.size 93 #[.func (.func 37) #[] #[.pointer (some ⟨bd, 0, none⟩)]]) (by simp)) (i := 0) rfl
    gi_wp2_with (refine ⟨trivial, ?_⟩; gi_at_call 37; refine (CallsIn.inRound l (callsIn_wide.2 (hcall [boxT (w.heap.size + 1) 29 #[.int .i64 0], boxT w.heap.size 93 #[.func (.func 37) #[] #[.pointer (some ⟨bd, 0, none⟩)]]] pre ls x W hh hp hlen))).mono ?_; rintro e W' ⟨code, ls', rfl, hko, hkg, hh', hz, hnz⟩; have r1 : Boxed W' (w.heap.size + 1) 29 (.int .i64 0) := hh'.i (t := boxT (w.heap.size + 1) 29 #[.int .i64 0]) (by simp); have r2 := r1.cell; have r3 := r1.frozen)
    · rename_i hcc
      have hc0 : ¬ code = 0 := by simpa using hcc
      have hs := holdc_store (v' := .int .i64 code) (fs := []) hh'
      exact ⟨(hko.trans (KeepsOthers.setCell _ _ _)).from _, rfl, ls', code, hs, hc0, hnz hc0⟩
    · rename_i hcc
      have hc0 : code = 0 := by simpa using hcc
      exact ⟨hko.from _, hkg, ls', hh', hz hc0⟩
  case done =>
    rintro D ys W hD hys ⟨ls, hh, hp⟩ hK
    have r1 : Boxed W (w.heap.size + 1) 29 (.int .i64 0) := hh.i (t := boxT (w.heap.size + 1) 29 #[.int .i64 0]) (by simp)
    have r2 := r1.cell
    have r3 := r1.frozen
    gi_wp2
    have hs := holdc_store (v' := .int .i64 0) (fs := []) hh
    have hK' := (KeepsOthers.setCell W ⟨w.heap.size + 1, 0, none⟩ (.int .i64 0)).same D _ hK rfl
    refine ⟨by simp, .inl ⟨_, _, rfl, run_takeDeferred hK', ?_⟩⟩
    have hs2 := HoldC.own (B := w.heap.size) hw0 (fun (_ : Unit) => boxT (w.heap.size + 1) 29 #[.int .i64 0] :: boxT w.heap.size 93 #[.func (.func 37) #[] #[.pointer (some ⟨bd, 0, none⟩)]] :: (gs ++ ls)) () _ _ _ hs (grownBy_putObj' _ D (.deferred none)) (fun r e => by cases e; exact ⟨by simp at hD; omega, _, hK', rfl⟩)
    have hc5 : (((W.setCell ⟨w.heap.size + 1, 0, none⟩ (.int .i64 0)).putObj D (.deferred none))).cell? ⟨w.heap.size + 1, 0, none⟩ = some (.int .i64 0) := box_cell (hs2.i (t := boxT (w.heap.size + 1) 29 #[.int .i64 0]) (by simp)) (i := 0) rfl
    refine ⟨.int .i64 0, ?_, ls, hs2.drop.drop, .inl ⟨rfl, ys, hys, hp⟩⟩
    simp [results, Tryz.f34, go_sem, hc5]
  case stop =>
    rintro D j pre W hD hpre ⟨rfl, ls, code, hh, hne, hp⟩ hK
    gi_wp2
    refine ⟨by simp, .inl ⟨_, _, rfl, run_takeDeferred hK, ?_⟩⟩
    have hs2 := HoldC.own (B := w.heap.size) hw0 (fun (_ : Unit) => boxT (w.heap.size + 1) 29 #[.int .i64 code] :: boxT w.heap.size 93 #[.func (.func 37) #[] #[.pointer (some ⟨bd, 0, none⟩)]] :: (gs ++ ls)) () _ _ _ hh (grownBy_putObj' _ D (.deferred none)) (fun r e => by cases e; exact ⟨by simp at hD; omega, _, hK, rfl⟩)
    have hc5 : (W.putObj D (.deferred none)).cell? ⟨w.heap.size + 1, 0, none⟩ = some (.int .i64 code) := box_cell (hs2.i (t := boxT (w.heap.size + 1) 29 #[.int .i64 code]) (by simp)) (i := 0) rfl
    refine ⟨.int .i64 code, ?_, ls, hs2.drop.drop, .inr ⟨pre, code, hpre, hne, rfl, hp⟩⟩
    simp [results, Tryz.f34, go_sem, hc5]
end Go.Proofs.YtccabgeeglhagaaGreat.Stk
/- The document's Total and Point of a stack. Printed by wip/gen/stk18.py. -/
namespace Go.Proofs.YtccabgeeglhagaaGreat.Stk
open Go Go.RowKit Lw Grd Lin Con Shp Sk Exa Lev
set_option linter.unusedVariables false
set_option linter.unusedSimpArgs false
theorem spd_no {c : Cfg} {sts : List LS} {n : Int} (hl : sts.length = c.bt.toNat + 1) (hb : 1 ≤ c.bt) (hn : ¬ (0 ≤ n ∧ n ≤ c.bt)) (i : Int) : spV c sts n i = 0 ∧ spC c sts n i = 2 := by
  unfold spV spC
  by_cases h0 : 0 ≤ n
  · rw [if_pos h0, if_pos h0, List.getElem?_eq_none (by omega)]
    exact ⟨rfl, rfl⟩
  · rw [if_neg h0, if_neg h0]
    exact ⟨rfl, rfl⟩
theorem spd_yes {c : Cfg} {sts : List LS} {n : Nat} {st : LS} (hn : sts[n]? = some st) (i : Int) : spV c sts (n : Int) i = lsPtV c n st i ∧ spC c sts (n : Int) i = lsPtC c n st i := by
  unfold spV spC
  rw [if_pos (by omega), if_pos (by omega), Int.toNat_natCast, hn]
  exact ⟨rfl, rfl⟩
set_option maxHeartbeats 4000000 in
theorem dk_total (p : Addr) (F : Nat → Prop) (c : Cfg) (sts : List LS) (w : World) (h : DK w p F c sts) :
    Calls Tryz.prog 19 #[.pointer (some p)] w fun e w' => e = .returned (.int .i64 (spV c sts c.bt 0)) ∧ Below w.heap.size w w' := by
  obtain ⟨hr, hc, hl, b0, B0, hdr0, vals0, ts0, rfl, hrow0, hI, rfl⟩ := h
  have HH := Lib.hid (Hold.start hI)
  have HO := Lib.hid hc
  have HR := Lib.hid hr
  have HL := Lib.hid hl
  have HROW0 := Lib.hid hrow0
  have hb1 := hr.1
  have hb2 := hr.2.1
  obtain ⟨g0, cap0, rfl, hcs⟩ := ownD_cell (HH.out.i (t := ownT B0 45 hdr0 vals0) (by simp)) (by have := hrow0.lv; omega)
  obtain ⟨N, hN⟩ : ∃ N, vals0.length = N := ⟨_, rfl⟩
  have HNB : Hid (N = c.bt.toNat + 1) := Lib.hid (by have := hrow0.lv; omega)
  have hN60 : N ≤ 60 := by have := HNB.out; omega
  have HCS := Lib.hid hcs
  have d5 : w.cell? ⟨b0, 5, none⟩ = some (.slice (some ⟨g0, 0, none⟩) N cap0) := by rw [← hN]; exact box_cell (HH.out.i (t := dkB b0 c (.slice (some ⟨g0, 0, none⟩) vals0.length cap0)) (by simp)) (i := 5) rfl
  have HD5 := Lib.hid d5
  have HLS : Hid (sts.length = N) := Lib.hid (by have := hrow0.lv; omega)
  obtain ⟨m, hm⟩ : ∃ m : Nat, c.bt = m := ⟨c.bt.toNat, by omega⟩
  obtain ⟨st, hst⟩ : ∃ st, sts[m]? = some st := ⟨_, List.getElem?_eq_getElem (by have := HL.out; omega)⟩
  obtain ⟨p0, Q0, e1, e2, e3⟩ := dk_at HROW0.out HH.out hst
  have d6 := HCS.out m _ e1
  have HE := Lib.hid e2
  have hw1 : IntKind.i64.wrap ((N : Int) - 1) = (m : Int) := by
    have h9 := HNB.out
    have h8 : (N : Int) - 1 = m := by omega
    rw [h8]
    exact IntWalk.i64_in _ ⟨by omega, by omega⟩
  have hw2 : wrap64 ((N : Int) - 1) = (m : Int) := by
    have h9 := HNB.out
    have h8 : (N : Int) - 1 = m := by omega
    rw [h8]
    exact IntWalk.wrap64_in _ ⟨by omega, by omega⟩
  have hmN : (m : Int) < (N : Int) := by have := HNB.out; omega
  have hm0 : (0 : Int) ≤ (m : Int) := by omega
  have e4 : spV c sts c.bt 0 = lsPtV c m st 0 := by rw [hm]; exact (spd_yes hst 0).1
  rw [e4]
  clear hr hc hl hrow0 hI hcs hN hm e1 e2 e3 e4 hst hb1 hb2 hN60
  go_enter Tryz.func19, Tryz.ntmps19
  go_wp2
  go_region_held3 (fun w' => Below w.heap.size w w' ∧ w'.cell? ⟨b0, 5, none⟩ = some (.slice (some ⟨g0, 0, none⟩) N cap0) ∧ w'.cell? ⟨g0, m, none⟩ = some (.pointer (some p0))) (first | (refine ⟨?_, ?_, ?_⟩ <;> (first | (with_reducible assumption) | (with_reducible refine cell_up d5 ?_) | (with_reducible refine cell_up d6 ?_) | skip) <;> ((repeat' (first | (with_reducible exact Below.refl _ _) | (with_reducible assumption) | (with_reducible refine below_over ?_ _ _) | (with_reducible refine Lw.below_alloc ?_ _) | (with_reducible refine Below.drew ?_) | (with_reducible refine below_drewN ?_ _) | (with_reducible refine Below.setCell ?_ ?_ _) | go_size))))) (first
    | (go_at_call 28; (with_reducible refine (dv_point p0 Q0 c m st 0 _ (dlv_up HE.out (by (repeat' (first | (with_reducible exact Below.refl _ _) | (with_reducible assumption) | (with_reducible refine below_over ?_ _ _) | (with_reducible refine Lw.below_alloc ?_ _) | (with_reducible refine Below.drew ?_) | (with_reducible refine below_drewN ?_ _) | (with_reducible refine Below.setCell ?_ ?_ _) | go_size)))) (by omega) (by omega)).mono ?_); rintro e w5 ⟨rfl, hb⟩; obtain ⟨bs, d, rfl⟩ := below_grow hb; clear hb))
  all_goals go_wp2
  all_goals go_ret
  all_goals exact ⟨rfl, (by (repeat' (first | (with_reducible exact Below.refl _ _) | (with_reducible assumption) | (with_reducible refine below_over ?_ _ _) | (with_reducible refine Lw.below_alloc ?_ _) | (with_reducible refine Below.drew ?_) | (with_reducible refine below_drewN ?_ _) | (with_reducible refine Below.setCell ?_ ?_ _) | go_size)))⟩
set_option maxHeartbeats 8000000 in
theorem dk_point (p : Addr) (F : Nat → Prop) (c : Cfg) (sts : List LS) (n i : Int) (w : World) (h : DK w p F c sts) (n0 : -9223372036854775808 ≤ n) (n1 : n ≤ 9223372036854775807) (i0 : 0 ≤ i) (i1 : i ≤ 18446744073709551615) :
    Calls Tryz.prog 9 #[.pointer (some p), .agg #[.int .i64 n, .int .u64 i]] w fun e w' => e = .returned (.tuple #[.int .i64 (spV c sts n i), .int .i64 (spC c sts n i)]) ∧ Below w.heap.size w w' := by
  obtain ⟨hr, hc, hl, b0, B0, hdr0, vals0, ts0, rfl, hrow0, hI, rfl⟩ := h
  have HH := Lib.hid (Hold.start hI)
  have HO := Lib.hid hc
  have HR := Lib.hid hr
  have HL := Lib.hid hl
  have HROW0 := Lib.hid hrow0
  have hb1 := hr.1
  have hb2 := hr.2.1
  obtain ⟨g0, cap0, rfl, hcs⟩ := ownD_cell (HH.out.i (t := ownT B0 45 hdr0 vals0) (by simp)) (by have := hrow0.lv; omega)
  obtain ⟨N, hN⟩ : ∃ N, vals0.length = N := ⟨_, rfl⟩
  have HNB : Hid (N = c.bt.toNat + 1) := Lib.hid (by have := hrow0.lv; omega)
  have hN60 : N ≤ 60 := by have := HNB.out; omega
  have HCS := Lib.hid hcs
  have d5 : w.cell? ⟨b0, 5, none⟩ = some (.slice (some ⟨g0, 0, none⟩) N cap0) := by rw [← hN]; exact box_cell (HH.out.i (t := dkB b0 c (.slice (some ⟨g0, 0, none⟩) vals0.length cap0)) (by simp)) (i := 5) rfl
  have HD5 := Lib.hid d5
  have HLS : Hid (sts.length = N) := Lib.hid (by have := hrow0.lv; omega)
  have I0 := Lib.hid i0
  have I1 := Lib.hid i1
  have B0w : Below w.heap.size w (w.alloc (.cells #[.int .i64 n, .int .u64 i] 39)) := Lw.below_alloc (Below.refl _ _) _
  have k5 := cell_up d5 B0w
  by_cases hlo : n < 0
  · obtain ⟨e1, e2⟩ := spd_no (sts := sts) HL.out hb1 (fun h => by omega : ¬ (0 ≤ n ∧ n ≤ c.bt)) i
    rw [e1, e2]
    have hd : decide (n < 0) = true := decide_eq_true hlo
    clear hr hc hl hrow0 hI hcs hN hb1 hb2 hN60 n0 n1 i0 i1 e1 e2
    go_enter Tryz.func9, Tryz.ntmps9
    go_wp2
    go_quiet (fail)
    go_wp2
    go_ret2
    exact ⟨rfl, (by (repeat' (first | (with_reducible exact Below.refl _ _) | (with_reducible assumption) | (with_reducible refine below_over ?_ _ _) | (with_reducible refine Lw.below_alloc ?_ _) | (with_reducible refine Below.drew ?_) | (with_reducible refine below_drewN ?_ _) | (with_reducible refine Below.setCell ?_ ?_ _) | go_size)))⟩
  · obtain ⟨m, rfl⟩ : ∃ m : Nat, n = m := ⟨n.toNat, by omega⟩
    by_cases hhi : (N : Int) ≤ (m : Int)
    · obtain ⟨e1, e2⟩ := spd_no (sts := sts) HL.out hb1 (fun h => by have := HNB.out; omega : ¬ (0 ≤ (m : Int) ∧ (m : Int) ≤ c.bt)) i
      rw [e1, e2]
      have hd : decide ((m : Int) < 0) = false := decide_eq_false hlo
      have hd2 : decide ((N : Int) ≤ (m : Int)) = true := decide_eq_true hhi
      have hm0 : (0 : Int) ≤ (m : Int) := by omega
      clear hr hc hl hrow0 hI hcs hN hb1 hb2 hN60 n0 n1 i0 i1 e1 e2
      go_enter Tryz.func9, Tryz.ntmps9
      go_wp2
      go_quiet (fail)
      go_wp2
      go_ret2
      exact ⟨rfl, (by (repeat' (first | (with_reducible exact Below.refl _ _) | (with_reducible assumption) | (with_reducible refine below_over ?_ _ _) | (with_reducible refine Lw.below_alloc ?_ _) | (with_reducible refine Below.drew ?_) | (with_reducible refine below_drewN ?_ _) | (with_reducible refine Below.setCell ?_ ?_ _) | go_size)))⟩
    · obtain ⟨st, hst⟩ : ∃ st, sts[m]? = some st := ⟨_, List.getElem?_eq_getElem (by have := HLS.out; omega)⟩
      obtain ⟨p0, Q0, e1, e2, e3⟩ := dk_at HROW0.out HH.out hst
      have d6 := HCS.out m _ e1
      have k6 := cell_up d6 B0w
      have HE := Lib.hid e2
      obtain ⟨e4, e5⟩ := spd_yes (c := c) hst i
      rw [e4, e5]
      have hd : decide ((m : Int) < 0) = false := decide_eq_false hlo
      have hd2 : decide ((N : Int) ≤ (m : Int)) = false := decide_eq_false hhi
      have hmN : (m : Int) < (N : Int) := by omega
      have hm0 : (0 : Int) ≤ (m : Int) := by omega
      clear hr hc hl hrow0 hI hcs hN hb1 hb2 hN60 n0 n1 i0 i1 e1 e2 e3 e4 e5 hst
      go_enter Tryz.func9, Tryz.ntmps9
      go_wp2
      go_quiet (fail)
      go_wp2
      have q0 : (w.alloc (.cells #[.int .i64 m, .int .u64 i] 39)).cell? ⟨w.heap.size, 0, none⟩ = some (.int .i64 m) := box_cell (heap_alloc_new w _) rfl
      have q1 : (w.alloc (.cells #[.int .i64 m, .int .u64 i] 39)).cell? ⟨w.heap.size, 1, none⟩ = some (.int .u64 i) := box_cell (heap_alloc_new w _) rfl
      go_region_held3 (fun w' => Below w.heap.size w w' ∧ w'.cell? ⟨b0, 5, none⟩ = some (.slice (some ⟨g0, 0, none⟩) N cap0) ∧ w'.cell? ⟨w.heap.size, 0, none⟩ = some (.int .i64 m) ∧ w'.cell? ⟨w.heap.size, 1, none⟩ = some (.int .u64 i) ∧ w'.cell? ⟨g0, m, none⟩ = some (.pointer (some p0))) (first | (refine ⟨?_, ?_, ?_, ?_, ?_⟩ <;> (first | (with_reducible assumption) | (with_reducible refine cell_up k5 ?_) | (with_reducible refine cell_up k6 ?_) | (with_reducible refine cell_up q0 ?_) | (with_reducible refine cell_up q1 ?_) | skip) <;> ((repeat' (first | (with_reducible exact Below.refl _ _) | (with_reducible assumption) | (with_reducible refine below_over ?_ _ _) | (with_reducible refine Lw.below_alloc ?_ _) | (with_reducible refine Below.drew ?_) | (with_reducible refine below_drewN ?_ _) | (with_reducible refine Below.setCell ?_ ?_ _) | go_size))))) (first
        | (go_at_call 28; (with_reducible refine (dv_point p0 Q0 c m st i _ (dlv_up HE.out (by (repeat' (first | (with_reducible exact Below.refl _ _) | (with_reducible assumption) | (with_reducible refine below_over ?_ _ _) | (with_reducible refine Lw.below_alloc ?_ _) | (with_reducible refine Below.drew ?_) | (with_reducible refine below_drewN ?_ _) | (with_reducible refine Below.setCell ?_ ?_ _) | go_size)))) I0.out I1.out).mono ?_); rintro e w5 ⟨rfl, hb⟩; obtain ⟨bs, d, rfl⟩ := below_grow hb; clear hb))
      all_goals go_wp2
      all_goals go_ret2
      all_goals exact ⟨rfl, (by (repeat' (first | (with_reducible exact Below.refl _ _) | (with_reducible assumption) | (with_reducible refine below_over ?_ _ _) | (with_reducible refine Lw.below_alloc ?_ _) | (with_reducible refine Below.drew ?_) | (with_reducible refine below_drewN ?_ _) | (with_reducible refine Below.setCell ?_ ?_ _) | go_size)))⟩
end Go.Proofs.YtccabgeeglhagaaGreat.Stk
/- The document's Update of a stack. Printed by wip/gen/stk18.py. -/
namespace Go.Proofs.YtccabgeeglhagaaGreat.Stk
open Go Go.RowKit Lw Grd Lin Con Shp Sk Exa Lev
set_option linter.unusedVariables false
set_option linter.unusedSimpArgs false
/-- The levels of a copy, some of them updated. -/
structure URow (c : Cfg) (k d : Int) (sts : List LS) (n : Nat) (sts' : List LS) : Prop where
  len : sts'.length = sts.length
  each : ∀ (i : Nat), sts'[i]? = if i < n then (rss c k d 0 sts)[i]? else sts[i]?
theorem URow.start (c : Cfg) (k d : Int) (sts : List LS) : URow c k d sts 0 sts := ⟨rfl, fun i => (if_neg (by omega)).symm⟩
theorem URow.next {c : Cfg} {k d : Int} {sts sts' : List LS} {n : Nat} {st : LS} (h : URow c k d sts n sts') (hs : sts[n]? = some st) : URow c k d sts (n + 1) (sts'.set n (lsRes c (n : Int) st (upK k n) d)) := by
  refine ⟨by rw [List.length_set]; exact h.len, fun i => ?_⟩
  have hlt := (List.getElem?_eq_some_iff.1 hs).1
  rw [List.getElem?_set]
  by_cases hi : n = i
  · subst hi
    rw [if_pos rfl, if_pos (by rw [h.len]; exact hlt), if_pos (by omega), rss_get c k d 0 sts n st hs, Nat.zero_add]
  · rw [if_neg hi, h.each i]
    by_cases hi2 : i < n
    · rw [if_pos hi2, if_pos (by omega)]
    · rw [if_neg hi2, if_neg (by omega)]
theorem URow.done {c : Cfg} {k d : Int} {sts sts' : List LS} {n : Nat} (h : URow c k d sts n sts') (hn : n = sts.length) : sts' = rss c k d 0 sts := List.ext_getElem? (fun i => by
  rw [h.each i]
  by_cases hi : i < n
  · rw [if_pos hi]
  · rw [if_neg hi, List.getElem?_eq_none (by omega), List.getElem?_eq_none (by rw [rss_len]; omega)])
theorem upk_bd {k : Int} (k0 : 0 ≤ k) (n : Nat) : 0 ≤ upK k n ∧ upK k n ≤ k := by
  have hp : (0 : Int) < ((2 ^ n : Nat) : Int) := by have := Nat.one_le_two_pow (n := n); omega
  exact ⟨Int.ediv_nonneg k0 (Int.le_of_lt hp), Int.ediv_le_self _ k0⟩
theorem upk_pow (k : Int) (n : Nat) : k / 2 ^ n = upK k n := by
  unfold upK
  simp
set_option maxRecDepth 100000 in
set_option maxHeartbeats 8000000 in
theorem dk_upd (p : Addr) (F : Nat → Prop) (c : Cfg) (sts : List LS) (k d : Int) (w : World) (h : DK w p F c sts) (k0 : 0 ≤ k) (k1 : k ≤ 18446744073709551615) (d0 : -9223372036854775808 ≤ d) (d1 : d ≤ 9223372036854775807) :
    Calls Tryz.prog 17 #[.pointer (some p), .int .u64 k, .int .i64 d] w fun e w' => e = .returned (.int .i64 (sucode c sts k d)) ∧ ∃ F', DK w' p F' c (sures c sts k d) ∧ Kept F w w' ∧ (∀ q, F' q → F q ∨ w.heap.size ≤ q) := by
  have HS := Lib.hid h
  obtain ⟨hr, hc, hl, b0, B0, hdr0, vals0, ts0, rfl, hrow0, hI, rfl⟩ := h
  have HH := Lib.hid (Hold.start hI)
  have HO := Lib.hid hc
  have HR := Lib.hid hr
  have HL := Lib.hid hl
  have HROW0 := Lib.hid hrow0
  have hb1 := hr.1
  have hb2 := hr.2.1
  obtain ⟨g0, cap0, rfl, hcs⟩ := ownD_cell (HH.out.i (t := ownT B0 45 hdr0 vals0) (by simp)) (by have := hrow0.lv; omega)
  obtain ⟨N, hN⟩ : ∃ N, vals0.length = N := ⟨_, rfl⟩
  have HNB : Hid (N = c.bt.toNat + 1) := Lib.hid (by have := hrow0.lv; omega)
  have hN60 : N ≤ 60 := by have := HNB.out; omega
  have HCS := Lib.hid hcs
  have d5 : w.cell? ⟨b0, 5, none⟩ = some (.slice (some ⟨g0, 0, none⟩) N cap0) := by rw [← hN]; exact box_cell (HH.out.i (t := dkB b0 c (.slice (some ⟨g0, 0, none⟩) vals0.length cap0)) (by simp)) (i := 5) rfl
  have HD5 := Lib.hid d5
  have HLS : Hid (sts.length = N) := Lib.hid (by have := hrow0.lv; omega)
  have K0 := Lib.hid k0
  have K1 := Lib.hid k1
  have D0 := Lib.hid d0
  have D1 := Lib.hid d1
  have x0 := box_cell (HH.out.i (t := dkB b0 c (.slice (some ⟨g0, 0, none⟩) vals0.length cap0)) (by simp)) (i := 0) rfl
  have x1 := box_cell (HH.out.i (t := dkB b0 c (.slice (some ⟨g0, 0, none⟩) vals0.length cap0)) (by simp)) (i := 1) rfl
  have x2 := box_cell (HH.out.i (t := dkB b0 c (.slice (some ⟨g0, 0, none⟩) vals0.length cap0)) (by simp)) (i := 2) rfl
  have x3 := box_cell (HH.out.i (t := dkB b0 c (.slice (some ⟨g0, 0, none⟩) vals0.length cap0)) (by simp)) (i := 3) rfl
  have x4 := box_cell (HH.out.i (t := dkB b0 c (.slice (some ⟨g0, 0, none⟩) vals0.length cap0)) (by simp)) (i := 4) rfl
  by_cases hk : keys c 0 ≤ k
  · have e1 : sucode c sts k d = 2 := if_pos hk
    have e2 : sures c sts k d = sts := by unfold sures; rw [e1]; exact if_neg (by decide)
    rw [e1, e2]
    clear e1 e2 hI hrow0 hl hr hc k0 k1 d0 d1 hcs hN hN60 hb1 hb2
    go_enter Tryz.func17, Tryz.ntmps17
    go_wp2_with (go_at_call 38; (with_reducible refine (rkeys_any c 0 _ HO.out (by omega) (by omega)).mono ?_); rintro e w1 ⟨rfl, hb⟩)
    go_ret
    exact ⟨rfl, _, HS.out.up hb, Kept.of_below hb, fun q hq => .inl hq⟩
  · have hk2 : k < keys c 0 := by omega
    by_cases hm : c.md = 2 ∧ d < 0
    · have e1 : sucode c sts k d = 3 := by unfold sucode; rw [if_neg hk, if_pos hm]
      have e2 : sures c sts k d = sts := by unfold sures; rw [e1]; exact if_neg (by decide)
      rw [e1, e2]
      have hm1 : (c.md == 2) = true := by simp [hm.1]
      have hm2 : d < 0 := hm.2
      clear e1 e2 hI hrow0 hl hr hc k0 k1 d0 d1 hcs hN hN60 hb1 hb2 hm hk
      go_enter Tryz.func17, Tryz.ntmps17
      go_wp2_with (go_at_call 38; (with_reducible refine (rkeys_any c 0 _ HO.out (by omega) (by omega)).mono ?_); rintro e w1 ⟨rfl, hb⟩; have y3 := cell_up x3 hb)
      go_ret
      exact ⟨rfl, _, HS.out.up hb, Kept.of_below hb, fun q hq => .inl hq⟩
    · have e1 : sucode c sts k d = ers c k d 0 sts := by unfold sucode; rw [if_neg hk, if_neg hm]
      have HE1 := Lib.hid e1
      have hm1 : ((c.md == 2) = false) ∨ ((c.md == 2) = true ∧ ¬ d < 0) := by
        by_cases h9 : c.md = 2
        · exact .inr ⟨by simp [h9], fun h => hm ⟨h9, h⟩⟩
        · exact .inl (by simp [h9])
      clear e1 hI hrow0 hl hr hc k0 k1 d0 d1 hcs hN hm hk
      have hend : ∀ (wr : World) (b1 B1 : Nat) (hdr1 : Value) (vals1 : List Value) (ts : List Thing), ers c k d 0 sts = 0 → LRow dlT c vals1 ts (rss c k d 0 sts) → Hold (fun _ => False) w wr (dkB b1 c hdr1 :: ownT B1 45 hdr1 vals1 :: ts) →
          ∃ F', DK (wr.setCell ⟨b0, 5, none⟩ hdr1) ⟨b0, 0, none⟩ F' c (rss c k d 0 sts) ∧ Kept (manyT (dkB b0 c (.slice (some ⟨g0, 0, none⟩) vals0.length cap0) :: ownT B0 45 (.slice (some ⟨g0, 0, none⟩) vals0.length cap0) vals0 :: ts0)).F w (wr.setCell ⟨b0, 5, none⟩ hdr1) ∧ (∀ q, F' q → (manyT (dkB b0 c (.slice (some ⟨g0, 0, none⟩) vals0.length cap0) :: ownT B0 45 (.slice (some ⟨g0, 0, none⟩) vals0.length cap0) vals0 :: ts0)).F q ∨ w.heap.size ≤ q) := by
        intro wr b1 B1 hdr1 vals1 ts hz hrow hh
        have hbw : Below w.heap.size w wr := hh.1.below
        have hb0 := box_lt (HH.out.i (t := dkB b0 c (.slice (some ⟨g0, 0, none⟩) vals0.length cap0)) (by simp))
        have h2 : Hold (manyT (dkB b0 c (.slice (some ⟨g0, 0, none⟩) vals0.length cap0) :: ownT B0 45 (.slice (some ⟨g0, 0, none⟩) vals0.length cap0) vals0 :: ts0)).F w wr (dkB b0 c (.slice (some ⟨g0, 0, none⟩) vals0.length cap0) :: ownT B1 45 hdr1 vals1 :: ts) := by
          have h3 := Hold.sub hh (.cons _ (List.Sublist.refl _))
          refine ⟨Kept.of_below hbw, fun t ht => ?_, fun u hu k' hk' hu2 => ?_, h3.2.2⟩
          · rcases List.mem_cons.1 ht with rfl | ht
            · exact ⟨(dkB b0 c _).keep w wr (fun _ => False) (HH.out.i (by simp)) (Kept.of_below hbw) (fun _ _ h => h), fun k' hk' => .inl ⟨_, by simp, hk'⟩⟩
            · exact ⟨(h3.2.1 t ht).1, fun k' hk' => .inr (((h3.2.1 t ht).2 k' hk').elim (fun h => h.elim) id)⟩
          · have h4 := ((h3.2.1 u hu).2 k' hu2).elim (fun h => h.elim) id
            have h5 : k' = b0 := hk'
            omega
        have h6 := Hold.store (fs := []) h2 hdr1
        have h7 := dk_of HR.out HO.out (by rw [rss_len]; exact HL.out) hrow h6
        exact ⟨_, h7.1, h7.2.1, h7.2.2⟩
      have HEND := Lib.hid hend
      clear hend
      have hkk := fun n => (upk_bd K0.out n)
      have HKK := Lib.hid hkk
      clear hkk
      rcases hm1 with hm1 | ⟨hm1, hm2⟩
      all_goals
        go_enter Tryz.func17, Tryz.ntmps17
        go_wp2_with (first
          | (go_at_call 38; (with_reducible refine (rkeys_any c 0 _ HO.out (by omega) (by omega)).mono ?_); rintro e w1 ⟨rfl, hb⟩; have y3 := cell_up x3 hb; have HB1 := Lib.hid hb; clear hb)
          | (go_at_call 11; (with_reducible refine (dk_copy _ _ c sts _ (HS.out.up HB1.out)).mono ?_); rintro e w2 ⟨q, Q, rfl, hq, hQ, hb⟩; obtain ⟨hr1, hc1, hl1, b1, B1, hdr1, vals1, ts1, rfl, hrow1, hI1, rfl⟩ := hq; have HB2 := Lib.hid (HB1.out.trans (hb.mono HB1.out.size)); have HW1 := Lib.hid HB1.out.size; clear hb))
        have hI2 : Hold (fun _ => False) w w2 (dkB b1 c hdr1 :: ownT B1 45 hdr1 vals1 :: ts1) := ⟨Kept.of_below HB2.out, fun t ht => ⟨hI1.1 t ht, fun k' hk' => .inr (Nat.le_trans HW1.out (hQ k' ⟨t, ht, hk'⟩))⟩, hI1.2⟩
        obtain ⟨g1, cap1, rfl, -⟩ := ownD_cell (hI1.1 (ownT B1 45 hdr1 vals1) (by simp)) (by have := hrow1.lv; have := HL.out; omega)
        have hN1 : vals1.length = N := by have := hrow1.lv; have := HLS.out; omega
        have HN1 := Lib.hid hN1
        have HI2 := Lib.hid hI2
        have HROW1 := Lib.hid hrow1
        rw [hN1] at HI2
        clear hr1 hc1 hl1 hrow1 hI1 hI2 hQ hN1 x0 x1 x2 x3 x4 y3
        go_loopw [8] (fun iv wr => ∃ (n : Nat) (ts : List Thing) (sts' : List LS), n ≤ N ∧ iv = .int .i64 n ∧ LRow dlT c vals1 ts sts' ∧ URow c k d sts n sts' ∧ (∀ (i : Nat) (s : LS), i < n → sts[i]? = some s → lsCode c ((0 + i : Nat) : Int) s (upK k (0 + i)) d = 0) ∧ Hold (fun _ => False) w wr (dkB b1 c (.slice (some ⟨g1, 0, none⟩) N cap1) :: ownT B1 45 (.slice (some ⟨g1, 0, none⟩) N cap1) vals1 :: ts)) (fun iv _ => N - (intOf iv).toNat)
        case atStart => exact ⟨0, ts1, sts, Nat.zero_le _, rfl, HROW1.out, URow.start _ _ _ _, fun i s hi => by omega, HI2.out⟩
        case round =>
          obtain ⟨n, ts, sts', hn, rfl, hrow, hur, hcz, hv⟩ := hrel
          have HROW := Lib.hid hrow
          have HUR := Lib.hid hur
          have HCZ := Lib.hid hcz
          have HV := Lib.hid hv
          have hbw : Below w.heap.size w wr := hv.1.below
          have HBW := Lib.hid hbw
          have z5 := cell_up HD5.out hbw
          have x5 := box_cell (hv.i (t := dkB b1 c (.slice (some ⟨g1, 0, none⟩) N cap1)) (by simp)) (i := 5) rfl
          clear hrow hur hcz hbw
          by_cases hlt : n < N
          · obtain ⟨st, hst⟩ : ∃ st, sts[n]? = some st := ⟨_, List.getElem?_eq_getElem (by rw [HLS.out]; exact hlt)⟩
            have hst' : sts'[n]? = some st := by rw [HUR.out.each n, if_neg (Nat.lt_irrefl n)]; exact hst
            obtain ⟨p1, Q1, e1, e2, e3⟩ := dk_at HROW.out hv hst'
            obtain ⟨gg, cc, ee, hcs1⟩ := ownD_cell (hv.i (t := ownT B1 45 (.slice (some ⟨g1, 0, none⟩) N cap1) vals1) (by simp)) (by have := HN1.out; omega)
            injection ee with ee1 ee2 ee3
            injection ee1 with ee1
            injection ee1 with ee1
            subst ee1
            have x6 := hcs1 n _ e1
            have HEV := Lib.hid e1
            have HE := Lib.hid e2
            have HE3 := Lib.hid e3
            have HST := Lib.hid hst
            have hlt2 : (n : Int) < (N : Int) := by omega
            have hn0 : (0 : Int) ≤ (n : Int) := by omega
            have hu := HKK.out n
            have hn64 : n < 64 := by omega
            have CU := Lib.hid (fun hb => dv_upd p1 Q1 c (n : Int) st (upK k n) d wr e2 hu.1 hb D0.out D1.out)
            have hub : upK k n ≤ 18446744073709551615 := by have := K1.out; omega
            obtain ⟨E, hE⟩ : ∃ E, lsCode c (n : Int) st (upK k n) d = E := ⟨_, rfl⟩
            have HEE := Lib.hid hE
            have CU2 : Hid (Calls Tryz.prog 39 #[.pointer (some p1), .int .u64 (k / 2 ^ n), .int .i64 d] wr fun e w' => e = .returned (.int .i64 E) ∧ ∃ F', DLV w' p1 F' c (n : Int) (lsRes c (n : Int) st (upK k n) d) ∧ Kept Q1 wr w' ∧ (∀ q, F' q → Q1 q ∨ wr.heap.size ≤ q)) := Lib.hid (by
              rw [upk_pow, ← hE]
              exact CU.out hub)
            clear hv e1 e2 e3 hst hst' hcs1 ee2 ee3 hu CU hub hE
            by_cases hz : E = 0
            · subst hz
              go_wp2_with (go_at_call 39; (with_reducible refine CU2.out.mono ?_); rintro e w5 ⟨rfl, Q5, hE5, hK5, hQ5⟩; have HV5 := Lib.hid (Hold.set (pre := [dkB b1 c (.slice (some ⟨g1, 0, none⟩) N cap1), ownT B1 45 (.slice (some ⟨g1, 0, none⟩) N cap1) vals1]) (post := []) (by simpa using HV.out) HE3.out (dlT (.pointer (some p1)) Q5 c (n : Int) (lsRes c (n : Int) st (upK k n) d)) ⟨p1, rfl, hE5⟩ hK5 hQ5); clear hE5 hK5 hQ5)
              go_roundw
              case rel =>
                refine ⟨n + 1, ts.set n (dlT (.pointer (some p1)) Q5 c (n : Int) (lsRes c (n : Int) st (upK k n) d)), _, by omega, by go_num, HROW.out.put HEV.out Q5 _, HUR.out.next HST.out, fun i s hi hs => ?_, by simpa using HV5.out⟩
                by_cases hi2 : i < n
                · exact HCZ.out i s hi2 hs
                · obtain rfl : i = n := by omega
                  rw [HST.out] at hs
                  injection hs with hs
                  subst hs
                  rw [Nat.zero_add]
                  exact HEE.out
              case measure => simp [intOf]; omega
            · go_wp2_with (go_at_call 39; (with_reducible refine CU2.out.mono ?_); rintro e w5 ⟨rfl, Q5, hE5, hK5, hQ5⟩; have HV5 := Lib.hid (Hold.set (pre := [dkB b1 c (.slice (some ⟨g1, 0, none⟩) N cap1), ownT B1 45 (.slice (some ⟨g1, 0, none⟩) N cap1) vals1]) (post := []) (by simpa using HV.out) HE3.out (dlT (.pointer (some p1)) Q5 c (n : Int) (lsRes c (n : Int) st (upK k n) d)) ⟨p1, rfl, hE5⟩ hK5 hQ5); clear hE5 hK5 hQ5)
              go_ret
              have hE9 : ers c k d 0 sts = E := by
                rw [ers_first c k d 0 sts n st HCZ.out HST.out (by rw [Nat.zero_add, HEE.out]; exact hz), Nat.zero_add]
                exact HEE.out
              have hs1 : sucode c sts k d = E := HE1.out.trans hE9
              have hs2 : sures c sts k d = sts := by unfold sures; rw [hs1]; exact if_neg hz
              rw [hs1, hs2]
              have hb5 : Below w.heap.size w w5 := HV5.out.1.below
              exact ⟨rfl, _, HS.out.up hb5, Kept.of_below hb5, fun q hq => .inl hq⟩
          · obtain rfl : n = N := by omega
            have hfz : wr.frozen? ⟨b0, 5, none⟩ = false := frozen_of_row wr b0 5 _ _ ((dkB b0 c _).keep w wr (fun _ => False) (HH.out.i (t := dkB b0 c (.slice (some ⟨g0, 0, none⟩) vals0.length cap0)) (by simp)) (Kept.of_below HBW.out) (fun _ _ h => h))
            have hz9 : ers c k d 0 sts = 0 := ers_none c k d 0 sts (fun i s hs => HCZ.out i s (by have := (List.getElem?_eq_some_iff.1 hs).1; have := HLS.out; omega) hs)
            have HZ9 := Lib.hid hz9
            have hrr := HUR.out.done HLS.out.symm
            have HRR := Lib.hid hrr
            clear hv hz9 hrr
            go_wp2
            go_ret
            have hs1 : sucode c sts k d = 0 := HE1.out.trans HZ9.out
            have hs2 : sures c sts k d = rss c k d 0 sts := by unfold sures; rw [if_pos hs1]
            rw [hs1, hs2]
            obtain ⟨F', f1, f2, f3⟩ := HEND.out wr b1 B1 (.slice (some ⟨g1, 0, none⟩) n cap1) vals1 ts HZ9.out (by have h9 := HROW.out; rw [HRR.out] at h9; exact h9) HV.out
            exact ⟨rfl, F', f1, f2, f3⟩
end Go.Proofs.YtccabgeeglhagaaGreat.Stk
