/- The walks of the document's own answers for layer 6: New, Cells, Same. Printed by wip/gen/grd.py. -/
import Derived.Test.YtonbidohhgenlaaGrdRef
import Derived.Deep.QuietTactic
import Derived.BigQuiet
namespace Go.Proofs.Ytonbidohhgenlaa.Grd
open Go Go.RowKit Lw
set_option linter.unusedVariables false
theorem rep_next (j : Nat) : List.replicate (j + 1) (0 : Int) = List.replicate j 0 ++ [0] := by rw [List.replicate_succ']
theorem cl_lt {n : Int} {m k : Nat} (h : k < cl n m) : (k : Int) < n ∧ (k : Int) < m := by unfold cl at h; omega
theorem cl_ge {n : Int} {m k : Nat} (h : ¬ k < cl n m) : ¬ (k : Int) < n ∨ ((k : Int) < n ∧ ¬ (k : Int) < m) := by unfold cl at h; omega
/-- A new grid: all is 0, and all of it is new memory. -/
def Fresh (w : World) (b : Nat) (hdr : Value) (R : List Row) : Prop := ∀ q, RF b hdr R q → w.heap.size ≤ q
def Zeros (m n : Nat) (R : List Row) : Prop := nums R = List.replicate m (List.replicate n 0)
theorem zeros_push {m n : Nat} {R : List Row} (h : Zeros m n R) (g c : Nat) : Zeros (m + 1) n (R ++ [(g, c, List.replicate n 0)]) := by
  unfold Zeros nums at *
  rw [List.map_append, h, List.replicate_succ']
  rfl
theorem new_round {w wo wr w3 : World} {hdr : Value} {R : List Row} {k j g cp g3 cap3 : Nat} (HG : RG wo w.heap.size hdr R) (hbi : Below wo.heap.size wo wr)
    (ho : wr.ownsRow wo.heap.size 2 1 (.slice (some ⟨g, 0, none⟩) j cp) j ((List.replicate j 0).map (Value.int .i64))) (hg : wo.heap.size ≤ g)
    (own3 : w3.ownsRow 0 37 1 (.slice (some ⟨g3, 0, none⟩) (R.length + 1) cap3) (R.length + 1) (R.map rowHd ++ [.slice (some ⟨g, 0, none⟩) j cp]))
    (grow3 : (wr.alloc (.cells #[.slice (some ⟨g, 0, none⟩) j cp] 37)).grownBy w3 hdr.ownBlock) (hat3 : hdr.ownBlock = some g3 ∨ g3 = (wr.alloc (.cells #[.slice (some ⟨g, 0, none⟩) j cp] 37)).heap.size)
    (hB3 : w3.heap[w.heap.size]? = some (.cells #[hdr] 61 (0, 0))) (HZ : Zeros k j R) (HF : Fresh w w.heap.size hdr R) (HB : Below w.heap.size w wo) (hk : R.length = k) :
    RG (w3.setCell ⟨w.heap.size, 0, none⟩ (.slice (some ⟨g3, 0, none⟩) (k + 1) cap3)) w.heap.size (.slice (some ⟨g3, 0, none⟩) (k + 1) cap3) (R ++ [(g, cp, List.replicate j 0)]) ∧
      Zeros (k + 1) j (R ++ [(g, cp, List.replicate j 0)]) ∧ Fresh w w.heap.size (.slice (some ⟨g3, 0, none⟩) (k + 1) cap3) (R ++ [(g, cp, List.replicate j 0)]) ∧ Below w.heap.size w (w3.setCell ⟨w.heap.size, 0, none⟩ (.slice (some ⟨g3, 0, none⟩) (k + 1) cap3)) := by
  subst hk
  have hbl := HG.blt (.inl rfl)
  have hol : ∀ q, hdr.ownBlock = some q → q < wo.heap.size := fun q hq => HG.blt (.inr (.inl hq))
  have hgl := own_lt ho (g := g) rfl
  have hbs := hbi.size
  have hsz : (wr.alloc (.cells #[.slice (some ⟨g, 0, none⟩) j cp] 37)).heap.size = wr.heap.size + 1 := by simp
  have K3 : Kept (fun q => q = w.heap.size ∨ hdr.ownBlock = some q) wo w3 := ((Kept.of_below hbi).alloc _).grown grow3 (fun q hq => .inl (.inr hq))
  have K4 : Kept (fun q => q = w.heap.size ∨ hdr.ownBlock = some q) wo (w3.setCell ⟨w.heap.size, 0, none⟩ (.slice (some ⟨g3, 0, none⟩) (R.length + 1) cap3)) := K3.set (.inl (.inl rfl)) 0 _
  have g3b : g3 ≠ w.heap.size := by
    rcases hat3 with h1 | h1
    · intro e; exact HG.apart1 (by rw [h1, e])
    · omega
  refine ⟨HG.push (c := cp) K4 ?_ ?_ ?_ hg ?_, zeros_push HZ g cp, ?_, K4.low HB HB.size ?_⟩
  · have := heap_setCell_same w3 w.heap.size 0 _ _ (.slice (some ⟨g3, 0, none⟩) (R.length + 1) cap3) hB3
    simpa using this
  · have h1 := (Kept.set (F := fun q => q = w.heap.size) (Kept.refl _ w3) (.inl rfl) 0 (.slice (some ⟨g3, 0, none⟩) (R.length + 1) cap3)).own own3 (fun q hq e => g3b (by simp [Value.ownBlock] at hq; omega))
    simpa [rowHd] using h1
  · have K5 : Kept (fun q => q = w.heap.size ∨ hdr.ownBlock = some q) wr (w3.setCell ⟨w.heap.size, 0, none⟩ (.slice (some ⟨g3, 0, none⟩) (R.length + 1) cap3)) := (((Kept.refl _ wr).alloc _).grown grow3 (fun q hq => .inl (.inr hq))).set (.inl (.inl rfl)) 0 _
    have h1 := K5.own ho (fun q hq e => by
      simp [Value.ownBlock] at hq
      rcases e with e | e
      · omega
      · have := hol q e; omega)
    have h2 := own_mono h1 (Nat.zero_le wo.heap.size)
    simpa [rowHd] using h2
  · rcases hat3 with h1 | h1
    · exact .inl (by rw [h1]; rfl)
    · exact .inr ⟨g3, rfl, by omega, by omega⟩
  · intro q hq
    have hbb := HB.size
    rcases hq with rfl | hq | ⟨r, hr, rfl⟩
    · exact Nat.le_refl _
    · simp [Value.ownBlock] at hq
      subst hq
      rcases hat3 with h1 | h1
      · exact HF _ (.inr (.inl h1))
      · omega
    · rcases List.mem_append.1 hr with h1 | h1
      · exact HF _ (.inr (.inr ⟨r, h1, rfl⟩))
      · simp at h1
        subst h1
        simp only
        omega
  · intro q hq
    rcases hq with rfl | hq
    · exact Nat.le_refl _
    · exact HF q (.inr (.inl hq))
set_option maxRecDepth 100000 in
set_option maxHeartbeats 4000000 in
theorem rnew_any (rows width : Int) (w : World) (r0 : -9223372036854775808 ≤ rows) (r1 : rows ≤ 9223372036854775807) (c0 : -9223372036854775808 ≤ width) (c1 : width ≤ 9223372036854775807) :
    Calls Try.prog 10 #[.int .i64 rows, .int .i64 width] w fun e w' => ∃ (b : Nat) (hdr : Value) (R : List Row), e = .returned (.pointer (some ⟨b, 0, none⟩)) ∧ RG w' b hdr R ∧ Zeros (cl rows 8) (cl width 128) R ∧ Fresh w b hdr R ∧ Below w.heap.size w w' := by
  obtain ⟨i0, hi, hz0, hz1, hz2⟩ := info_parts i64_info
  obtain ⟨j0, hj, hy0, hy1, hy2⟩ := info_parts rows_info
  have hm8 : cl rows 8 ≤ 8 := by unfold cl; omega
  have hw128 : cl width 128 ≤ 128 := by unfold cl; omega
  have HCL := Lib.hid (fun k h => cl_lt (n := rows) (m := 8) (k := k) h)
  have HCG := Lib.hid (fun k h => cl_ge (n := rows) (m := 8) (k := k) h)
  have HWL := Lib.hid (fun k h => cl_lt (n := width) (m := 128) (k := k) h)
  have HWG := Lib.hid (fun k h => cl_ge (n := width) (m := 128) (k := k) h)
  obtain ⟨M, hM⟩ : ∃ M, cl rows 8 = M := ⟨_, rfl⟩
  obtain ⟨W, hW⟩ : ∃ W, cl width 128 = W := ⟨_, rfl⟩
  rw [hM] at HCL HCG hm8 ⊢
  rw [hW] at HWL HWG hw128 ⊢
  clear hM hW
  go_enter Try.func10, Try.ntmps10
  go_wp2
  go_loopw [6] (fun i wr => ∃ (k : Nat) (hdr : Value) (R : List Row), k ≤ M ∧ R.length = k ∧ i = .int .i64 k ∧ RG wr w.heap.size hdr R ∧ Zeros k W R ∧ Fresh w w.heap.size hdr R ∧ Below w.heap.size w wr) (fun i _ => M - (intOf i).toNat)
  case atStart =>
    refine ⟨0, .slice none 0 0, [], Nat.zero_le _, rfl, rfl, ⟨heap_alloc_new w _, World.ownsRow_nil _ _ _ _, (fun r h => by cases h), (fun h => by simp [Value.ownBlock] at h), (fun r h => by cases h), by simp⟩, rfl, ?_, Lw.below_alloc (Below.refl _ _) _⟩
    intro q hq
    rcases hq with rfl | hq | ⟨r, hr, _⟩
    · exact Nat.le_refl _
    · simp [Value.ownBlock] at hq
    · cases hr
  case round =>
    obtain ⟨k, hdr, R, hk, hRl, rfl, hrg, hzr, hfr, hbel⟩ := hrel
    have HG := Lib.hid hrg
    have HZ := Lib.hid hzr
    have HF := Lib.hid hfr
    have HB := Lib.hid hbel
    have HRL := Lib.hid hRl
    have hbs := hbel.size
    clear hrg hzr hfr hbel hRl
    by_cases hlt : k < M
    · obtain ⟨g1, g2⟩ : (k : Int) < rows ∧ (k : Int) < 8 := by have := HCL.out k hlt; omega
      obtain ⟨wo, rfl⟩ : ∃ wo, wo = wr := ⟨_, rfl⟩
      go_wp2
      go_loopw [7, 8] (fun v c wi => ∃ (j g cp : Nat), j ≤ W ∧ c = .int .i64 j ∧ v = .slice (some ⟨g, 0, none⟩) j cp ∧ wi.ownsRow wo.heap.size 2 1 v j ((List.replicate j 0).map (Value.int .i64)) ∧ wo.heap.size ≤ g ∧ Below wo.heap.size wo wi) (fun _ c _ => W - (intOf c).toNat)
      case atStart => exact ⟨0, wo.heap.size, 0, Nat.zero_le _, rfl, rfl, own_empty wo _ _ _ (Nat.le_refl _), Nat.le_refl _, Lw.below_alloc (Below.refl _ _) _⟩
      case round =>
        obtain ⟨j, g, cp, hjw, rfl, rfl, hown, hg, hbi⟩ := hrel
        have hbis := hbi.size
        by_cases hjl : j < W
        · obtain ⟨e1, e2⟩ : (j : Int) < width ∧ (j : Int) < 128 := by have := HWL.out j hjl; omega
          have HN := Lib.hid (rep_next j)
          have HBI := Lib.hid hbi
          clear hbi
          go_wp2_with (at_builtin; (refine app_one .i64 rfl _ _ 37 rfl wo.heap.size 2 i0 8 i64s_u hi hz0 hz1 hz2 (.slice (some ⟨g, 0, none⟩) j cp) j (List.replicate j 0) rfl (hown.alloc _) 0 wr.heap.size rfl (cell_one_new _ _ _) (by unfold maxLen; omega) (by omega) (by simp; omega) ?_); intro v1 w1 own1 grow1 oth1; obtain ⟨gg, cc, rfl, hgg, hgl⟩ := own1.form (by omega); have hb1 : Below wo.heap.size wo w1 := app_below3 (Lw.below_alloc HBI.out _) grow1 (fun q hq => own_ge hown q hq))
          go_roundw
          case rel => exact ⟨j + 1, gg, cc, by omega, by go_num, rfl, by rw [HN.out]; exact own1, hgg, hb1⟩
          case measure => simp [intOf]; omega
        · have e : j = W := by omega
          subst e
          have hrg1 := HG.out.keep (Kept.of_below (F := fun _ => False) hbi) (fun _ _ h => h)
          have hhd := cell_of_row wr w.heap.size 0 _ _ _ hrg1.cell
          simp only [List.getElem?_toArray, List.getElem?_cons_zero] at hhd
          have hlt1 := hrg1.blt (.inl rfl)
          have HG1 := Lib.hid hrg1
          have HBI := Lib.hid hbi
          have HO := Lib.hid hown
          have hk8 : k ≤ 8 := by omega
          clear hrg1 hbi hown
          have e0 : ¬ (j : Int) < width ∨ ((j : Int) < width ∧ ¬ (j : Int) < 128) := by have := HWG.out j (by omega); omega
          rcases e0 with e1 | ⟨e1, e2⟩
          all_goals go_wp2_with (at_builtin; (refine app_val rfl _ _ 59 rfl 0 37 j0 (.slice none 0 0) 24 rows_u hj hy0 hy1 hy2 rfl hdr k (R.map rowHd) rfl (by have h7 := HG1.out.outer.alloc (.cells #[.slice (some ⟨g, 0, none⟩) j cp] 37); rw [HRL.out] at h7; exact h7) (.slice (some ⟨g, 0, none⟩) j cp) wr.heap.size rfl (cell_one_new _ _ _) rfl (by unfold maxLen; omega) (by omega) (by omega) ?_); intro g3 cap3 w3 own3 grow3 hat3 hl3; have hB3 : w3.heap[w.heap.size]? = some (.cells #[hdr] 61 (0, 0)) := by { rw [grow3.block _ (by simp; omega) (fun e => HG1.out.apart1 e.symm)]; exact (Kept.alloc (F := fun _ => False) (Kept.refl _ wr) _).heap HG1.out.cell (fun h => h) }; have hfz3 := frozen_of_row w3 w.heap.size 0 _ _ hB3; have hcl3 := cell_of_row w3 w.heap.size 0 _ _ _ hB3; simp only [List.getElem?_toArray, List.getElem?_cons_zero] at hcl3)
          all_goals go_roundw
          all_goals first
            | (simp [intOf]; omega)
            | (refine ⟨k + 1, .slice (some ⟨g3, 0, none⟩) (k + 1) cap3, R ++ [(g, cp, List.replicate j 0)], by omega, by simp [HRL.out], by go_num, ?_⟩; exact new_round HG.out HBI.out HO.out hg (by rw [HRL.out]; exact own3) grow3 hat3 hB3 HZ.out HF.out HB.out HRL.out)
    · have e : k = M := by omega
      subst e
      have e0 : ¬ (k : Int) < rows ∨ ((k : Int) < rows ∧ ¬ (k : Int) < 8) := by have := HCG.out k (by omega); omega
      rcases e0 with e1 | ⟨e1, e2⟩
      all_goals go_wp2
      all_goals go_ret
      all_goals refine ⟨w.heap.size, ?_, hdr, R, HG.out, HZ.out, HF.out, HB.out⟩
      all_goals rfl
theorem flat_next (L : List (List Int)) (k : Nat) (zs : List Int) (h : L[k]? = some zs) : (L.take (k + 1)).flatten = (L.take k).flatten ++ zs := by
  obtain ⟨hk, e⟩ := List.getElem?_eq_some_iff.1 h
  rw [List.take_succ_eq_append_getElem hk, List.flatten_append, e]
  simp
theorem flat_len (L : List (List Int)) (k m : Nat) (h : ∀ zs ∈ L, zs.length ≤ m) : (L.take k).flatten.length ≤ k * m := by
  induction k with
  | zero => simp
  | succ k ih =>
    rcases Nat.lt_or_ge k L.length with h1 | h1
    · rw [flat_next L k _ (List.getElem?_eq_getElem h1), List.length_append, Nat.succ_mul]
      have := h _ (List.getElem_mem h1)
      omega
    · rw [List.take_of_length_le (by omega)]
      rw [List.take_of_length_le h1] at ih
      rw [Nat.succ_mul]
      omega
set_option maxRecDepth 100000 in
set_option maxHeartbeats 2000000 in
theorem rcells_any (b : Nat) (hdr : Value) (R : List Row) (Z : List Int) (w : World) (h : RG w b hdr R) (hZ : (nums R).flatten = Z) (hn : R.length ≤ 8) (hm : ∀ r ∈ R, r.2.2.length ≤ 128) :
    Calls Try.prog 15 #[.pointer (some ⟨b, 0, none⟩)] w fun e w' => ∃ (A : Addr) (cap : Nat), e = .returned (.slice (some A) Z.length cap) ∧ Rd .i64 w' (some A) Z ∧ Z.length ≤ cap ∧ cap ≤ maxLen ∧ w.heap.size ≤ A.block ∧ Below w.heap.size w w' := by
  obtain ⟨i0, hi, hz0, hz1, hz2⟩ := info_parts i64_info
  have HG := Lib.hid h
  have HZZ := Lib.hid hZ
  clear hZ
  obtain ⟨A, cap, rfl, hcap, hA, hcell⟩ := h.hd
  have hb := cell_of_row w b 0 _ _ _ h.cell
  simp only [List.getElem?_toArray, List.getElem?_cons_zero] at hb
  have hlen : (nums R).length = R.length := by simp [nums]
  have HLM := Lib.hid (fun k => flat_len (nums R) k 128 (fun zs hz => by obtain ⟨r, hr, rfl⟩ := List.mem_map.1 hz; exact hm r hr))
  have HC := Lib.hid hcell
  have HLEN := Lib.hid hlen
  have HM := Lib.hid hm
  clear h hcell hA hlen hm
  go_enter Try.func15, Try.ntmps15
  go_wp2
  go_loopw [3, 4] (fun v i wr => ∃ (k n : Nat) (ad : Addr) (cp : Nat), k ≤ R.length ∧ i = .int .i64 k ∧ n = ((nums R).take k).flatten.length ∧ v = .slice (some ad) n cp ∧ wr.ownsRow w.heap.size 2 1 v n (((nums R).take k).flatten.map (Value.int .i64)) ∧ Below w.heap.size w wr) (fun _ i _ => R.length - (intOf i).toNat)
  case atStart => exact ⟨0, 0, _, 0, Nat.zero_le _, rfl, rfl, rfl, own_empty w _ _ _ (Nat.le_refl _), Lw.below_alloc (Below.refl _ _) _⟩
  case round =>
    obtain ⟨k, n, ad, cp, hk, rfl, hnn, rfl, hown, hbel⟩ := hrel
    have hbr := cell_up hb hbel
    have hlm := HLM.out k
    have hbs := hbel.size
    by_cases hlt : k < R.length
    · obtain ⟨r, hr⟩ : ∃ r, R[k]? = some r := ⟨_, List.getElem?_eq_getElem hlt⟩
      obtain ⟨oad, rfl, hcr⟩ := HC.out k r hr
      have hrm := List.mem_of_getElem? hr
      have hml := HM.out r hrm
      have hcr2 := cell_up hcr hbel
      have hrd : Rd .i64 w (some ⟨r.1, 0, none⟩) r.2.2 := fun j v hv => ⟨_, rfl, HG.out.numAt hrm hv⟩
      have HN := Lib.hid (flat_next (nums R) k r.2.2 (by simp [nums, hr]))
      have HRD := Lib.hid (hrd.up hbel)
      have HB := Lib.hid hbel
      have HNN := Lib.hid hnn
      have hn2 : n ≤ 1024 := by omega
      clear hlm
      obtain ⟨g, gc, zs⟩ := r
      unfold rowHd at hcr2
      simp only at hcr2 hml HRD HN
      clear hr hcr hrd hbel hnn hrm
      go_wp2_with (at_builtin; (refine app_any .i64 rfl _ _ 37 rfl w.heap.size 2 i0 8 i64s_u hi hz0 hz1 hz2 (.slice (some ad) n cp) n ((nums R).take k).flatten rfl hown (fun h => by cases h) (some ⟨g, 0, none⟩) zs.length gc zs rfl (by simp) rfl HRD.out (by unfold maxLen; omega) (by omega) hbs ?_); intro A2 cap2 w2 own2 grow2 rd2 c2 d2; have hb2 : Below w.heap.size w w2 := app_below3 HB.out grow2 (fun q hq => own_ge hown q hq))
      go_roundw
      case rel => exact ⟨k + 1, n + zs.length, A2, cap2, by omega, by go_num, by rw [HN.out, List.length_append, ← HNN.out], rfl, by rw [HN.out]; exact own2, hb2⟩
      case measure => simp [intOf]; omega
    · have e : k = R.length := by omega
      subst e
      rw [List.take_of_length_le (by have := HLEN.out; omega), HZZ.out] at hown hnn hlm
      subst hnn
      obtain ⟨A2, c2, e2, hrd, h1, h2, h3⟩ := own_rd hown
      injection e2 with e3 e4 e5
      subst e3
      subst e5
      have hge := own_ge hown ad.block rfl
      have HO := Lib.hid hrd
      have HB := Lib.hid hbel
      clear hown hrd hbel h3
      go_wp2
      go_ret
      exact ⟨_, _, rfl, HO.out, h1, h2, hge, HB.out⟩
set_option maxRecDepth 100000 in
set_option maxHeartbeats 2000000 in
theorem rsame_any (A B : Option Addr) (n m ca cb : Nat) (xs ys : List Int) (w : World) (ha : Rd .i64 w A xs) (hb : Rd .i64 w B ys) (hla : xs.length = n) (hlb : ys.length = m) (hn : n ≤ 9223372036854775807) (hm : m ≤ 9223372036854775807) :
    Calls Try.prog 13 #[.slice A n ca, .slice B m cb] w fun e w' => e = .returned (.bool (decide (xs = ys))) ∧ Below w.heap.size w w' := by
  have HA := Lib.hid ha
  have HB := Lib.hid hb
  have HLA := Lib.hid hla
  have HLB := Lib.hid hlb
  clear ha hb
  by_cases hnm : n = m
  · subst hnm
    clear hla hlb
    go_enter Try.func13, Try.ntmps13
    go_wp2
    go_loopw [5] (fun i wr => ∃ k d : Nat, k ≤ n ∧ i = .int .i64 k ∧ xs.take k = ys.take k ∧ wr = w.drewN d) (fun i _ => n - (intOf i).toNat)
    case atStart => exact ⟨0, 0, Nat.zero_le _, rfl, rfl, rfl⟩
    case round =>
      obtain ⟨k, d, hk, rfl, heq, rfl⟩ := hrel
      have HE := Lib.hid heq
      clear heq
      by_cases hlt : k < n
      · obtain ⟨x, hx⟩ : ∃ x, xs[k]? = some x := ⟨_, List.getElem?_eq_getElem (by have := HLA.out; omega)⟩
        obtain ⟨y, hy⟩ : ∃ y, ys[k]? = some y := ⟨_, List.getElem?_eq_getElem (by have := HLB.out; omega)⟩
        obtain ⟨ad, rfl, hcx⟩ := HA.out k x hx
        obtain ⟨bd, rfl, hcy⟩ := HB.out k y hy
        by_cases hxy : x = y
        · have HN : Hid (xs.take (k + 1) = ys.take (k + 1)) := Lib.hid (by
            rw [List.take_add_one, List.take_add_one, HE.out, hx, hy, hxy])
          subst hxy
          clear hx hy
          go_wp2
          go_quiet (fail)
          go_wp2
          go_roundw
          case rel => exact ⟨k + 1, _, by omega, by go_num, HN.out, rfl⟩
          case measure => simp [intOf]; omega
        · have HD : Hid (decide (xs = ys) = false) := Lib.hid (decide_eq_false (fun e => hxy (by rw [e, hy] at hx; injection hx with hx; exact hx.symm)))
          have hne : (x == y) = false := by simpa using hxy
          have hne2 : (x != y) = true := by simpa using hxy
          clear hx hy hxy
          go_wp2
          go_quiet (fail)
          go_wp2
          go_ret
          exact ⟨ret_b HD.out.symm, by first | exact below_drewN (Below.refl _ _) _ | exact below_drewN (below_drewN (Below.refl _ _) _) _⟩
      · have e : k = n := by omega
        subst e
        have HD : Hid (decide (xs = ys) = true) := Lib.hid (decide_eq_true (by
          have := HE.out
          rwa [List.take_of_length_le (by have := HLA.out; omega), List.take_of_length_le (by have := HLB.out; omega)] at this))
        go_wp2
        go_ret
        exact ⟨ret_b HD.out.symm, by first | exact below_drewN (Below.refl _ _) _ | exact below_drewN (below_drewN (Below.refl _ _) _) _⟩
  · have hne : ((n : Int) == (m : Int)) = false := by simp; omega
    have hne2 : ((n : Int) != (m : Int)) = true := by simp; omega
    have HD : Hid (decide (xs = ys) = false) := Lib.hid (decide_eq_false (fun e => hnm (by rw [← hla, ← hlb, e])))
    clear hla hlb hnm
    go_enter Try.func13, Try.ntmps13
    go_wp2
    go_ret
    exact ⟨ret_b HD.out.symm, Below.refl _ _⟩
end Go.Proofs.Ytonbidohhgenlaa.Grd
