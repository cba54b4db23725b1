/- Proved here: texts joined: MgLawF. -/
import Derived.Test.YticgjbckfpkpjaaGreatBu41
import Derived.Test.YticgjbckfpkpjaaGreatBu43
import Derived.Deep.RegionLaw
import Derived.BigRegion
import Derived.Deep.CutRange
import Derived.Deep.DeepCutAuto
import Derived.Outline
/- Proved here: what the statement MergeTurn says, by the contracts of package merge. -/
namespace Go.Proofs.YticgjbckfpkpjaaGreat
open Go.RowKit
set_option linter.unusedVariables false
set_option maxRecDepth 100000

/-- Two more: that of place n again, and the one behind all. -/
def more2P (k n : Nat) : List Nat := List.range k ++ [n, k]
theorem more2_lt {k n : Nat} (hn : n < k) : ∀ i ∈ more2P k n, i < k + 1 := by
  intro i hi
  rcases List.mem_append.1 hi with h | h
  · have := List.mem_range.1 h; omega
  · simp at h; omega
theorem more2_all {k n : Nat} : ∀ i, i < k + 1 → i ∈ more2P k n := fun i hi => by
  rcases Nat.lt_or_ge i k with h | h
  · exact List.mem_append_left _ (List.mem_range.2 h)
  · exact List.mem_append_right _ (by simp; omega)
theorem sel_more2 {α : Type} (d : α) (l : List α) {n : Nat} {x b : α} (hx : l[n]? = some x) : l ++ [x, b] = sel d (more2P l.length n) (l ++ [b]) := by
  have hn := (List.getElem?_eq_some_iff.1 hx).1
  unfold sel more2P
  rw [List.map_append, List.map_cons, List.map_cons, List.map_nil, List.getElem?_append_left hn, hx, Option.getD_some, List.getElem?_append_right (Nat.le_refl _), Nat.sub_self]
  simp only [List.getElem?_cons_zero, Option.getD_some]
  congr 1
  apply List.ext_getElem?
  intro j
  rw [List.getElem?_map]
  by_cases hj : j < l.length
  · rw [List.getElem?_range hj, Option.map_some, List.getElem?_append_left hj, List.getElem?_eq_getElem hj]
    simp
  · rw [List.getElem?_eq_none (by omega), List.getElem?_eq_none (by simp; omega)]
    rfl

/-- Files that are some of others, or a base, neither many nor long, and may be. -/
theorem some_small {base : Txs} {sides S : List Txs} (hf : fewM base sides = true) (hw : wrongN base sides = 0) (h1 : 1 ≤ S.length) (h2 : S.length ≤ 8) (hS : ∀ d ∈ S, d = base ∨ d ∈ sides) : smallM base S ∧ smallR base S ∧ wrongN base S = 0 := by
  obtain ⟨u1, u2, u3, u4⟩ := fewM_small hf
  obtain ⟨v1, v2, v3, v4, v5, v6⟩ := wrong_none hw
  have hd2 : ∀ d ∈ base :: S, d.length ≤ 16 ∧ ∀ s ∈ d, s.length ≤ 100 := fun d hd' => by
    rcases List.mem_cons.1 hd' with rfl | hd'
    · exact ⟨u2, u3⟩
    · rcases hS d hd' with rfl | h
      · exact ⟨u2, u3⟩
      · exact u4 d h
  refine ⟨⟨by omega, fun d hd' => ⟨by have := (hd2 d hd').1; omega, fun s hs => by have := (hd2 d hd').2 s hs; omega⟩⟩, ⟨by omega, fun d hd' => ⟨by have := (hd2 d hd').1; omega, fun s hs => by have := (hd2 d hd').2 s hs; omega⟩⟩,
    wrong_zero h1 (by omega) v3 (fun d hd' => ?_) v5 (fun d hd' => by have := (hd2 d (List.mem_cons_of_mem _ hd')).1; omega)⟩
  rcases hS d hd' with rfl | h
  · exact v3
  · exact v4 d h

/-- Sides in another turn, and with one more and the base, as they are merged. -/
theorem turn_merge {base : Txs} {sides : List Txs} {ms : List (List Int)} {cs : List Ck} {nn : Nat} {er : Int} {ps : List Pc} (hn : nn < sides.length) (hm : MsOf base sides ms) (hL : Laid base sides ms cs) (hw : wrongN base (sides.drop nn ++ sides.take nn) = 0) (hs : smallR base (sides.drop nn ++ sides.take nn)) (hb16 : base.length ≤ 16) (h : MergesTo base (sides.drop nn ++ sides.take nn) 0 false er ps) :
    er = 0 ∧ cleanB ps = cleanB (mergeD base sides 0 false cs) ∧ (cleanB (mergeD base sides 0 false cs) = true → ps = mergeD base sides 0 false cs) ∧ ps.length ≤ 100 ∧ (choose ps 0).length ≤ 1000000 := by
  have e := sel_turn ([] : Txs) sides hn
  rw [e] at hw h hs
  obtain ⟨rfl, ms', ds, a, b, rfl⟩ := merge_of hw ⟨Int.le_refl _, by omega, .inl rfl⟩ h
  obtain ⟨h1, h2⟩ := merge_turned (turnP_lt (by omega)) (turnP_all hn) hm hL a b
  exact ⟨rfl, h1, h2, (merge_len b hs hb16 0 false).1, (merge_len b hs hb16 0 false).2 0⟩
theorem more_merge {base p : Txs} {sides : List Txs} {ms : List (List Int)} {cs : List Ck} {nn : Nat} {er : Int} {ps : List Pc} (hp : sides[nn]? = some p) (hm : MsOf base sides ms) (hL : Laid base sides ms cs) (hw : wrongN base (sides ++ [p, base]) = 0) (hs : smallR base (sides ++ [p, base])) (hb16 : base.length ≤ 16) (h : MergesTo base (sides ++ [p, base]) 0 false er ps) :
    er = 0 ∧ cleanB ps = cleanB (mergeD base sides 0 false cs) ∧ (cleanB (mergeD base sides 0 false cs) = true → ps = mergeD base sides 0 false cs) ∧ ps.length ≤ 100 ∧ (choose ps 0).length ≤ 1000000 := by
  have hn := (List.getElem?_eq_some_iff.1 hp).1
  have e := sel_more2 ([] : Txs) sides (b := base) hp
  rw [e] at hw h hs
  obtain ⟨rfl, ms', ds, a, b, rfl⟩ := merge_of hw ⟨Int.le_refl _, by omega, .inl rfl⟩ h
  have hl : (sides ++ [base]).length = sides.length + 1 := by simp
  obtain ⟨h1, h2⟩ := merge_more (p := more2P sides.length nn) (fun i hi => by rw [hl]; exact more2_lt hn i hi) (fun i hi => more2_all i (by rw [hl] at hi; exact hi)) hm hL a b
  exact ⟨rfl, h1, h2, (merge_len b hs hb16 0 false).1, (merge_len b hs hb16 0 false).2 0⟩

section
variable (H : MergeOk)
include H

set_option maxHeartbeats 8000000 in
theorem MergeTurn_walk (A0 : Option Addr) (n0 c0 : Nat) (base : Txs) (A : Option Addr) (n c : Nat) (rows : List Slc) (sides : List Txs) (y : Nat) (w : World) (h0 : TxR w w.heap.size (A0, n0, c0) base) (h1 : n ≤ c ∧ c ≤ maxLen ∧ RowsT w w.heap.size A n rows sides) (hy : y ≤ 255) :
    Calls Tryz.prog 8 #[.slice A0 n0 c0, .slice A n c, .int .u8 y] w fun e w' => e = .returned (.bool true) ∧ Below w.heap.size w w' := by
  have haw := Lib.hid (mAwake_any H w)
  have hpl := h1.2.2.len
  obtain ⟨fm, hfm⟩ : ∃ fm, (fewM base sides && decide (wrongN base sides = 0)) = fm := ⟨_, rfl⟩
  have hF := Lib.hid (fun (W : World) (hb : Below w.heap.size w W) => mMay_any A0 n0 c0 base A n c W.heap.size rows sides W (Nat.le_trans h0.1 h0.2.1) (Nat.le_trans h1.1 h1.2.1) (h0.up hb).2.2 (h1.2.2.up hb))
  rw [hfm] at hF
  cases fm
  · clear h0 h1 hfm
    go_enter Tryz.func8, Tryz.ntmps8
    go_wp2_with (first
      | (go_at_call 10; refine haw.out.mono ?_; rintro e w1 ⟨rfl, hb1⟩)
      | (go_at_call 18; refine (hF.out _ hb1).mono ?_; rintro e w2 ⟨rfl, rfl⟩))
    go_ret
    exact ⟨rfl, hb1⟩
  obtain ⟨hfew, hwr⟩ := may_few hfm
  obtain ⟨u1, u2, u3, u4⟩ := fewM_small hfew
  obtain ⟨w1', -, -, -, -, -⟩ := wrong_none hwr
  have hn6 : n ≤ 6 := by omega
  have hn1 : 1 ≤ n := by omega
  have hfw := Lib.hid (And.intro hfew hwr)
  have hu2 := Lib.hid u2
  clear u1 u2 u3 u4 w1' hfew hwr
  obtain ⟨nn, hnn⟩ : ∃ nn, y % n = nn := ⟨_, rfl⟩
  have hnlt : nn < n := by rw [← hnn]; exact Nat.mod_lt _ (by omega)
  have htm : ((y : Int)).tmod (n : Int) = (nn : Int) := by rw [← hnn]; rfl
  have hzb : ((n : Int) == 0) = false := by simp; omega
  have hcn : ¬ c = nn := by have := h1.1; omega
  obtain ⟨b, o, rfl⟩ : ∃ b o, A = some ⟨b, o, none⟩ := by
    obtain ⟨b, o, e, _⟩ := h1.2.2.1.2 (by omega)
    exact ⟨b, o, e⟩
  have hc1 := h1.1
  have hc2 := h1.2.1
  have hT0 := Lib.hid (fun (W : World) (hb : Below w.heap.size w W) => h0.up hb)
  have hR := Lib.hid (fun (W : World) (hb : Below w.heap.size w W) => h1.2.2.up hb)
  obtain ⟨i0, hi, hz⟩ := Option.map_eq_some_iff.1 infoTxs
  simp only [Prod.mk.injEq] at hz
  obtain ⟨hz1', hz2', hz3'⟩ := hz
  have hplh := Lib.hid hpl
  have hblt : b < w.heap.size := by
    obtain ⟨b', o', e, hb', _⟩ := h1.2.2.1.2 (by omega)
    injection e with e
    injection e with e
    omega
  have hrl : Hid (rows.length = n) := Lib.hid h1.2.2.rlen
  unfold maxLen at hc2
  clear h0 h1 hfm hpl hnn
  go_enter Tryz.func8, Tryz.ntmps8
  go_upto_region 5 with (first
    | (go_at_call 10; refine haw.out.mono ?_; rintro e w1 ⟨rfl, hb1⟩)
    | (go_at_call 18; refine (hF.out _ hb1).mono ?_; rintro e w2 ⟨rfl, rfl⟩))
  obtain ⟨wa, rfl⟩ : ∃ wa : World, wa = w1 := ⟨_, rfl⟩
  have hBa := Lib.hid hb1
  have hRw := (hR.out wa hb1).1
  have hR1 : Reads wa wa.heap.size (some ⟨b, o + nn, none⟩) (n - nn) ((rows.drop nn).map slcV) := by
    have h := Reads.part hRw (a := nn) (m := n - nn) (by omega)
    rw [List.take_of_length_le (by simp; have := hrl.out; omega), ← List.map_drop] at h
    exact h
  have hR2 : Reads wa wa.heap.size (some ⟨b, o, none⟩) nn ((rows.take nn).map slcV) := by
    have h := Reads.part hRw (a := 0) (m := nn) (by omega)
    rw [List.drop_zero, ← List.map_take] at h
    exact h
  have hR1h := Lib.hid hR1
  have hR2h := Lib.hid hR2
  have hle : Hid (0 + (n - nn) ≤ maxLen ∧ (0 + (n - nn)) * 24 ≤ 140737488355328 ∧ 0 + (n - nn) + nn ≤ maxLen ∧ (0 + (n - nn) + nn) * 24 ≤ 140737488355328) := Lib.hid (by unfold maxLen; omega)
  have hle1 : nn ≤ n := by omega
  have hle2 : nn ≤ c := by omega
  clear hRw hR1 hR2 hb1 hF haw
  go_cut [9] (fun s9 wx => ∃ A2 c2, s9 = .slice A2 n c2 ∧ Hid (n ≤ c2 ∧ c2 ≤ maxLen ∧ Reads wx wx.heap.size A2 n ((rows.drop nn ++ rows.take nn).map slcV) ∧ Below wa.heap.size wa wx))
  case first =>
    go_region_law (first
      | (refine appendR_step rfl (.tmp 28) (.tmp 31) 23 rfl wa.heap.size 22 i0 (.slice none 0 0) 24 Tryz.underlying23 hi hz1' hz2' hz3' rfl (.slice (some ⟨wa.heap.size, 0, none⟩) 0 0) 0 [] (by go_simp) (own_empty wa.drew wa.heap.size 22 (Nat.le_refl _)) wa.heap.size (some ⟨b, o + nn, none⟩) (n - nn) (c - nn) ((rows.drop nn).map slcV) (by go_simp) (hR1h.out.below ((Below.refl _ wa).drew.alloc (Nat.le_refl _) _)) (slcV_one _) hle.out.1 hle.out.2.1 (by simp) ?_
         intro v1 w2 hown1 hg1
         have hb2 : Below wa.heap.size wa w2 := ((Below.refl _ wa).drew.alloc (Nat.le_refl _) _).grown hg1 (by simp) (fun q e => by cases e; exact Nat.le_refl _))
      | (refine appendR_step rfl (.tmp 32) (.tmp 35) 23 rfl wa.heap.size 22 i0 (.slice none 0 0) 24 Tryz.underlying23 hi hz1' hz2' hz3' rfl v1 (0 + (n - nn)) ([] ++ (rows.drop nn).map slcV) (by go_simp) hown1 wa.heap.size (some ⟨b, o, none⟩) nn c ((rows.take nn).map slcV) (by go_simp) (hR2h.out.below hb2) (slcV_one _) hle.out.2.2.1 hle.out.2.2.2 hb2.size ?_
         intro v2 w3 hown2 hg2
         have hb3 : Below wa.heap.size wa w3 := hb2.grown hg2 hb2.size (fun q e => (hown1.lt q e).1)
         have hown3 : w3.ownsRow wa.heap.size 22 1 v2 n ((rows.drop nn ++ rows.take nn).map slcV) := by
           have e : 0 + (n - nn) + nn = n := by omega
           rw [e, List.nil_append, ← List.map_append] at hown2
           exact hown2))
    all_goals (go_wp2_with fail; go_meet)
    all_goals (obtain ⟨A2, c2, rfl, e1, e2, hRd⟩ := own_slice hown3; exact ⟨A2, c2, rfl, Lib.hid ⟨e1, e2, hRd, hb3⟩⟩)
  case rest =>
  obtain ⟨A2, c2, rfl, hT⟩ := hcut
  obtain ⟨wt, rfl⟩ : ∃ wt : World, wt = wc := ⟨_, rfl⟩
  have hBt := Lib.hid (hBa.out.trans (hT.out.2.2.2.mono hBa.out.size))
  have hTt := Lib.hid (rowsT_turn (hR.out wt hBt.out) hT.out.2.2.1)
  have hTb := Lib.hid (And.intro hT.out.1 hT.out.2.1)
  clear hR1h hR2h hle hT hle1 hle2
  obtain ⟨⟨r1, r2, r3⟩, hr⟩ : ∃ r, rows[nn]? = some r := ⟨rows[nn]'(by rw [hrl.out]; exact hnlt), List.getElem?_eq_getElem _⟩
  obtain ⟨p, hp⟩ : ∃ p, sides[nn]? = some p := ⟨sides[nn]'(by rw [hplh.out]; exact hnlt), List.getElem?_eq_getElem _⟩
  have hRt := Lib.hid (hR.out wt hBt.out).1
  have hrT := Lib.hid (fun (W : World) (hb : Below w.heap.size w W) => (hR.out W hb).2.2 nn _ _ hr hp)
  have hph := Lib.hid hp
  have hbt : b < wt.heap.size := by have := hBt.out.size; omega
  have hbt1 : b < wt.heap.size + 1 := by omega
  have hbt2 : b < wt.heap.size + 1 + 1 := by omega
  have cr : wt.cell? ⟨b, o + nn, none⟩ = some (.slice r1 r2 r3) := by
    obtain ⟨b', o', e, hb', hc⟩ := hRt.out.2 (by omega)
    injection e with e
    injection e with e1 e2
    subst e1
    subst e2
    exact hc nn _ (by rw [List.getElem?_map, hr]; rfl)
  have hle5 : Hid (0 + n ≤ maxLen ∧ (0 + n) * 24 ≤ 140737488355328 ∧ n + 2 ≤ maxLen ∧ (n + 2) * 24 ≤ 140737488355328) := Lib.hid (by unfold maxLen; omega)
  clear hr hp
  go_upto_region 6 with fail
  go_cut [10] (fun s10 wx => ∃ A3 c3, s10 = .slice A3 (n + 2) c3 ∧ Hid (n + 2 ≤ c3 ∧ c3 ≤ maxLen ∧ Reads wx wx.heap.size A3 (n + 2) (rows.map slcV ++ [slcV (r1, r2, r3), slcV (A0, n0, c0)]) ∧ Below wt.heap.size wt wx))
  case first =>
   as_aux_lemma =>
    go_region_law (first
      | (refine appendR_step rfl (.tmp 37) (.tmp 38) 23 rfl wt.heap.size 22 i0 (.slice none 0 0) 24 Tryz.underlying23 hi hz1' hz2' hz3' rfl (.slice (some ⟨wt.heap.size, 0, none⟩) 0 0) 0 [] (by go_simp) (own_empty wt.drew wt.heap.size 22 (Nat.le_refl _)) wt.heap.size (some ⟨b, o, none⟩) n c (rows.map slcV) (by go_simp) (hRt.out.below ((Below.refl wt.heap.size wt).drew.alloc (Nat.le_refl _) _)) (slcV_one _) hle5.out.1 hle5.out.2.1 (by simp <;> omega) ?_
         intro v1 w2 hown1 hg1
         have hb2 : Below wt.heap.size wt w2 := (((Below.refl wt.heap.size wt).drew.alloc (Nat.le_refl _) _)).grown hg1 (by simp <;> omega) (fun q e => by cases e; first | exact Nat.le_refl _ | exact Nat.le_succ _)
         have hown1' : w2.ownsRow wt.heap.size 22 1 v1 n (rows.map slcV) := by rw [Nat.zero_add, List.nil_append] at hown1; exact hown1
         have cr2 := (hb2.cell (p := ⟨b, o + nn, none⟩) hbt).trans cr
         skip)
      | (refine appendR_step rfl (.tmp 37) (.tmp 38) 23 rfl wt.heap.size 22 i0 (.slice none 0 0) 24 Tryz.underlying23 hi hz1' hz2' hz3' rfl (.slice (some ⟨wt.heap.size, 0, none⟩) 0 0) 0 [] (by go_simp) ((own_empty wt.drew wt.heap.size 22 (Nat.le_refl _)).alloc (.cells #[.slice r1 r2 r3, .slice A0 n0 c0] 22)) wt.heap.size (some ⟨b, o, none⟩) n c (rows.map slcV) (by go_simp) (hRt.out.below (((Below.refl wt.heap.size wt).drew.alloc (Nat.le_refl _) _).alloc (by simp) _)) (slcV_one _) hle5.out.1 hle5.out.2.1 (by simp <;> omega) ?_
         intro v1 w2 hown1 hg1
         have hb2 : Below wt.heap.size wt w2 := ((((Below.refl wt.heap.size wt).drew.alloc (Nat.le_refl _) _).alloc (by simp) _)).grown hg1 (by simp <;> omega) (fun q e => by cases e; first | exact Nat.le_refl _ | exact Nat.le_succ _)
         have hown1' : w2.ownsRow wt.heap.size 22 1 v1 n (rows.map slcV) := by rw [Nat.zero_add, List.nil_append] at hown1; exact hown1
         have cr2 := (hb2.cell (p := ⟨b, o + nn, none⟩) hbt).trans cr
         have hceA : Reads w2 w2.heap.size (some ⟨wt.heap.size + 1, 0, none⟩) 2 [slcV (r1, r2, r3), slcV (A0, n0, c0)] := (by
           have h := two_new (wt.drew.alloc (.cells #[] 22)) 22 (r1, r2, r3) (A0, n0, c0) ((wt.drew.alloc (.cells #[] 22)).heap.size + 1) (Nat.lt_succ_self _)
           rw [size_up] at h
           refine ⟨h.1, fun hn => ?_⟩
           obtain ⟨b9, o9, e9, hb9, hc9⟩ := h.2 hn
           injection e9 with e9
           injection e9 with e9 e10
           subst e9
           subst e10
           have hs9 := hg1.size
           simp at hs9
           exact ⟨wt.heap.size + 1, 0, rfl, by omega, fun j u hu => (World.cell?_of_block (hg1.block (wt.heap.size + 1) (by simp) (by simp [Value.ownBlock]))).trans (hc9 j u hu)⟩))
      | (refine appendR_step rfl (.tmp 37) (.tmp 38) 23 rfl wt.heap.size 22 i0 (.slice none 0 0) 24 Tryz.underlying23 hi hz1' hz2' hz3' rfl (.slice (some ⟨wt.heap.size + 1, 0, none⟩) 0 0) 0 [] (by go_simp) (by have h := own_empty (wt.drew.alloc (.cells #[.slice r1 r2 r3, .slice A0 n0 c0] 22)) wt.heap.size 22 (by simp); rw [size_up] at h; exact h) wt.heap.size (some ⟨b, o, none⟩) n c (rows.map slcV) (by go_simp) (hRt.out.below (((Below.refl wt.heap.size wt).drew.alloc (Nat.le_refl _) _).alloc (by simp) _)) (slcV_one _) hle5.out.1 hle5.out.2.1 (by simp <;> omega) ?_
         intro v1 w2 hown1 hg1
         have hb2 : Below wt.heap.size wt w2 := ((((Below.refl wt.heap.size wt).drew.alloc (Nat.le_refl _) _).alloc (by simp) _)).grown hg1 (by simp <;> omega) (fun q e => by cases e; first | exact Nat.le_refl _ | exact Nat.le_succ _)
         have hown1' : w2.ownsRow wt.heap.size 22 1 v1 n (rows.map slcV) := by rw [Nat.zero_add, List.nil_append] at hown1; exact hown1
         have cr2 := (hb2.cell (p := ⟨b, o + nn, none⟩) hbt).trans cr
         have hceB : Reads w2 w2.heap.size (some ⟨wt.heap.size, 0, none⟩) 2 [slcV (r1, r2, r3), slcV (A0, n0, c0)] := (by
           have h := two_new wt.drew 22 (r1, r2, r3) (A0, n0, c0) (wt.heap.size + 1) (Nat.lt_succ_self _)
           refine ⟨h.1, fun hn => ?_⟩
           obtain ⟨b9, o9, e9, hb9, hc9⟩ := h.2 hn
           injection e9 with e9
           injection e9 with e9 e10
           subst e9
           subst e10
           have hs9 := hg1.size
           simp at hs9
           exact ⟨wt.heap.size, 0, rfl, by omega, fun j u hu => (World.cell?_of_block (hg1.block wt.heap.size (by simp <;> omega) (by simp [Value.ownBlock]))).trans ((World.cell?_alloc_lt (o := .cells #[] 22) (a := ⟨wt.heap.size, 0 + j, none⟩) (w := wt.drew.alloc (.cells #[.slice r1 r2 r3, .slice A0 n0 c0] 22)) (by simp <;> omega)).trans (hc9 j u hu))⟩))
      | (refine appendR_step rfl (.tmp 39) (.tmp 45) 23 rfl wt.heap.size 22 i0 (.slice none 0 0) 24 Tryz.underlying23 hi hz1' hz2' hz3' rfl v1 n (rows.map slcV) (by go_simp) (hown1'.alloc (.cells #[.slice r1 r2 r3, .slice A0 n0 c0] 22)) (w2.heap.size + 1) (some ⟨w2.heap.size, 0, none⟩) 2 2 [slcV (r1, r2, r3), slcV (A0, n0, c0)] (by go_simp) (two_new w2 22 (r1, r2, r3) (A0, n0, c0) _ (Nat.lt_succ_self _)) (slcV_one [(r1, r2, r3), (A0, n0, c0)]) hle5.out.2.2.1 hle5.out.2.2.2 (by have := hb2.size; simp <;> omega) ?_
         intro v2 w3 hown2 hg2
         have hb3 : Below wt.heap.size wt w3 := (hb2.alloc hb2.size (.cells #[.slice r1 r2 r3, .slice A0 n0 c0] 22)).grown hg2 (by have := hb2.size; simp <;> omega) (fun q e => (hown1'.lt q e).1))
      | (have hc_ := hceA
         refine appendR_step rfl (.tmp 39) (.tmp 45) 23 rfl wt.heap.size 22 i0 (.slice none 0 0) 24 Tryz.underlying23 hi hz1' hz2' hz3' rfl v1 n (rows.map slcV) (by go_simp) hown1' w2.heap.size (some ⟨wt.heap.size + 1, 0, none⟩) 2 2 [slcV (r1, r2, r3), slcV (A0, n0, c0)] (by go_simp) hc_ (slcV_one [(r1, r2, r3), (A0, n0, c0)]) hle5.out.2.2.1 hle5.out.2.2.2 (by have := hb2.size; simp <;> omega) ?_
         intro v2 w3 hown2 hg2
         have hb3 : Below wt.heap.size wt w3 := hb2.grown hg2 (by have := hb2.size; simp <;> omega) (fun q e => (hown1'.lt q e).1))
      | (have hc_ := hceB
         refine appendR_step rfl (.tmp 39) (.tmp 45) 23 rfl wt.heap.size 22 i0 (.slice none 0 0) 24 Tryz.underlying23 hi hz1' hz2' hz3' rfl v1 n (rows.map slcV) (by go_simp) hown1' w2.heap.size (some ⟨wt.heap.size, 0, none⟩) 2 2 [slcV (r1, r2, r3), slcV (A0, n0, c0)] (by go_simp) hc_ (slcV_one [(r1, r2, r3), (A0, n0, c0)]) hle5.out.2.2.1 hle5.out.2.2.2 (by have := hb2.size; simp <;> omega) ?_
         intro v2 w3 hown2 hg2
         have hb3 : Below wt.heap.size wt w3 := hb2.grown hg2 (by have := hb2.size; simp <;> omega) (fun q e => (hown1'.lt q e).1)))
    all_goals (go_wp2_with fail; go_meet)
    all_goals (obtain ⟨A3, c3, rfl, e1, e2, hRd⟩ := own_slice hown2; exact ⟨A3, c3, rfl, Lib.hid ⟨e1, e2, hRd, hb3⟩⟩)
  case rest =>
  obtain ⟨A3, c3, rfl, hM⟩ := hcut
  obtain ⟨wm, rfl⟩ : ∃ wm : World, wm = wc := ⟨_, rfl⟩
  have hBm := Lib.hid (hBt.out.trans (hM.out.2.2.2.mono hBt.out.size))
  have hMm := Lib.hid (rowsT_more (hR.out wm hBm.out) (hrT.out wm hBm.out) (hT0.out wm hBm.out) hM.out.2.2.1)
  have hMb := Lib.hid (And.intro hM.out.1 hM.out.2.1)
  have hTm := Lib.hid (hTt.out.up hM.out.2.2.2)
  have hsT := some_small (base := base) (sides := sides) (S := sides.drop nn ++ sides.take nn) hfw.out.1 hfw.out.2 (by have := hplh.out; simp; omega) (by have := hplh.out; simp; omega) (fun d hd => .inr (by
    rcases List.mem_append.1 hd with h | h
    · exact List.mem_of_mem_drop h
    · exact List.mem_of_mem_take h))
  have hsR := some_small (base := base) (sides := sides) (S := sides ++ [p, base]) hfw.out.1 hfw.out.2 (by simp) (by have := hplh.out; simp; omega) (fun d hd => by
    rcases List.mem_append.1 hd with h | h
    · exact .inr h
    · simp at h
      rcases h with rfl | rfl
      · exact .inr (List.mem_of_getElem? hph.out)
      · exact .inl rfl)
  have hs0 := some_small (base := base) (sides := sides) (S := sides) hfw.out.1 hfw.out.2 (by have := hplh.out; omega) (by have := hplh.out; omega) (fun d hd => .inr hd)
  have hM0 : Hid (Calls Tryz.prog 15 #[.slice A0 n0 c0, .slice (some ⟨b, o, none⟩) n c, .agg #[.int .i64 0, .bool false]] wm fun e w' => ∃ A1 n1 c1 vs ps r, e = .returned (.tuple #[.slice A1 n1 c1, .int .i64 0]) ∧ (n1 ≤ c1 ∧ c1 ≤ maxLen ∧ n1 ≤ 10000 ∧ cleanB ps = r ∧ (choose ps 0).length ≤ 1000000 ∧ Pcs w' w'.heap.size A1 n1 vs ps) ∧
      (∀ (er : Int) (ps' : List Pc), MergesTo base (sides.drop nn ++ sides.take nn) 0 false er ps' → er = 0 ∧ cleanB ps' = r ∧ (r = true → ps' = ps) ∧ ps'.length ≤ 100 ∧ (choose ps' 0).length ≤ 1000000) ∧
      (∀ (er : Int) (ps' : List Pc), MergesTo base (sides ++ [p, base]) 0 false er ps' → er = 0 ∧ cleanB ps' = r ∧ (r = true → ps' = ps) ∧ ps'.length ≤ 100 ∧ (choose ps' 0).length ≤ 1000000) ∧ Below wm.heap.size wm w') := Lib.hid (by
    refine (H.merge_ok A0 n0 c0 base (some ⟨b, o, none⟩) n c rows sides 0 false wm hc1 (by unfold maxLen; omega) (by unfold inR64; omega) hs0.1 (hT0.out wm hBm.out) (hR.out wm hBm.out)).mono ?_
    rintro e w' ⟨er, A1, n1, c1, vs, ps, rfl, q1, q2, q3, q4, q5⟩
    obtain ⟨rfl, ms, cs, a, b', rfl⟩ := merge_of hfw.out.2 ⟨Int.le_refl _, by omega, .inl rfl⟩ q4
    obtain ⟨l1, l2⟩ := merge_len b' hs0.2.1 hu2.out 0 false
    exact ⟨A1, n1, c1, vs, _, _, rfl, ⟨q1, q2, by have := q3.len; omega, rfl, l2 0, q3⟩, fun er ps' h => turn_merge (by rw [hplh.out]; exact hnlt) a b' hsT.2.2 hsT.2.1 hu2.out h, fun er ps' h => more_merge hph.out a b' hsR.2.2 hsR.2.1 hu2.out h, q5⟩)
  have hMo : Hid (∀ (S : List Txs) (A5 : Option Addr) (n5 c5 : Nat) (rs : List Slc) (W : World) (r : Bool) (ps : List Pc), smallM base S → n5 ≤ c5 → c5 ≤ maxLen → Below w.heap.size w W → RowsT W W.heap.size A5 n5 rs S → (∀ (er : Int) (ps' : List Pc), MergesTo base S 0 false er ps' → er = 0 ∧ cleanB ps' = r ∧ (r = true → ps' = ps) ∧ ps'.length ≤ 100 ∧ (choose ps' 0).length ≤ 1000000) →
      Calls Tryz.prog 15 #[.slice A0 n0 c0, .slice A5 n5 c5, .agg #[.int .i64 0, .bool false]] W fun e w' => ∃ A1 n1 c1 vs ps', e = .returned (.tuple #[.slice A1 n1 c1, .int .i64 0]) ∧ (n1 ≤ c1 ∧ c1 ≤ maxLen ∧ n1 ≤ 10000 ∧ cleanB ps' = r ∧ (choose ps' 0).length ≤ 1000000 ∧ Pcs w' w'.heap.size A1 n1 vs ps') ∧ (r = true → ps' = ps) ∧ Below W.heap.size W w') := Lib.hid (fun S A5 n5 c5 rs W r ps hS e1 e2 hW hRS hF => by
    refine (H.merge_ok A0 n0 c0 base A5 n5 c5 rs S 0 false W e1 e2 (by unfold inR64; omega) hS (hT0.out W hW) hRS).mono ?_
    rintro e w' ⟨er, A1, n1, c1, vs, ps', rfl, q1, q2, q3, q4, q5⟩
    obtain ⟨rfl, f2, f3, f4, f5⟩ := hF er ps' q4
    exact ⟨A1, n1, c1, vs, ps', rfl, ⟨q1, q2, by have := q3.len; omega, f2, f5, q3⟩, f3, q5⟩)
  have hAll : Hid (∀ (A2 : Option Addr) (n2 c2 : Nat) (vs : List PcV) (ps : List Pc) (r : Bool) (W : World), (n2 ≤ c2 ∧ c2 ≤ maxLen ∧ n2 ≤ 10000 ∧ cleanB ps = r ∧ (choose ps 0).length ≤ 1000000 ∧ Pcs W W.heap.size A2 n2 vs ps) → Calls Tryz.prog 22 #[.slice A2 n2 c2, .int .i64 0] W fun e w' => ∃ A' n' c', e = .returned (.tuple #[.slice A' n' c', .bool r]) ∧ TxR w' w'.heap.size (A', n', c') (choose ps 0) ∧ Below W.heap.size W w') := Lib.hid fun A2 n2 c2 vs ps r W q => by
    refine (mAll_any H A2 n2 c2 vs ps 0 W q.1 q.2.1 q.2.2.1 q.2.2.2.2.1 q.2.2.2.2.2).mono ?_
    rintro e w' ⟨A', n', c', rfl, r1, r2⟩
    exact ⟨A', n', c', by rw [q.2.2.2.1]; simp, r1, r2⟩
  have hSame : Hid (∀ (A' A4 : Option Addr) (n' c' n4 c4 : Nat) (s : Txs) (W : World), TxR W W.heap.size (A', n', c') s → TxR W W.heap.size (A4, n4, c4) s → Calls Tryz.prog 23 #[.slice A' n' c', .slice A4 n4 c4] W fun e w' => e = .returned (.bool true) ∧ ∃ q, w' = W.drewN q) := Lib.hid fun A' A4 n' c' n4 c4 s W h9 hT => by
    have := Same_any A' A4 n' n4 c' c4 _ _ s s W (Nat.le_trans h9.1 h9.2.1) (Nat.le_trans hT.1 hT.2.1) h9.2.2 hT.2.2
    rw [show decide (s = s) = true from decide_eq_true rfl] at this
    exact this
  have hsTm := Lib.hid hsT.1
  have hsRm := Lib.hid hsR.1
  have tok1 := trivial
  have tok2 := trivial
  have tok3 := trivial
  have tok4 := trivial
  clear hsT hsR hs0 hM hRt hrT cr hle5 hfw hu2 hTt hBt hBa htm hzb hcn hbt hbt1 hbt2
  go_upto_region 10 with (first
    | (go_at_call 15; have _t := tok1; refine hM0.out.mono ?_; rintro e x3 ⟨A4, n4, c4, vs4, ps1, r, rfl, q1, qT, qR, q5⟩; have hP1 := Lib.hid q1; have hqT := Lib.hid qT; have hqR := Lib.hid qR; have hB3 := Lib.hid q5; clear tok1 q1 qT qR q5)
    | (go_at_call 22; have _t := tok2; refine (hAll.out _ _ _ _ _ _ _ hP1.out).mono ?_; rintro e x4 ⟨A5, n5, c5, rfl, r1, r2⟩; have hT1 := Lib.hid r1; have hB4 := Lib.hid (hB3.out.trans (r2.mono hB3.out.size)); clear tok2 r1 r2)
    | (go_at_call 15; have _t := tok3; refine (hMo.out _ _ _ _ _ _ _ _ hsTm.out hTb.out.1 hTb.out.2 (hBm.out.trans (hB4.out.mono hBm.out.size)) (hTm.out.up hB4.out) hqT.out).mono ?_; rintro e x5 ⟨A6, n6, c6, vs6, ps2, rfl, q1, q2, q3⟩; have hP2 := Lib.hid q1; have hE2 := Lib.hid q2; have hT1b := Lib.hid (hT1.out.up q3); have hB5 := Lib.hid (hB4.out.trans (q3.mono hB4.out.size)); clear tok3 q1 q2 q3)
    | (go_at_call 22; have _t := tok4; refine (hAll.out _ _ _ _ _ _ _ hP2.out).mono ?_; rintro e x6 ⟨A7, n7, c7, rfl, r1, r2⟩; have hT2 := Lib.hid r1; have hT1c := Lib.hid (hT1b.out.up r2); have hB6 := Lib.hid (hB5.out.trans (r2.mono hB5.out.size)); clear tok4 r1 r2)
    | (go_at_call 15; refine (hMo.out _ _ _ _ _ _ _ _ hsRm.out hMb.out.1 hMb.out.2 (hBm.out.trans (hB6.out.mono hBm.out.size)) (hMm.out.up hB6.out) hqR.out).mono ?_; rintro e x7 ⟨A8, n8, c8, vs8, ps3, rfl, q1, q2, q3⟩; have hP3 := Lib.hid q1; have hE3 := Lib.hid q2; have hT1d := Lib.hid (hT1c.out.up q3); have hT2b := Lib.hid (hT2.out.up q3); have hB7 := Lib.hid (hB6.out.trans (q3.mono hB6.out.size)); clear q1 q2 q3)
    | (go_at_call 22; refine (hAll.out _ _ _ _ _ _ _ hP3.out).mono ?_; rintro e x8 ⟨A9, n9, c9, rfl, r1, r2⟩; have hT3 := Lib.hid r1; have hT1e := Lib.hid (hT1d.out.up r2); have hT2c := Lib.hid (hT2b.out.up r2); have hB8 := Lib.hid (hB7.out.trans (r2.mono hB7.out.size)); clear r1 r2))
  have hfin := Lib.hid (hBm.out.trans (hB8.out.mono hBm.out.size))
  cases r
  · clear hMo hAll hM0 hSame
    go_wp2
    go_ret
    exact ⟨rfl, hfin.out⟩
  · have e2 := hE2.out rfl
    have e3 := hE3.out rfl
    subst e2
    subst e3
    have tok5 := trivial
    clear hMo hAll hM0
    go_wp2_with (first
      | (go_at_call 23; have _t := tok5; refine (hSame.out _ _ _ _ _ _ _ _ hT1e.out hT2c.out).mono ?_; rintro e x9 ⟨rfl, q9, rfl⟩; clear tok5)
      | (go_at_call 23; refine (hSame.out _ _ _ _ _ _ _ _ ⟨hT1e.out.1, hT1e.out.2.1, hT1e.out.2.2.drewN q9⟩ ⟨hT3.out.1, hT3.out.2.1, hT3.out.2.2.drewN q9⟩).mono ?_; rintro e x10 ⟨rfl, q10, rfl⟩))
    go_ret
    first
      | exact ⟨rfl, below_drewN hfin.out (q9 + q10)⟩
      | exact ⟨rfl, below_drewN (below_drewN hfin.out q9) q10⟩
end
end Go.Proofs.YticgjbckfpkpjaaGreat
