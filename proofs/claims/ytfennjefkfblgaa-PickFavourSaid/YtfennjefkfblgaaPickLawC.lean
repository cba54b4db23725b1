/- Proved here, out of the contracts of package pick: the walk of PickUnion. -/
import Derived.Test.YtfennjefkfblgaaPickLawA
namespace Go.Proofs.Ytfennjefkfblgaa
open Go.RowKit
set_option linter.unusedVariables false

/-- Lists of texts that came in. -/
def ArgTs (w : World) (A : Option Addr) (n c : Nat) (rows : List Slc) (sss : List Txs) : Prop := n ≤ c ∧ c ≤ maxLen ∧ RowsT w w.heap.size A n rows sss
theorem small_few {base : Txs} {ps : List Txs} (h : fewT base ps = true) : smallT base ps := by
  obtain ⟨f1, f2, f3⟩ := fewT_parts h
  obtain ⟨g1, g2⟩ := fewT_txs h
  refine ⟨fun d hd => ?_, fun d hd s hs => ?_⟩
  · rcases List.mem_cons.1 hd with rfl | hd
    · omega
    · have := f3 d hd; omega
  · rcases List.mem_cons.1 hd with rfl | hd
    · have := g1 s hs; omega
    · have := g2 d hd s hs; omega
/-- With Union: the text has as many lines as all that differ; where each is ended, it is these. -/
theorem union_text (base : Txs) (ps : List Txs) : ∃ T, pieceD base ps 0 true = tPc T ∧ T.length = (if diffs base ps = [] then base else (diffs base ps).flatten).length ∧ ((diffs base ps).any openB = false → T = if diffs base ps = [] then base else (diffs base ps).flatten) := by
  unfold pieceD
  match diffs base ps with
  | [] => exact ⟨base, rfl, rfl, fun _ => rfl⟩
  | [d] => exact ⟨d, rfl, by simp, fun _ => by simp⟩
  | d :: e :: l =>
    refine ⟨unionT (d :: e :: l), by simp, by simp only [List.cons_ne_nil, if_false]; exact union_len _, fun h => ?_⟩
    simp only [List.cons_ne_nil, if_false]
    refine union_same _ fun x hx => ?_
    rw [List.any_eq_false] at h
    simpa using h x hx
theorem take_flat {ds : List Txs} {i : Nat} {d : Txs} (h : ds[i]? = some d) : (ds.take (i + 1)).flatten = (ds.take i).flatten ++ d := by rw [take_at h]; simp
theorem take_any {ds : List Txs} {i : Nat} {d : Txs} (h : ds[i]? = some d) : (ds.take (i + 1)).any openB = ((ds.take i).any openB || openB d) := by rw [take_at h]; simp

section
variable (H : PickOk)
include H

set_option maxRecDepth 100000 in
set_option maxHeartbeats 4000000 in
theorem PickUnion_walk (A0 : Option Addr) (n0 c0 : Nat) (base : Txs) (A : Option Addr) (n c : Nat) (rows : List Slc) (parts : List Txs) (w : World) (h0 : TxR w w.heap.size (A0, n0, c0) base) (h1 : ArgTs w A n c rows parts) :
    Calls Try.prog 7 #[.slice A0 n0 c0, .slice A n c] w fun e w' => e = .returned (.bool true) ∧ Below w.heap.size w w' := by
  have hn0 : n0 ≤ maxLen := Nat.le_trans h0.1 h0.2.1
  have hn : n ≤ maxLen := Nat.le_trans h1.1 h1.2.1
  have hpl := h1.2.2.len
  have haw := Lib.hid (awake_any H w)
  obtain ⟨fb, hfb⟩ : ∃ fb, fewT base parts = fb := ⟨_, rfl⟩
  have hF := Lib.hid (fun (W : World) (hb : Below w.heap.size w W) => rFew_any A0 n0 c0 w.heap.size base A n c w.heap.size rows parts W hn0 hn (Strs.below h0.2.2 hb) (h1.2.2.below hb))
  rw [hfb] at hF
  cases fb
  · clear h0 h1 hfb
    go_enter Try.func7, Try.ntmps7
    go_wp2_with (first
      | (go_at_call 9; refine haw.out.mono ?_; rintro e w1 ⟨rfl, hb1⟩)
      | (go_at_call 10; refine (hF.out _ hb1).mono ?_; rintro e w2 ⟨rfl, rfl⟩))
    go_ret
    exact ⟨rfl, hb1⟩
  · obtain ⟨f1, f2, f3⟩ := fewT_parts hfb
    obtain ⟨g1, g2⟩ := fewT_txs hfb
    have hsm := small_few hfb
    obtain ⟨T, hT, hTl, hTs⟩ := union_text base parts
    have hPc := Lib.hid (fun (W : World) (hb : Below w.heap.size w W) => H.piece_ok A0 n0 c0 base A n c rows parts 0 true W h1.1 h1.2.1 (by omega) (by unfold inR64; omega) hsm (h0.up hb) (h1.2.2.up hb))
    rw [hT] at hPc
    have hrD := Lib.hid (fun (W : World) (hb : Below w.heap.size w W) => rDif_any A0 n0 c0 base A n c rows parts W hn0 (by omega) (h0.up hb).2.2 (h1.2.2.up hb))
    have hdl : Hid ((diffs base parts).length ≤ 6 ∧ (∀ d ∈ diffs base parts, d.length ≤ 20) ∧ ∀ d ∈ diffs base parts, ∀ s ∈ d, s.length ≤ maxLen) := Lib.hid ⟨by have := diffs_len base parts; omega, fun d hd => f3 d (mem_diffs.1 hd).1, fun d hd s hs => by have := g2 d (mem_diffs.1 hd).1 s hs; unfold maxLen; omega⟩
    obtain ⟨ds, hds⟩ : ∃ ds, diffs base parts = ds := ⟨_, rfl⟩
    rw [hds] at hrD hdl hTl hTs
    have h0h := Lib.hid h0
    have hTlh := Lib.hid hTl
    have hTsh := Lib.hid hTs
    obtain ⟨i0, hi, hzz⟩ := Option.map_eq_some_iff.1 infoStr
    simp only [Prod.mk.injEq] at hzz
    obtain ⟨hz0, hz1, hz2⟩ := hzz
    have hflat : Hid (∀ k, (ds.take k).flatten.length ≤ 1000) := Lib.hid (fun k => by
      have key : ∀ l : List Txs, (∀ d ∈ l, d.length ≤ 20) → l.flatten.length ≤ l.length * 20 := by
        intro l
        induction l with
        | nil => simp
        | cons d l ih =>
          intro h
          have := ih fun e he => h e (List.mem_cons_of_mem _ he)
          have := h d (List.mem_cons_self ..)
          rw [List.flatten_cons, List.length_append, List.length_cons]
          omega
      have h2 := key (ds.take k) fun d hd => hdl.out.2.1 d (List.mem_of_mem_take hd)
      have h3 := hdl.out.1
      have h4 : (ds.take k).length ≤ ds.length := by rw [List.length_take]; omega
      omega)
    clear h0 h1 hfb f1 f2 f3 g1 g2 hsm hT hTl hTs hds
    go_enter Try.func7, Try.ntmps7
    go_wp2_with (first
      | (go_at_call 9; refine haw.out.mono ?_; rintro e w1 ⟨rfl, hb1⟩)
      | (go_at_call 10; refine (hF.out _ hb1).mono ?_; rintro e w2 ⟨rfl, rfl⟩)
      | (go_at_call 11; refine (hPc.out _ hb1).mono ?_; rintro e w3 ⟨⟨⟨At, nt, ct⟩, ⟨Ab, nb, cb⟩, ⟨As, ns, cs⟩⟩, rfl, hV, hb3⟩; have hB3 := hb1.trans (hb3.mono hb1.size); have hT0 := Lib.hid hV.1; clear hV; dsimp only [tPc] at hT0)
      | (go_at_call 22; refine (hrD.out _ (hB3.alloc hB3.size _)).mono ?_; rintro e w5 ⟨A1, n1, c1, rs, rfl, a1, a2, a3, hb5⟩))
    have hsz : w3.heap.size < w5.heap.size := by have := hb5.size; simp at this; omega
    have hP5 : w5.heap[w3.heap.size]? = some (.cells #[.bool false, .slice At nt ct, .slice Ab nb cb, .slice As ns cs] 29 (0, 0)) := (hb5.block _ (by simp)).trans (Go.Deep.blk_alloc_new w3 _)
    have y0 : w5.cell? ⟨w3.heap.size, 0, none⟩ = some (.bool false) := by rw [cells_of hP5]; rfl
    have y1 : w5.cell? ⟨w3.heap.size, 1, none⟩ = some (.slice At nt ct) := by rw [cells_of hP5]; rfl
    have hB5 := Lib.hid ((hB3.alloc hB3.size (.cells #[.bool false, .slice At nt ct, .slice Ab nb cb, .slice As ns cs] 29)).trans (hb5.mono (hB3.alloc hB3.size (.cells #[.bool false, .slice At nt ct, .slice Ab nb cb, .slice As ns cs] 29)).size))
    have hT5 : Hid (TxR w5 w5.heap.size (At, nt, ct) T) := Lib.hid ((hT0.out.up ((Below.refl _ w3).alloc (Nat.le_refl _) _)).up hb5)
    have a3h := Lib.hid a3
    have hdn := a3.len
    have hst : Hid (TxO w5 w5 (.slice none 0 0) (ds.take 0).flatten) := Lib.hid ⟨World.ownsRow_nil _ _ _ _, Below.refl _ _⟩
    have hn6 : n1 ≤ 6 := by have := hdl.out.1; omega
    clear hP5 hb5 hT0 hB3 a3 hPc hrD
    go_loopw [7, 8, 10] (fun s7 s8 s10 wr => ∃ (i : Nat) (v : Value) (op : Bool), i ≤ n1 ∧ v = s7 ∧ s8 = .bool op ∧ s10 = .int .i64 i ∧ Hid (op = (ds.take i).any openB) ∧ Hid (TxO w5 wr v (ds.take i).flatten)) (fun _ _ s10 _ => n1 - (intOf s10).toNat)
    case atStart => exact ⟨0, _, false, Nat.zero_le _, rfl, rfl, rfl, Lib.hid rfl, hst⟩
    case round =>
      obtain ⟨i, v, op, hin, rfl, rfl, rfl, hop, hO⟩ := hrel
      obtain ⟨wo, rfl⟩ : ∃ wo : World, wo = wr := ⟨_, rfl⟩
      clear hst
      by_cases hlt : i < n1
      · obtain ⟨b, o, A2, n2, c2, d, rfl, hb, hd, -, hc, hnc, hcm, hS⟩ := (a3h.out.below hO.out.below).at_ (k := i) hlt
        have i1 : (0 : Int) ≤ (i : Int) := by omega
        have i2 : (i : Int) < (n1 : Int) := by omega
        have hown := hO.out.own
        have hbz := hO.out.below.size
        have hdl2 := hS.len
        have htf := Lib.hid (take_flat hd)
        have hta := Lib.hid (take_any hd)
        have hle : Hid ((ds.take i).flatten.length + n2 ≤ maxLen ∧ ((ds.take i).flatten.length + n2) * 16 ≤ 140737488355328) := Lib.hid (by
          have h1 := hflat.out (i + 1)
          rw [htf.out, List.length_append] at h1
          unfold maxLen
          omega)
        have hlh := Lib.hid hdl2
        have hOp : Hid (∀ W : World, Below w5.heap.size w5 W → Strs W w5.heap.size A2 n2 d → Calls Try.prog 23 #[.slice A2 n2 c2] W fun e w' => e = .returned (.bool (openB d)) ∧ W = w') := Lib.hid (fun W hW hs => rOpen_any A2 n2 c2 w5.heap.size d W (by omega) (hdl.out.2.2 d (List.mem_of_getElem? hd)) hs)
        have hkey : Hid (∀ W : World, Below w5.heap.size w5 W → W.cell? ⟨b, o + i, none⟩ = some (.slice A2 n2 c2) ∧ Strs W w5.heap.size A2 n2 d) := Lib.hid (fun W hW => ⟨(hW.cell (p := ⟨b, o + i, none⟩) hb).trans ((hO.out.below.cell (p := ⟨b, o + i, none⟩) hb).symm.trans hc), hS.keep fun q hq => (hW.cell hq).trans (hO.out.below.cell hq).symm⟩)
        obtain ⟨od, hod⟩ : ∃ od, openB d = od := ⟨_, rfl⟩
        rw [hod] at hOp
        have hodh := Lib.hid hod
        clear hd hod
        cases op
        · have hnew : Hid (od = (ds.take (i + 1)).any openB) := Lib.hid (by rw [hta.out, ← hop.out, hodh.out]; rfl)
          go_wp2_with (first
            | (at_builtin; refine wpList_append_reads _ rfl _ _ 22 rfl w5.heap.size 9 i0 (.string ByteArray.empty) 16 Try.underlying22 hi hz0 hz1 hz2 rfl v (ds.take i).flatten.length _ rfl hown w5.heap.size A2 n2 c2 _ rfl hS (strs_one _) hle.out.1 hle.out.2 hbz ?_; intro v' w6 hown6 hg6; have hfin := Lib.hid (hO.out.put hlh.out hown6 hg6); obtain ⟨kc, ks⟩ := hkey.out w6 hfin.out.below; have ksh := Lib.hid ks; clear ks)
            | (go_at_call 23; refine (hOp.out _ hfin.out.below ksh.out).mono ?_; rintro e w7 ⟨rfl, rfl⟩))
          go_roundw
          case rel => exact ⟨i + 1, v', od, by omega, rfl, rfl, by go_num, hnew, Lib.hid (by rw [htf.out]; exact hfin.out)⟩
          case measure => simp [intOf]; omega
        · have hnew : Hid (true = (ds.take (i + 1)).any openB) := Lib.hid (by rw [hta.out, ← hop.out]; rfl)
          go_wp2_with (at_builtin; refine wpList_append_reads _ rfl _ _ 22 rfl w5.heap.size 9 i0 (.string ByteArray.empty) 16 Try.underlying22 hi hz0 hz1 hz2 rfl v (ds.take i).flatten.length _ rfl hown w5.heap.size A2 n2 c2 _ rfl hS (strs_one _) hle.out.1 hle.out.2 hbz ?_; intro v' w6 hown6 hg6; have hfin := Lib.hid (hO.out.put hlh.out hown6 hg6))
          go_roundw
          case rel => exact ⟨i + 1, v', true, by omega, rfl, rfl, by go_num, hnew, Lib.hid (by rw [htf.out]; exact hfin.out)⟩
          case measure => simp [intOf]; omega
      · obtain rfl : i = n1 := by omega
        have htk : ds.take i = ds := List.take_of_length_le (by omega)
        have hBo := Lib.hid (hB5.out.trans (hO.out.below.mono hB5.out.size))
        have z0 : wo.cell? ⟨w3.heap.size, 0, none⟩ = some (.bool false) := (hO.out.below.cell (p := ⟨w3.heap.size, 0, none⟩) hsz).trans y0
        have z1 : wo.cell? ⟨w3.heap.size, 1, none⟩ = some (.slice At nt ct) := (hO.out.below.cell (p := ⟨w3.heap.size, 1, none⟩) hsz).trans y1
        have hTo := Lib.hid (hT5.out.up hO.out.below)
        have hop2 := hop.out
        rw [htk] at hop2
        have hntl := hTo.out.2.2.len
        dsimp only at hntl
        by_cases hz : i = 0
        · subst hz
          have hdn0 : ds = [] := List.eq_nil_of_length_eq_zero hdn
          have hl0 : T.length = base.length := by have := hTlh.out; rwa [if_pos hdn0] at this
          have hop0 : op = false := by rw [hop2, hdn0]; rfl
          subst hop0
          have hTb : T = base := by have := hTsh.out (by rw [hdn0]; rfl); rwa [if_pos hdn0] at this
          subst hTb
          have hbl := h0h.out.2.2.len
          dsimp only at hbl
          have hnn : nt = n0 := by omega
          subst hnn
          have hSm := Lib.hid (Same_any At A0 nt nt ct c0 _ _ T T wo (Nat.le_trans hTo.out.1 hTo.out.2.1) hn0 hTo.out.2.2 (h0h.out.up hBo.out).2.2)
          simp only [decide_true] at hSm
          have heq : ((nt : Int) == (nt : Int)) = true := by simp
          clear hop2 hl0 hdn0 htk
          go_wp2_with (go_at_call 20; refine hSm.out.mono ?_; rintro e w7 ⟨rfl, q, rfl⟩)
          go_ret
          exact ⟨by first | rfl | simp, below_drewN hBo.out q⟩
        · have hdn0 : ds ≠ [] := by rintro rfl; simp at hdn; omega
          have hl0 : T.length = ds.flatten.length := by have := hTlh.out; rwa [if_neg hdn0] at this
          have e0 : ((i : Int) == 0) = false := by simp; omega
          have hO2 := hO.out.own
          rw [htk] at hO2
          obtain ⟨A3, c3, hv, x1, x2, x3⟩ := own_slice hO2
          subst hv
          obtain ⟨m, hm⟩ : ∃ m, ds.flatten.length = m := ⟨_, rfl⟩
          have hnm : nt = m := by omega
          subst hnm
          rw [hm] at x1 x3 hO ⊢
          have heq : ((nt : Int) == (nt : Int)) = true := by simp
          cases op
          · have hTs := hTsh.out hop2.symm
            rw [if_neg hdn0] at hTs
            subst hTs
            have hSm := Lib.hid (Same_any At A3 nt nt ct c3 _ _ ds.flatten ds.flatten wo (Nat.le_trans hTo.out.1 hTo.out.2.1) (by omega) hTo.out.2.2 x3)
            simp only [decide_true] at hSm
            clear hop2 hl0 hdn0 htk hO2 x3 hz
            go_wp2_with (go_at_call 20; refine hSm.out.mono ?_; rintro e w7 ⟨rfl, q, rfl⟩)
            go_ret
            exact ⟨by first | rfl | simp, below_drewN hBo.out q⟩
          · clear hop2 hl0 hdn0 htk hO2 x3 hz
            go_wp2
            go_ret
            exact ⟨by first | rfl | simp, hBo.out⟩
end
end Go.Proofs.Ytfennjefkfblgaa
