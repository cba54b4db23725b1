/- Proved here: texts joined: ChPure, PkChoose, Mg, MgAll, MgMrg, MgLen, MgLawB. -/
import Derived.Test.YticgjbckfpkpjaaGreatBu01
import Derived.Test.YticgjbckfpkpjaaGreatBu03
import Derived.Test.YticgjbckfpkpjaaGreatBu09
import Derived.Test.YticgjbckfpkpjaaGreatBu20
import Derived.Test.YticgjbckfpkpjaaGreatBu21
import Derived.Test.YticgjbckfpkpjaaGreatBu22
import Derived.Test.YticgjbckfpkpjaaGreatBu40
/- Proved here, without conditions: plain facts on what is chosen, piece by piece. -/
namespace Go.Proofs.YticgjbckfpkpjaaGreat
set_option linter.unusedVariables false

theorem choose_snoc {ps : List Pc} {i : Nat} {p : Pc} (n : Int) (h : ps[i]? = some p) : choose (ps.take (i + 1)) n = choose (ps.take i) n ++ chosen n p := by
  rw [take_at h]
  unfold choose
  rw [List.flatMap_append]
  simp
theorem choose_pre (ps : List Pc) (n : Int) (i : Nat) : (choose (ps.take i) n).length ≤ (choose ps n).length := by
  conv => rhs; rw [← List.take_append_drop i ps]
  unfold choose
  rw [List.flatMap_append, List.length_append]
  omega
/-- What is chosen among the sides, as far as place k. -/
def chosenTo (n : Int) (ss : List Txs) (k : Nat) : Txs := if 1 ≤ n ∧ (n - 1).toNat < k then (ss[(n - 1).toNat]?).getD [] else []
theorem chosenTo_step {n : Int} {ss : List Txs} {k : Nat} {x : Txs} (h : ss[k]? = some x) : chosenTo n ss (k + 1) = if (k : Int) = n - 1 then chosenTo n ss k ++ x else chosenTo n ss k := by
  unfold chosenTo
  by_cases e : (k : Int) = n - 1
  · have e1 : (n - 1).toNat = k := by omega
    rw [if_pos e, if_pos (by omega), if_neg (by omega), e1, h]
    rfl
  · rw [if_neg e]
    by_cases h2 : 1 ≤ n ∧ (n - 1).toNat < k
    · rw [if_pos (by omega), if_pos h2]
    · rw [if_neg (by omega), if_neg h2]
theorem chosenTo_end (n : Int) (t bs : Txs) (ss : List Txs) : chosenTo n ss ss.length = chosen n (true, t, bs, ss) := by
  unfold chosenTo chosen
  simp only [if_true]
  by_cases h : 1 ≤ n
  · by_cases h2 : (n - 1).toNat < ss.length
    · rw [if_pos ⟨h, h2⟩, if_pos h]
    · rw [if_neg (by omega), if_pos h, List.getElem?_eq_none (by omega)]
      rfl
  · rw [if_neg (by omega), if_neg h]
theorem chosenTo_len (n : Int) (t bs : Txs) (ss : List Txs) (k : Nat) : (chosenTo n ss k).length ≤ (chosen n (true, t, bs, ss)).length := by
  unfold chosenTo chosen
  simp only [if_true]
  by_cases h : 1 ≤ n
  · rw [if_pos h]
    split
    · exact Nat.le_refl _
    · simp
  · rw [if_neg (by omega)]; simp
end Go.Proofs.YticgjbckfpkpjaaGreat
/- Proved here: the contract of the landed pick.Choose. -/
namespace Go.Proofs.YticgjbckfpkpjaaGreat
open Go.RowKit
set_option linter.unusedVariables false

theorem chosen_yes {z : Int} {k : Nat} (hz : z = (k : Int) + 1) (t bs : Txs) {ss : List Txs} {x : Txs} (h : ss[k]? = some x) : chosen z (true, t, bs, ss) = x := by
  subst hz
  unfold chosen
  simp only [if_true]
  rw [if_pos (by omega), show ((k : Int) + 1 - 1).toNat = k by omega, h]
  rfl
theorem chosen_none {z : Int} (t bs : Txs) {ss : List Txs} (h : ¬ (1 ≤ z ∧ z ≤ ss.length)) : chosen z (true, t, bs, ss) = [] := by
  unfold chosen
  simp only [if_true]
  split
  · rw [List.getElem?_eq_none (by omega)]
    rfl
  · rfl

set_option maxRecDepth 100000 in
set_option maxHeartbeats 4000000 in
theorem choose_ok : PickChooseOk := by
  intro A n c vs ps z w hnc hcm hn hz hsum hA
  have hl := hA.len
  obtain ⟨i0, hi, hzz⟩ := Option.map_eq_some_iff.1 infoStr
  simp only [Prod.mk.injEq] at hzz
  obtain ⟨hz0, hz1, hz2⟩ := hzz
  have hAh := Lib.hid hA
  have hsumh := Lib.hid hsum
  have hst : Hid (TxO w w (.slice none 0 0) (choose (ps.take 0) z)) := Lib.hid ⟨World.ownsRow_nil _ _ _ _, Below.refl _ _⟩
  clear hA hsum hz
  go_enter Tryz.func24, Tryz.ntmps24
  go_wp2
  go_loopw [5, 7, 8, 9, 12] (fun s5 _ _ _ s12 wr => ∃ (i : Nat) (v : Value), i ≤ n ∧ v = s5 ∧ s12 = .int .i64 i ∧ Hid (TxO w wr v (choose (ps.take i) z))) (fun _ _ _ _ s12 _ => n - (intOf s12).toNat)
  case atStart => exact ⟨0, _, Nat.zero_le _, rfl, rfl, hst⟩
  case round =>
    obtain ⟨i, v, hin, rfl, rfl, hT⟩ := hrel
    obtain ⟨wo, rfl⟩ : ∃ wo : World, wo = wr := ⟨_, rfl⟩
    clear hst
    by_cases hlt : i < n
    · obtain ⟨b, o, cf, At, nt, ct, Ab, nb, cb, As, ns, cs, t, bs, ss, rfl, hb, hv, hp, k1, k2, k3, k4, ⟨j1, j2, j3⟩, -, ⟨j4, j5, rr, j6⟩⟩ := (hAh.out.below hT.out.below).at_ (k := i) hlt
      have i1 : (0 : Int) ≤ (i : Int) := by omega
      have i2 : (i : Int) < (n : Int) := by omega
      have hsn := Lib.hid (choose_snoc z hp)
      have hpre1 := choose_pre ps z (i + 1)
      rw [choose_snoc z hp, List.length_append] at hpre1
      have hbe := hT.out.below
      have hsz := hbe.size
      have hb2 : b < wo.heap.size := by omega
      dsimp only at j1 j2 j3 j4 j5 j6
      have hown : Hid (∀ o : Obj, (wo.alloc o).ownsRow w.heap.size 9 1 v (choose (ps.take i) z).length ((choose (ps.take i) z).map fun s => .string (str s)) ∧ w.heap.size ≤ (wo.alloc o).heap.size) := Lib.hid (fun o => ⟨hT.out.own.alloc o, by simp; omega⟩)
      have hput : Hid (∀ (o : Obj) (ys : Txs) (m : Nat) (v' : Value) (w2 : World), ys.length = m → w2.ownsRow w.heap.size 9 1 v' ((choose (ps.take i) z).length + m) (((choose (ps.take i) z).map fun s => .string (str s)) ++ ys.map fun s => .string (str s)) → (wo.alloc o).grownBy w2 v.ownBlock → TxO w w2 v' (choose (ps.take i) z ++ ys)) :=
        Lib.hid (fun o ys m v' w2 h1 h2 h3 => (show TxO w (wo.alloc o) v (choose (ps.take i) z) from ⟨hT.out.own.alloc o, hbe.alloc hsz o⟩).put h1 h2 h3)
      cases cf
      · have hlt2 := j3.len
        have hch : chosen z (false, t, bs, ss) = t := rfl
        rw [hch] at hpre1
        have hsn2 : Hid (choose (ps.take (i + 1)) z = choose (ps.take i) z ++ t) := hsn
        have hle : Hid ((choose (ps.take i) z).length + nt ≤ maxLen ∧ ((choose (ps.take i) z).length + nt) * 16 ≤ 140737488355328) := Lib.hid (by have := hsumh.out; unfold maxLen; omega)
        have hlth := Lib.hid hlt2
        have hrd : Hid (∀ o : Obj, Strs (wo.alloc o) w.heap.size At nt t) := Lib.hid (fun o => Reads.keep j3 fun p hp => World.cell?_alloc_lt _ _ p (by omega))
        clear hp hv hpre1 hch hsn j3 j6 hbe
        go_wp2_with (at_builtin; refine wpList_append_reads _ rfl _ _ 22 rfl w.heap.size 9 i0 (.string ByteArray.empty) 16 Tryz.underlying22 hi hz0 hz1 hz2 rfl v (choose (ps.take i) z).length _ rfl (hown.out _).1 w.heap.size At nt ct _ rfl (hrd.out _) (strs_one _) hle.out.1 hle.out.2 (hown.out _).2 ?_; intro v' w2 hown2 hg2; have hfin := Lib.hid (hput.out _ _ _ _ _ hlth.out hown2 hg2))
        go_roundw
        case rel => exact ⟨i + 1, _, by omega, rfl, by go_num, Lib.hid (by rw [hsn2.out]; exact hfin.out)⟩
        case measure => simp [intOf]; omega
      · have hssl := j6.len
        have hRr : Hid (∀ o : Obj, RowsT (wo.alloc o) w.heap.size As ns rr ss) := Lib.hid (fun o => j6.keep fun p hp => World.cell?_alloc_lt _ _ p (by omega))
        have hnb : ns ≤ maxLen := by omega
        by_cases hzk : 1 ≤ z ∧ z ≤ ns
        · obtain ⟨k, hk⟩ : ∃ k : Nat, z = (k : Int) + 1 := ⟨(z - 1).toNat, by omega⟩
          have hkn : k < ns := by omega
          have hSd : Hid (∀ o : Obj, Calls Tryz.prog 47 #[.slice As ns cs, .int .i64 z] (wo.alloc o) fun e w' => (∃ A1 n1 c1 x, e = .returned (.tuple #[.slice A1 n1 c1, .bool true]) ∧ chosen z (true, t, bs, ss) = x ∧ TxR (wo.alloc o) w.heap.size (A1, n1, c1) x) ∧ w' = wo.alloc o) := Lib.hid (fun o => by
            rw [hk]
            refine (sideOf_yes As ns cs k rr ss w.heap.size _ hnb hkn (hRr.out o)).mono ?_
            rintro e w' ⟨⟨A1, n1, c1, x, h1, h2, h3⟩, h4⟩
            exact ⟨⟨A1, n1, c1, x, h1, chosen_yes rfl t bs h2, h3⟩, h4⟩)
          have hpre1h := Lib.hid hpre1
          clear hp hv hpre1 j6 hzk hk hkn hssl hbe
          go_wp2_with (first
            | (go_at_call 47; refine (hSd.out _).mono ?_; rintro e w1 ⟨⟨A1, n1, c1, x, rfl, hx, hTx⟩, rfl⟩; have hxh := Lib.hid hx; have hTxh := Lib.hid hTx; have hle : Hid ((choose (ps.take i) z).length + n1 ≤ maxLen ∧ ((choose (ps.take i) z).length + n1) * 16 ≤ 140737488355328) := Lib.hid (by have h1 := hsumh.out; have h2 := hpre1h.out; have h3 := hTx.2.2.len; rw [hx] at h2; unfold maxLen; dsimp only at h3; omega); clear hx hTx)
            | (at_builtin; refine wpList_append_reads _ rfl _ _ 22 rfl w.heap.size 9 i0 (.string ByteArray.empty) 16 Tryz.underlying22 hi hz0 hz1 hz2 rfl v (choose (ps.take i) z).length _ rfl (hown.out _).1 w.heap.size A1 n1 c1 _ rfl hTxh.out.2.2 (strs_one _) hle.out.1 hle.out.2 (hown.out _).2 ?_; intro v' w2 hown2 hg2; have hfin := Lib.hid (hput.out _ _ _ _ _ hTxh.out.2.2.len hown2 hg2)))
          go_roundw
          case rel => exact ⟨i + 1, _, by omega, rfl, by go_num, Lib.hid (by rw [hsn.out, hxh.out]; exact hfin.out)⟩
          case measure => simp [intOf]; omega
        · have hno : Hid (chosen z (true, t, bs, ss) = []) := Lib.hid (chosen_none t bs (by rw [hssl]; exact hzk))
          have hSd : Hid (∀ o : Obj, Calls Tryz.prog 47 #[.slice As ns cs, .int .i64 z] (wo.alloc o) fun e w' => e = .returned (.tuple #[.slice none 0 0, .bool false]) ∧ w' = wo.alloc o) := Lib.hid (fun o => sideOf_no As ns cs z _ hnb hzk)
          have hfin : Hid (∀ o : Obj, TxO w (wo.alloc o) v (choose (ps.take i) z)) := Lib.hid (fun o => ⟨hT.out.own.alloc o, hbe.alloc hsz o⟩)
          clear hp hv hpre1 j6 hzk hssl hbe
          go_wp2_with (go_at_call 47; refine (hSd.out _).mono ?_; rintro e w1 ⟨rfl, rfl⟩)
          go_roundw
          case rel => exact ⟨i + 1, v, by omega, rfl, by go_num, Lib.hid (by rw [hsn.out, hno.out, List.append_nil]; exact hfin.out _)⟩
          case measure => simp [intOf]; omega
    · obtain rfl : i = n := by omega
      go_wp2
      go_ret
      have ht : ps.take i = ps := List.take_of_length_le (by omega)
      have := hT.out.out
      rw [ht] at this
      exact this
end Go.Proofs.YticgjbckfpkpjaaGreat
/- Proved here: the landed packages keep what the statements of layer 8 ask of them. -/
namespace Go.Proofs.YticgjbckfpkpjaaGreat
open Go.RowKit

theorem mg_ok : MergeOk := ⟨merge_any, choose_ok, clean_ok⟩
end Go.Proofs.YticgjbckfpkpjaaGreat
/- Proved here: the contract of the statements' own function all: the text of pieces without a conflict, and whether there is one. -/
namespace Go.Proofs.YticgjbckfpkpjaaGreat
open Go.RowKit
set_option linter.unusedVariables false

section
variable (H : MergeOk)
include H

set_option maxRecDepth 100000 in
set_option maxHeartbeats 1000000 in
theorem mAll_any (A : Option Addr) (n c : Nat) (vs : List PcV) (ps : List Pc) (er : Int) (w : World) (hnc : n ≤ c) (hcm : c ≤ maxLen) (hn : n ≤ 10000) (hsum : (choose ps 0).length ≤ 1000000) (hA : Pcs w w.heap.size A n vs ps) :
    Calls Tryz.prog 22 #[.slice A n c, .int .i64 er] w fun e w' => ∃ A' n' c', e = .returned (.tuple #[.slice A' n' c', .bool (decide (er = 0) && cleanB ps)]) ∧ TxR w' w'.heap.size (A', n', c') (choose ps 0) ∧ Below w.heap.size w w' := by
  have hC := Lib.hid (H.choose_ok A n c vs ps 0 w hnc hcm hn (by unfold inR64; omega) hsum hA)
  have hK := Lib.hid (fun (W : World) (hW : Below w.heap.size w W) => H.clean_ok A n c vs ps W hnc hcm hn (hA.up hW))
  obtain ⟨xs, hxs⟩ : ∃ xs, choose ps 0 = xs := ⟨_, rfl⟩
  obtain ⟨cl, hcl⟩ : ∃ cl, cleanB ps = cl := ⟨_, rfl⟩
  rw [hxs] at hC ⊢
  rw [hcl] at hK ⊢
  clear hA hxs hcl hsum hn hnc hcm
  by_cases h0 : er = 0
  · subst h0
    have hd : (decide ((0 : Int) = 0) && cl) = cl := by simp
    rw [hd]
    clear hd
    go_enter Tryz.func22, Tryz.ntmps22
    go_wp2_with (first
      | (go_at_call 24; refine hC.out.mono ?_; rintro e w1 ⟨A1, n1, c1, rfl, hT, hb⟩; have hTh := Lib.hid hT; have hbh := Lib.hid hb; clear hT hb)
      | (go_at_call 21; refine (hK.out _ hbh.out).mono ?_; rintro e w2 ⟨rfl, hb2⟩; have hTi := Lib.hid (hTh.out.up hb2); have hbi := Lib.hid (hbh.out.trans (hb2.mono hbh.out.size)); clear hb2))
    go_ret2
    exact ⟨A1, n1, c1, by cases cl <;> rfl, hTi.out, hbi.out⟩
  · have he : (er == 0) = false := by simpa using h0
    have hd : (decide (er = 0) && cl) = false := by simp [h0]
    rw [hd]
    clear hd h0
    go_enter Tryz.func22, Tryz.ntmps22
    go_wp2_with (first
      | (go_at_call 24; refine hC.out.mono ?_; rintro e w1 ⟨A1, n1, c1, rfl, hT, hb⟩; have hTh := Lib.hid hT; have hbh := Lib.hid hb; clear hT hb))
    go_ret2
    exact ⟨A1, n1, c1, rfl, hTh.out, hbh.out⟩
end
end Go.Proofs.YticgjbckfpkpjaaGreat
/- Proved here: the contract of the document's own answer of layer 8: Merge. -/
namespace Go.Proofs.YticgjbckfpkpjaaGreat
open Go.RowKit
set_option linter.unusedVariables false

theorem parts_small {base : Txs} {sides : List Txs} (h : smallR base sides) (c : Ck) : (∀ d ∈ cutB c base :: cutsP c sides, d.length ≤ 90) ∧ ∀ d ∈ cutB c base :: cutsP c sides, ∀ s ∈ d, s.length ≤ 1000 := by
  have key : ∀ d ∈ cutB c base :: cutsP c sides, ∃ l ∈ base :: sides, d.length ≤ l.length ∧ ∀ s ∈ d, s ∈ l := fun d hd => by
    rcases List.mem_cons.1 hd with rfl | hd
    · exact ⟨base, List.mem_cons_self .., cutL_le _ _ _, fun s hs => cutL_mem hs⟩
    · obtain ⟨k, hk⟩ := List.mem_iff_getElem?.1 hd
      unfold cutsP at hk
      rw [List.getElem?_zipWith] at hk
      cases h1 : c.2.2[k]? with
      | none => rw [h1] at hk; simp at hk
      | some sp =>
        cases h2 : sides[k]? with
        | none => rw [h1, h2] at hk; simp at hk
        | some l =>
          rw [h1, h2] at hk
          simp at hk
          subst hk
          exact ⟨l, List.mem_cons_of_mem _ (List.mem_of_getElem? h2), cutL_le _ _ _, fun s hs => cutL_mem hs⟩
  refine ⟨fun d hd => ?_, fun d hd s hs => ?_⟩
  · obtain ⟨l, h1, h2, _⟩ := key d hd
    exact Nat.le_trans h2 (h.2 l h1).1
  · obtain ⟨l, h1, _, h3⟩ := key d hd
    exact (h.2 l h1).2 s (h3 s hs)
theorem piece_len {base : Txs} {ps : List Txs} (fav : Int) (un : Bool) (h : ∀ d ∈ base :: ps, d.length ≤ 90) (hn : ps.length ≤ 100) : (pieceD base ps fav un).2.1.length ≤ 9000 := by
  have hd : ∀ d ∈ diffs base ps, d.length ≤ 90 := fun d hd => h d (List.mem_cons_of_mem _ (mem_diffs.1 hd).1)
  have hdl := diffs_len base ps
  unfold pieceD
  cases hds : diffs base ps with
  | nil => have := h base (List.mem_cons_self ..); simp only [tPc]; omega
  | cons d l =>
    rw [hds] at hd hdl
    cases l with
    | nil => have := hd d (List.mem_cons_self ..); simp only [tPc]; omega
    | cons e l =>
      dsimp only
      split
      · rename_i hf
        obtain ⟨k, hk⟩ : ∃ k, (fav - 1).toNat = k := ⟨_, rfl⟩
        rw [hk]
        simp only [tPc]
        cases hp : ps[k]? with
        | none => simp
        | some x => have := h x (List.mem_cons_of_mem _ (List.mem_of_getElem? hp)); simp; omega
      · split
        · simp only [tPc]
          rw [union_len]
          have key : ∀ ds : List Txs, (∀ d ∈ ds, d.length ≤ 90) → ds.flatten.length ≤ ds.length * 90 := by
            intro ds
            induction ds with
            | nil => simp
            | cons d ds ih =>
              intro h
              have := ih fun e he => h e (List.mem_cons_of_mem _ he)
              have := h d (List.mem_cons_self ..)
              rw [List.flatten_cons, List.length_append, List.length_cons]
              omega
          have := key _ hd
          omega
        · simp [cPc]
end Go.Proofs.YticgjbckfpkpjaaGreat
/- Proved here, without conditions on the program: a merge of few lines is neither many pieces nor long. -/
namespace Go.Proofs.YticgjbckfpkpjaaGreat
open Go.RowKit
set_option linter.unusedVariables false

theorem chosen_le {p : Pc} {z : Int} {M : Nat} (h1 : p.2.1.length ≤ M) (h2 : ∀ d ∈ p.2.2.2, d.length ≤ M) : (chosen z p).length ≤ M := by
  unfold chosen
  split
  · split
    · cases hx : p.2.2.2[(z - 1).toNat]? with
      | none => simp
      | some x => simpa using h2 x (List.mem_of_getElem? hx)
    · simp
  · exact h1
theorem piece_sides (b : Txs) (ps : List Txs) (fav : Int) (un : Bool) : ∀ d ∈ (pieceD b ps fav un).2.2.2, d ∈ ps := by
  unfold pieceD
  cases diffs b ps with
  | nil => intro d hd; simp [tPc] at hd
  | cons x l =>
    cases l with
    | nil => intro d hd; simp [tPc] at hd
    | cons y l =>
      dsimp only
      split
      · intro d hd; simp [tPc] at hd
      · split
        · intro d hd; simp [tPc] at hd
        · intro d hd; exact hd
theorem pcOf_le {base : Txs} {sides : List Txs} {ms : List (List Int)} {cs : List Ck} (h : Laid base sides ms cs) (hs : smallR base sides) {c : Ck} (hc : c ∈ cs) (fav : Int) (un : Bool) (z : Int) : (chosen z (pcOf base sides fav un c)).length ≤ 9000 := by
  rw [h.pc hc]
  obtain ⟨p1, p2⟩ := parts_small hs c
  refine chosen_le (piece_len fav un p1 (by rw [cutsP_len h hc]; exact hs.1)) fun d hd => ?_
  exact Nat.le_trans (p1 d (List.mem_cons_of_mem _ (piece_sides _ _ _ _ d hd))) (by decide)
theorem merge_len {base : Txs} {sides : List Txs} {ms : List (List Int)} {cs : List Ck} (h : Laid base sides ms cs) (hs : smallR base sides) (hb : base.length ≤ 16) (fav : Int) (un : Bool) : (mergeD base sides fav un cs).length ≤ 100 ∧ ∀ z, (choose (mergeD base sides fav un cs) z).length ≤ 1000000 := by
  have hcl := cov_few h.cut.1
  rw [if_neg (by simp)] at hcl
  have hcs : cs.length ≤ 33 := by omega
  refine ⟨?_, fun z => ?_⟩
  · have := len_normal (cs.map (pcOf base sides fav un))
    rw [List.length_map] at this
    unfold mergeD
    omega
  · unfold mergeD
    rw [choose_normal, choose_map]
    have key : ∀ l : List Ck, (∀ c ∈ l, c ∈ cs) → (l.flatMap fun c => chosen z (pcOf base sides fav un c)).length ≤ l.length * 9000 := by
      intro l
      induction l with
      | nil => simp
      | cons c l ih =>
        intro hl
        have h1 := ih fun e he => hl e (List.mem_cons_of_mem _ he)
        have h2 := pcOf_le h hs (hl c (List.mem_cons_self ..)) fav un z
        rw [List.flatMap_cons, List.length_append, List.length_cons]
        omega
    have := key cs fun c h => h
    omega

/-- A merge that may be: its chunks. -/
theorem merge_of {base : Txs} {sides : List Txs} (hw : wrongN base sides = 0) {fav : Int} {un : Bool} {er : Int} {ps : List Pc} (hf : 0 ≤ fav ∧ fav ≤ sides.length ∧ (fav = 0 ∨ un = false)) (h : MergesTo base sides fav un er ps) : er = 0 ∧ ∃ ms cs, MsOf base sides ms ∧ Laid base sides ms cs ∧ ps = mergeD base sides fav un cs := by
  have he : er = 0 := by
    rw [h.1]
    unfold errM
    rw [if_neg (by rw [hw]; simp), if_neg]
    rintro (h1 | h1 | ⟨h1, h2⟩)
    · omega
    · omega
    · rcases hf.2.2 with h3 | h3
      · exact h1 h3
      · rw [h3] at h2; cases h2
  obtain ⟨ms, cs, a, b, c⟩ := h.2.2 he
  exact ⟨he, ms, cs, a, a.laid b, c⟩
end Go.Proofs.YticgjbckfpkpjaaGreat
/- Proved here: what the statement MergeFavour says, by the contracts of package merge. -/
namespace Go.Proofs.YticgjbckfpkpjaaGreat
open Go.RowKit
set_option linter.unusedVariables false

theorem may_few {base : Txs} {sides : List Txs} (h : (fewM base sides && decide (wrongN base sides = 0)) = true) : fewM base sides = true ∧ wrongN base sides = 0 := by
  rw [Bool.and_eq_true, decide_eq_true_eq] at h
  exact h
theorem texts_small {base : Txs} {sides : List Txs} {ms : List (List Int)} {cs : List Ck} (h : Laid base sides ms cs) (hs : smallR base sides) (fav : Int) (un : Bool) (z : Int) : ∀ s ∈ choose (mergeD base sides fav un cs) z, s.length ≤ maxLen := by
  intro s hx
  unfold mergeD at hx
  rw [choose_normal, choose_map, List.mem_flatMap] at hx
  obtain ⟨c, hc, hx⟩ := hx
  obtain ⟨p1, p2⟩ := parts_small hs c
  rw [h.pc hc] at hx
  have key : ∀ t ∈ (pieceD (cutB c base) (cutsP c sides) fav un).2.1, t.length ≤ 1001 := by
    have hd : ∀ d ∈ diffs (cutB c base) (cutsP c sides), ∀ t ∈ d, t.length ≤ 1000 := fun d hd => p2 d (List.mem_cons_of_mem _ (mem_diffs.1 hd).1)
    unfold pieceD
    cases hds : diffs (cutB c base) (cutsP c sides) with
    | nil => intro t ht; have := p2 _ (List.mem_cons_self ..) t (by simpa [tPc] using ht); omega
    | cons x l =>
      rw [hds] at hd
      cases l with
      | nil => intro t ht; have := hd x (List.mem_cons_self ..) t (by simpa [tPc] using ht); omega
      | cons y l =>
        dsimp only
        split
        · intro t ht
          simp only [tPc] at ht
          cases hp : (cutsP c sides)[(fav - 1).toNat]? with
          | none => rw [hp] at ht; simp at ht
          | some d => rw [hp] at ht; have := p2 d (List.mem_cons_of_mem _ (List.mem_of_getElem? hp)) t (by simpa using ht); omega
        · split
          · intro t ht
            simp only [tPc] at ht
            obtain ⟨d, h1, u, h2, h3⟩ := union_mem ht
            have := hd d h1 u h2
            rcases h3 with rfl | rfl
            · omega
            · simp; omega
          · intro t ht; simp [cPc] at ht
  unfold chosen at hx
  split at hx
  · split at hx
    · cases hp : (pieceD (cutB c base) (cutsP c sides) fav un).2.2.2[(z - 1).toNat]? with
      | none => rw [hp] at hx; simp at hx
      | some d =>
        rw [hp] at hx
        have := p2 d (List.mem_cons_of_mem _ (piece_sides _ _ _ _ d (List.mem_of_getElem? hp))) s (by simpa using hx)
        unfold maxLen
        omega
    · simp at hx
  · have := key s hx
    unfold maxLen
    omega

section
variable (H : MergeOk)
include H

set_option maxRecDepth 100000 in
set_option maxHeartbeats 8000000 in
theorem MergeFavour_walk (A0 : Option Addr) (n0 c0 : Nat) (base : Txs) (A : Option Addr) (n c : Nat) (rows : List Slc) (sides : List Txs) (y : Nat) (w : World) (h0 : TxR w w.heap.size (A0, n0, c0) base) (h1 : n ≤ c ∧ c ≤ maxLen ∧ RowsT w w.heap.size A n rows sides) (hy : y ≤ 255) :
    Calls Tryz.prog 6 #[.slice A0 n0 c0, .slice A n c, .int .u8 y] w fun e w' => e = .returned (.bool true) ∧ Below w.heap.size w w' := by
  have haw := Lib.hid (mAwake_any H w)
  have hl := h1.2.2.len
  obtain ⟨fm, hfm⟩ : ∃ fm, (fewM base sides && decide (wrongN base sides = 0)) = fm := ⟨_, rfl⟩
  have hF := Lib.hid (fun (W : World) (hb : Below w.heap.size w W) => mMay_any A0 n0 c0 base A n c W.heap.size rows sides W (Nat.le_trans h0.1 h0.2.1) (Nat.le_trans h1.1 h1.2.1) (h0.up hb).2.2 (h1.2.2.up hb))
  rw [hfm] at hF
  cases fm
  · clear h0 h1 hfm
    go_enter Tryz.func6, Tryz.ntmps6
    go_wp2_with (first
      | (go_at_call 10; refine haw.out.mono ?_; rintro e w1 ⟨rfl, hb1⟩; have hB1 := Lib.hid hb1; clear hb1)
      | (go_at_call 18; refine (hF.out _ hB1.out).mono ?_; rintro e w2 ⟨rfl, rfl⟩))
    go_ret
    exact ⟨rfl, hB1.out⟩
  obtain ⟨hfew, hwr⟩ := may_few hfm
  have hsM := fewM_M hfew
  have hsR := fewM_R hfew
  obtain ⟨u1, u2, u3, u4⟩ := fewM_small hfew
  obtain ⟨w1', -, w3, w4, -, -⟩ := wrong_none hwr
  obtain ⟨p, hp⟩ : ∃ p : Nat, y % n = p := ⟨_, rfl⟩
  have hpn : p < n := by rw [← hp]; exact Nat.mod_lt _ (by omega)
  have hpt : ((y : Int)).tmod (n : Int) = (p : Int) := by rw [← hp]; exact Int.ofNat_tmod y n ▸ rfl
  obtain ⟨N, hN⟩ : ∃ N : Nat, p + 1 = N := ⟨_, rfl⟩
  have hNi : (1 : Int) + (p : Int) = (N : Int) := by omega
  have hwN : IntKind.i64.wrap (N : Int) = (N : Int) := IntWalk.i64_in _ (by omega)
  have hwp : IntKind.i64.wrap (p : Int) = (p : Int) := IntWalk.i64_in _ (by omega)
  have hn0' : ((n : Int) == 0) = false := by simp; omega
  have hnz : ¬ (n : Int) = 0 := by omega
  have hMrg : Hid (∀ (fav : Int) (un : Bool) (W : World), 0 ≤ fav ∧ fav ≤ sides.length ∧ (fav = 0 ∨ un = false) → Below w.heap.size w W → Calls Tryz.prog 15 #[.slice A0 n0 c0, .slice A n c, .agg #[.int .i64 fav, .bool un]] W fun e w' => ∃ A1 n1 c1 vs ms cs, e = .returned (.tuple #[.slice A1 n1 c1, .int .i64 0]) ∧ (n1 ≤ c1 ∧ c1 ≤ maxLen ∧ n1 ≤ 10000 ∧ Pcs w' w'.heap.size A1 n1 vs (mergeD base sides fav un cs)) ∧ MsOf base sides ms ∧ Laid base sides ms cs ∧ Below W.heap.size W w' ∧ Below w.heap.size w w') := Lib.hid (fun fav un W hf hW => by
    refine (H.merge_ok A0 n0 c0 base A n c rows sides fav un W h1.1 h1.2.1 (by unfold inR64; omega) hsM (h0.up hW) (h1.2.2.up hW)).mono ?_
    rintro e w' ⟨er, A1, n1, c1, vs, ps, rfl, q1, q2, q3, q4, q5⟩
    obtain ⟨rfl, ms, cs, a, b, rfl⟩ := merge_of hwr hf q4
    exact ⟨A1, n1, c1, vs, ms, cs, rfl, ⟨q1, q2, by have h7 := q3.len; have h8 := (merge_len b hsR u2 fav un).1; omega, q3⟩, a, b, q5, hW.trans (q5.mono hW.size)⟩)
  have hAll : Hid (∀ (fav : Int) (un : Bool) (ms : List (List Int)) (cs : List Ck) (A1 : Option Addr) (n1 c1 : Nat) (vs : List PcV) (W : World), (n1 ≤ c1 ∧ c1 ≤ maxLen ∧ n1 ≤ 10000 ∧ Pcs W W.heap.size A1 n1 vs (mergeD base sides fav un cs)) → Laid base sides ms cs → ((1 ≤ fav ∧ fav ≤ sides.length ∧ un = false) ∨ (fav = 0 ∧ un = true)) → Below w.heap.size w W →
      Calls Tryz.prog 22 #[.slice A1 n1 c1, .int .i64 0] W fun e w' => ∃ A' n' c', e = .returned (.tuple #[.slice A' n' c', .bool true]) ∧ TxR w' w'.heap.size (A', n', c') (choose (mergeD base sides fav un cs) 0) ∧ Below W.heap.size W w' ∧ Below w.heap.size w w') := Lib.hid (fun fav un ms cs A1 n1 c1 vs W q hL hp hW => by
    refine (mAll_any H A1 n1 c1 vs _ 0 W q.1 q.2.1 q.2.2.1 ((merge_len hL hsR u2 fav un).2 0) q.2.2.2).mono ?_
    rintro e w' ⟨A', n', c', rfl, r1, r2⟩
    exact ⟨A', n', c', by rw [clean_all hL hp]; rfl, r1, r2, hW.trans (r2.mono hW.size)⟩)
  have hCh : Hid (∀ (ms : List (List Int)) (cs : List Ck) (A1 : Option Addr) (n1 c1 : Nat) (vs : List PcV) (W : World), (n1 ≤ c1 ∧ c1 ≤ maxLen ∧ n1 ≤ 10000 ∧ Pcs W W.heap.size A1 n1 vs (mergeD base sides 0 false cs)) → Laid base sides ms cs → Below w.heap.size w W → Calls Tryz.prog 24 #[.slice A1 n1 c1, .int .i64 N] W fun e w' => TxsOut W w' e (choose (mergeD base sides 0 false cs) N) ∧ Below w.heap.size w w') := Lib.hid (fun ms cs A1 n1 c1 vs W q hL hW => by
    refine (H.choose_ok A1 n1 c1 vs _ N W q.1 q.2.1 q.2.2.1 (by unfold inR64; omega) ((merge_len hL hsR u2 0 false).2 N) q.2.2.2).mono ?_
    intro e w' h
    refine ⟨h, ?_⟩
    obtain ⟨_, _, _, _, _, h9⟩ := h
    exact hW.trans (h9.mono hW.size))
  have hMy : Hid (∀ (fav : Int) (un : Bool) (ms : List (List Int)) (cs : List Ck) (A1 : Option Addr) (n1 c1 : Nat) (W : World), TxR W W.heap.size (A1, n1, c1) (choose (mergeD base sides fav un cs) 0) → Laid base sides ms cs → ((1 ≤ fav ∧ fav ≤ sides.length ∧ un = false) ∨ (fav = 0 ∧ un = true)) → Calls Tryz.prog 25 #[.slice A1 n1 c1] W fun e w' => e = .returned (.bool true) ∧ W = w') := Lib.hid (fun fav un ms cs A1 n1 c1 W hT hL hp => by
    refine (rMayB_any A1 n1 c1 W.heap.size _ W (Nat.le_trans hT.1 hT.2.1) (texts_small hL hsR fav un 0) hT.2.2).mono ?_
    rintro e w' ⟨rfl, h⟩
    exact ⟨by rw [merge_may hL w3 w4 hp 0], h⟩)
  have hside : Hid (1 ≤ (N : Int) ∧ (N : Int) ≤ sides.length) := Lib.hid (by omega)
  have hone : Hid (∀ (ms ms' : List (List Int)) (cs cs' : List Ck), MsOf base sides ms → Laid base sides ms cs → MsOf base sides ms' → Laid base sides ms' cs' → cs = cs') := Lib.hid (fun ms ms' cs cs' a b a' b' => cuts_same a b.cut a' b'.cut)
  have tok1 := trivial
  have tok2 := trivial
  have tok3 := trivial
  have tok4 := trivial
  have tok5 := trivial
  have tok6 := trivial
  clear h0 h1 hfm hfew hwr hsM hsR u1 u2 u3 u4 w1' w3 w4 hp hN
  go_enter Tryz.func6, Tryz.ntmps6
  go_upto_region 10 with (first
    | (go_at_call 10; refine haw.out.mono ?_; rintro e x1 ⟨rfl, hb1⟩; have hB1 := Lib.hid hb1; clear hb1)
    | (go_at_call 18; refine (hF.out _ hB1.out).mono ?_; rintro e x2 ⟨rfl, rfl⟩)
    | (go_at_call 15; have _t := tok1; refine (hMrg.out 0 false _ ⟨by omega, by omega, .inl rfl⟩ hB1.out).mono ?_; rintro e x3 ⟨A1, n1, c1, vs1, ms1, cs1, rfl, q1, a1, b1, -, hb3⟩; have hq1 := Lib.hid (And.intro q1 (And.intro a1 b1)); have hB3 := Lib.hid hb3; clear tok1 q1 a1 b1 hb3)
    | (go_at_call 15; have _t := tok2; refine (hMrg.out N false _ ⟨by have := hside.out; omega, hside.out.2, .inr rfl⟩ hB3.out).mono ?_; rintro e x4 ⟨A2, n2, c2, vs2, ms2, cs2, rfl, q2, a2, b2, hb3, hb4⟩; have hcc := hone.out _ _ _ _ hq1.out.2.1 hq1.out.2.2 a2 b2; subst hcc; have hq2 := Lib.hid (And.intro q2 (And.intro a2 b2)); have hP1 := Lib.hid (hq1.out.1.2.2.2.up hb3); have hB4 := Lib.hid hb4; clear tok2 q2 a2 b2 hb3 hb4)
    | (go_at_call 15; refine (hMrg.out 0 true _ ⟨by omega, by omega, .inl rfl⟩ hB4.out).mono ?_; rintro e x5 ⟨A3, n3, c3, vs3, ms3, cs3, rfl, q3, a3, b3, hb4, hb5⟩; have hcc := hone.out _ _ _ _ hq1.out.2.1 hq1.out.2.2 a3 b3; subst hcc; have hq3 := Lib.hid (And.intro q3 (And.intro a3 b3)); have hP2 := Lib.hid (hP1.out.up hb4); have hQ2 := Lib.hid (hq2.out.1.2.2.2.up hb4); have hB5 := Lib.hid hb5; clear q3 a3 b3 hb4 hb5)
    | (go_at_call 22; have _t := tok3; refine (hAll.out N false _ _ _ _ _ _ _ ⟨hq2.out.1.1, hq2.out.1.2.1, hq2.out.1.2.2.1, hQ2.out⟩ hq2.out.2.2 (.inl ⟨hside.out.1, hside.out.2, rfl⟩) hB5.out).mono ?_; rintro e x6 ⟨A4, n4, c4, rfl, r1, r2, r3⟩; have hT4 := Lib.hid r1; have hP3 := Lib.hid (hP2.out.up r2); have hQ3 := Lib.hid (hq3.out.1.2.2.2.up r2); have hB6 := Lib.hid r3; clear tok3 r1 r2 r3)
    | (go_at_call 22; refine (hAll.out 0 true _ _ _ _ _ _ _ ⟨hq3.out.1.1, hq3.out.1.2.1, hq3.out.1.2.2.1, hQ3.out⟩ hq3.out.2.2 (.inr ⟨rfl, rfl⟩) hB6.out).mono ?_; rintro e x7 ⟨A5, n5, c5, rfl, r1, r2, r3⟩; have hT5 := Lib.hid r1; have hP4 := Lib.hid (hP3.out.up r2); have hT4b := Lib.hid (hT4.out.up r2); have hB7 := Lib.hid r3; clear r1 r2 r3))
  go_wp2_with (first
    | (go_at_call 24; refine (hCh.out _ _ _ _ _ _ _ ⟨hq1.out.1.1, hq1.out.1.2.1, hq1.out.1.2.2.1, hP4.out⟩ hq1.out.2.2 hB7.out).mono ?_; rintro e x8 ⟨⟨A6, n6, c6, rfl, r1, r2⟩, r3⟩; have hT6 := Lib.hid r1; have hT4c := Lib.hid (hT4b.out.up r2); have hT5c := Lib.hid (hT5.out.up r2); have hB8 := Lib.hid r3; have hSm := Lib.hid (Same_any A6 A4 n6 n4 c6 c4 _ _ _ _ x8 (Nat.le_trans r1.1 r1.2.1) (Nat.le_trans hT4c.out.1 hT4c.out.2.1) r1.2.2 hT4c.out.2.2); rw [show decide (choose (mergeD base sides 0 false cs1) N = choose (mergeD base sides N false cs1) 0) = true from decide_eq_true (merge_choice hq1.out.2.2 hside.out.1 hside.out.2)] at hSm; clear r1 r2 r3)
    | (go_at_call 23; refine hSm.out.mono ?_; rintro e x9 ⟨rfl, q9, rfl⟩)
    | (go_at_call 25; have _t := tok5; refine (hMy.out N false _ _ _ _ _ _ ⟨hT4c.out.1, hT4c.out.2.1, hT4c.out.2.2.drewN q9⟩ hq2.out.2.2 (.inl ⟨hside.out.1, hside.out.2, rfl⟩)).mono ?_; rintro e y1 ⟨rfl, rfl⟩; clear tok5)
    | (go_at_call 25; refine (hMy.out 0 true _ _ _ _ _ _ ⟨hT5c.out.1, hT5c.out.2.1, hT5c.out.2.2.drewN q9⟩ hq3.out.2.2 (.inr ⟨rfl, rfl⟩)).mono ?_; rintro e y2 ⟨rfl, rfl⟩))
  go_ret
  exact ⟨rfl, below_drewN hB8.out q9⟩
end
end Go.Proofs.YticgjbckfpkpjaaGreat
