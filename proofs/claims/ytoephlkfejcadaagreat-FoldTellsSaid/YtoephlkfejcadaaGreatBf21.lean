/- Proved here: texts joined: MgSum, ContDif, Grown. -/
import Derived.Test.YtoephlkfejcadaaGreatBf01
import Derived.Test.YtoephlkfejcadaaGreatBf06
import Derived.Test.YtoephlkfejcadaaGreatBf16
import Derived.Test.YtoephlkfejcadaaGreatBf19
import Derived.Test.YtoephlkfejcadaaGreatBf20
import Derived.Laws.StructEq
import Derived.BigQuiet
/- Proved here, without conditions on the program: the parts and pieces of a merge are neither many nor long. -/
namespace Go.Proofs.YtoephlkfejcadaaGreat
open Go.RowKit
set_option linter.unusedVariables false

theorem parts_smallM {base : Txs} {sides : List Txs} (h : smallM base sides) (c : Ck) : (∀ d ∈ cutB c base :: cutsP c sides, d.length ≤ 100) ∧ ∀ d ∈ cutB c base :: cutsP c sides, ∀ s ∈ d, s.length ≤ 1000 := by
  have key : ∀ d ∈ cutB c base :: cutsP c sides, ∃ l ∈ base :: sides, d.length ≤ l.length ∧ ∀ s ∈ d, s ∈ l := fun d hd => by
    rcases List.mem_cons.1 hd with rfl | hd
    · exact ⟨base, List.mem_cons_self .., cutL_le _ _ _, fun s hs => cutL_mem hs⟩
    · obtain ⟨k, hk⟩ := List.mem_iff_getElem?.1 hd
      unfold cutsP at hk
      rw [List.getElem?_zipWith] at hk
      cases h1 : c.2.2[k]? with
      | none => rw [h1] at hk; simp at hk
      | some sp =>
        cases h2 : sides[k]? with
        | none => rw [h1, h2] at hk; simp at hk
        | some l =>
          rw [h1, h2] at hk
          simp at hk
          subst hk
          exact ⟨l, List.mem_cons_of_mem _ (List.mem_of_getElem? h2), cutL_le _ _ _, fun s hs => cutL_mem hs⟩
  refine ⟨fun d hd => ?_, fun d hd s hs => ?_⟩
  · obtain ⟨l, h1, h2, _⟩ := key d hd
    exact Nat.le_trans h2 (h.2 l h1).1
  · obtain ⟨l, h1, _, h3⟩ := key d hd
    exact (h.2 l h1).2 s (h3 s hs)
theorem parts_T {base : Txs} {sides : List Txs} (h : smallM base sides) (c : Ck) : smallT (cutB c base) (cutsP c sides) := by
  obtain ⟨h1, h2⟩ := parts_smallM h c
  exact ⟨fun d hd => Nat.le_trans (h1 d hd) (by decide), fun d hd s hs => Nat.le_trans (h2 d hd s hs) (by decide)⟩
theorem cutsP_le (c : Ck) (sides : List Txs) : (cutsP c sides).length ≤ sides.length := by
  unfold cutsP
  rw [List.length_zipWith]
  omega
theorem piece_form (b : Txs) (ps : List Txs) (fav : Int) (un : Bool) : (∃ x, pieceD b ps fav un = tPc x) ∨ pieceD b ps fav un = cPc b ps := by
  unfold pieceD
  cases diffs b ps with
  | nil => exact .inl ⟨_, rfl⟩
  | cons d l =>
    cases l with
    | nil => exact .inl ⟨_, rfl⟩
    | cons e l =>
      dsimp only
      split
      · exact .inl ⟨_, rfl⟩
      · split
        · exact .inl ⟨_, rfl⟩
        · exact .inr rfl
theorem piece_lenM {base : Txs} {ps : List Txs} (fav : Int) (un : Bool) (h : ∀ d ∈ base :: ps, d.length ≤ 100) (hn : ps.length ≤ 16) : (pieceD base ps fav un).2.1.length ≤ 1700 := by
  have hd : ∀ d ∈ diffs base ps, d.length ≤ 100 := fun d hd => h d (List.mem_cons_of_mem _ (mem_diffs.1 hd).1)
  have hdl := diffs_len base ps
  unfold pieceD
  cases hds : diffs base ps with
  | nil => have := h base (List.mem_cons_self ..); simp only [tPc]; omega
  | cons d l =>
    rw [hds] at hd hdl
    cases l with
    | nil => have := hd d (List.mem_cons_self ..); simp only [tPc]; omega
    | cons e l =>
      dsimp only
      split
      · rename_i hf
        obtain ⟨k, hk⟩ : ∃ k, (fav - 1).toNat = k := ⟨_, rfl⟩
        rw [hk]
        simp only [tPc]
        cases hp : ps[k]? with
        | none => simp
        | some x => have := h x (List.mem_cons_of_mem _ (List.mem_of_getElem? hp)); simp; omega
      · split
        · simp only [tPc]
          rw [union_len]
          have key : ∀ ds : List Txs, (∀ d ∈ ds, d.length ≤ 100) → ds.flatten.length ≤ ds.length * 100 := by
            intro ds
            induction ds with
            | nil => simp
            | cons d ds ih =>
              intro h
              have := ih fun e he => h e (List.mem_cons_of_mem _ he)
              have := h d (List.mem_cons_self ..)
              rw [List.flatten_cons, List.length_append, List.length_cons]
              omega
          have := key _ hd
          omega
        · simp [cPc]

section
variable {base : Txs} {sides : List Txs} (hs : smallM base sides) (hn : sides.length ≤ 16) (fav : Int) (un : Bool)
include hs
theorem pcOf_smallN (c : Ck) : (pcOf base sides fav un c).2.2.2.length ≤ 1000 ∧ ∀ d ∈ (pcOf base sides fav un c).2.2.1 :: (pcOf base sides fav un c).2.2.2, d.length ≤ 1000000 := by
  have hl := cutsP_le c sides
  have h100 := hs.1
  obtain ⟨h1, h2⟩ := parts_smallM hs c
  unfold pcOf
  split
  · exact smallN_text _
  · rcases piece_form (cutB c base) (cutsP c sides) fav un with ⟨x, e⟩ | e
    · rw [e]; exact smallN_text _
    · rw [e]
      exact ⟨by simp only [cPc]; omega, fun d hd => Nat.le_trans (h1 d hd) (by decide)⟩
theorem merge_smallN (cs : List Ck) : smallN (cs.map (pcOf base sides fav un)) := fun p hp => by
  obtain ⟨c, _, rfl⟩ := List.mem_map.1 hp
  exact pcOf_smallN hs fav un c
include hn
theorem pcOf_lenM (c : Ck) : (pcOf base sides fav un c).2.1.length ≤ 1700 := by
  have hl := cutsP_le c sides
  obtain ⟨h1, h2⟩ := parts_smallM hs c
  unfold pcOf
  split
  · have := h1 _ (List.mem_cons_self ..); simp only [tPc]; omega
  · exact piece_lenM fav un h1 (by omega)
theorem merge_sumM {cs : List Ck} (hc : cs.length ≤ 300) : sumT (cs.map (pcOf base sides fav un)) ≤ 1000000 := by
  have := sumT_most (ps := cs.map (pcOf base sides fav un)) (m := 1700) fun p hp => by
    obtain ⟨c, _, rfl⟩ := List.mem_map.1 hp
    exact pcOf_lenM hs hn fav un c
  rw [List.length_map] at this
  omega
end
end Go.Proofs.YtoephlkfejcadaaGreat
/- Proved here: contracts of the document's own answers of layer 6: Differing. -/
namespace Go.Proofs.YtoephlkfejcadaaGreat
open Go.RowKit
set_option linter.unusedVariables false

theorem known_step {base p q : Txs} {ps : List Txs} {k : Nat} {kn : Bool} (h : kn = decide (p = base ∨ p ∈ ps.take k)) (hq : ps[k]? = some q) : (kn || decide (p = q)) = decide (p = base ∨ p ∈ ps.take (k + 1)) := by
  rw [h, take_at hq]
  by_cases h1 : p = base
  · simp [h1]
  · by_cases h2 : p ∈ ps.take k
    · simp [h2]
    · by_cases h3 : p = q <;> simp [h1, h2, h3]

/-- How far Differing has come. -/
structure DifIn (B : Nat) (w wr : World) (base : Txs) (ps : List Txs) (i : Nat) (v : Value) (rows : List Slc) : Prop where
  row : RowsO w.heap.size wr v rows (diffs base (ps.take i))
  below : Below w.heap.size w wr
  low : ∀ (k : Nat) (r : Slc) (ss : Txs), rows[k]? = some r → (diffs base (ps.take i))[k]? = some ss → TxR wr B r ss
theorem DifIn.drewN {B : Nat} {w wr : World} {base : Txs} {ps : List Txs} {i : Nat} {v : Value} {rows : List Slc} (h : DifIn B w wr base ps i v rows) (q : Nat) : DifIn B w (wr.drewN q) base ps i v rows :=
  ⟨⟨h.row.own, h.row.len, fun k r ss a b => ⟨((h.row.row k r ss a b).1.keep fun _ _ => rfl), (h.row.row k r ss a b).2⟩⟩, below_drewN h.below q, fun k r ss a b => (h.low k r ss a b).keep fun _ _ => rfl⟩
theorem DifIn.old {B : Nat} {w wr : World} {base p : Txs} {ps : List Txs} {i : Nat} {v : Value} {rows : List Slc} (h : DifIn B w wr base ps i v rows) (hp : ps[i]? = some p) (hk : p = base ∨ p ∈ ps.take i) : DifIn B w wr base ps (i + 1) v rows := by
  refine ⟨?_, h.below, ?_⟩
  · rw [take_at hp, diffs_old hk]
    exact h.row
  · rw [take_at hp, diffs_old hk]
    exact h.low
theorem DifIn.put {B : Nat} {w wr w2 : World} {base p : Txs} {ps : List Txs} {i : Nat} {v v' : Value} {rows : List Slc} {r : Slc} {o : Obj} (h : DifIn B w wr base ps i v rows) (hp : ps[i]? = some p) (hk : ¬ (p = base ∨ p ∈ ps.take i)) (hB : B ≤ w.heap.size) (hrB : TxR wr B r p) (hr : TxR wr w.heap.size r p)
    (hown : w2.ownsRow w.heap.size 22 1 v' (rows.length + 1) (rows.map slcV ++ [slcV r])) (hg : (wr.alloc o).grownBy w2 v.ownBlock) (hloc : v'.ownBlock = v.ownBlock ∨ v'.ownBlock = some (wr.alloc o).heap.size) : DifIn B w w2 base ps (i + 1) v' (rows ++ [r]) := by
  have hs := h.below.size
  have hb2 : Below B wr w2 := ((Below.refl B wr).alloc (by omega) o).grown hg (by simp; omega) (fun j e => by have := (h.row.own.lt j e).1; omega)
  refine ⟨?_, (h.below.alloc hs o).grown hg (by simp; omega) (fun j e => (h.row.own.lt j e).1), ?_⟩
  rotate_left
  · rw [take_at hp, diffs_new (fun e => hk (.inl e)) (fun e => hk (.inr e))]
    have hl := h.row.len
    intro k r' ss' h1 h2
    rcases Nat.lt_or_ge k rows.length with hkl | hkl
    · rw [List.getElem?_append_left hkl] at h1
      rw [List.getElem?_append_left (by omega)] at h2
      exact (h.low k r' ss' h1 h2).below hb2
    · rw [List.getElem?_append_right hkl] at h1
      rw [List.getElem?_append_right (by omega), ← hl] at h2
      have hj0 : k = rows.length := by
        have := (List.getElem?_eq_some_iff.1 h1).1
        simp at this
        omega
      subst hj0
      simp at h1
      simp at h2
      subst h1
      subst h2
      exact hrB.below hb2
  rw [take_at hp, diffs_new (fun e => hk (.inl e)) (fun e => hk (.inr e))]
  refine h.row.put (hr.more hs) (fun hn q o' e hq => ?_) hown hg hloc
  have := (h.row.own.lt q hq).1
  obtain ⟨b, o2, ha, hb, _⟩ := hr.2.2.2 hn
  rw [e] at ha
  injection ha with ha
  injection ha with ha1 ha2
  omega

/-- Lists of texts that a call tells, their texts below a bound. -/
def RowsOutB (B : Nat) (w w' : World) (e : Ending) (sss : List Txs) : Prop := ∃ A n c rows, e = .returned (.slice A n c) ∧ n ≤ c ∧ c ≤ maxLen ∧ RowsT w' w'.heap.size A n rows sss ∧ (∀ (k : Nat) (r : Slc) (ss : Txs), rows[k]? = some r → sss[k]? = some ss → TxR w' B r ss) ∧ Below w.heap.size w w'

set_option maxRecDepth 100000 in
set_option maxHeartbeats 2000000 in
theorem rDif_anyB (B : Nat) (A0 : Option Addr) (n0 c0 : Nat) (base : Txs) (A : Option Addr) (n c : Nat) (rows : List Slc) (parts : List Txs) (w : World) (hn0 : n0 ≤ maxLen) (hn : n ≤ 100000) (hA0 : Strs w w.heap.size A0 n0 base) (hA : RowsT w w.heap.size A n rows parts) (hB : B ≤ w.heap.size) (hAB : ∀ (k : Nat) (r : Slc) (ss : Txs), rows[k]? = some r → parts[k]? = some ss → TxR w B r ss) :
    Calls Tryz.prog 86 #[.slice A0 n0 c0, .slice A n c] w fun e w' => RowsOutB B w w' e (diffs base parts) := by
  have hl := hA.len
  obtain ⟨i0, hi, hz⟩ := Option.map_eq_some_iff.1 infoTxs
  simp only [Prod.mk.injEq] at hz
  obtain ⟨hz0, hz1, hz2⟩ := hz
  have hAh := Lib.hid hA
  have hA0h := Lib.hid hA0
  have hBh := Lib.hid hB
  have hABh := Lib.hid hAB
  clear hA hA0 hB hAB
  have hstart := Lib.hid (⟨RowsO.start _ _, Below.refl _ _, fun k r ss h => by simp at h⟩ : DifIn B w w base parts 0 (.slice none 0 0) [])
  go_enter Tryz.func86, Tryz.ntmps86
  go_wp2
  go_loopw [5, 6, 7, 8] (fun s5 s6 _ _ wr => ∃ (i : Nat) (v : Value) (rs : List Slc), i ≤ n ∧ v = s5 ∧ s6 = .int .i64 i ∧ Hid (DifIn B w wr base parts i v rs)) (fun _ s6 _ _ _ => n - (intOf s6).toNat)
  case atStart => exact ⟨0, _, _, Nat.zero_le _, rfl, rfl, hstart⟩
  case round =>
    obtain ⟨i, v, rs, hin, rfl, rfl, hI⟩ := hrel
    obtain ⟨wo, rfl⟩ : ∃ wo : World, wo = wr := ⟨_, rfl⟩
    by_cases hlt : i < n
    · obtain ⟨b, o, A1, n1, c1, p, rfl, hb, hp, hrow, hc, hnc, hcm, hst⟩ := (hAh.out.below hI.out.below).at_ (k := i) hlt
      have hS0 := Lib.hid (Same_any A1 A0 n1 n0 c1 c0 _ _ p base wo (by omega) hn0 hst (Strs.below hA0h.out hI.out.below))
      have hSk : Hid (∀ (W : World), (∃ q, W = wo.drewN q) → ∀ (A2 : Option Addr) (n2 c2 : Nat) (y : Txs), n2 ≤ maxLen → Strs W w.heap.size A2 n2 y → Calls Tryz.prog 15 #[.slice A1 n1 c1, .slice A2 n2 c2] W fun e w' => e = .returned (.bool (decide (p = y))) ∧ ∃ k, w' = W.drewN k) := Lib.hid (fun W hW A2 n2 c2 y h2 hy => by
        obtain ⟨q, rfl⟩ := hW
        exact Same_any A1 A2 n1 n2 c1 c2 _ _ p y _ (by omega) h2 (hst.drewN q) hy)
      have hTx := Lib.hid (⟨hnc, hcm, hst⟩ : TxR wo w.heap.size (A1, n1, c1) p)
      have hph := Lib.hid hp
      have hrowh := Lib.hid hrow
      have hbs := hI.out.below.size
      clear hp hst hrow
      go_wp2_with (go_at_call 15; refine hS0.out.mono ?_; rintro e w1 ⟨rfl, q0, rfl⟩)
      go_loopw [7, 8] (fun s7 s8 wr => ∃ (k : Nat) (kn : Bool), k ≤ i ∧ s8 = .int .i64 k ∧ s7 = .bool kn ∧ Hid (kn = decide (p = base ∨ p ∈ parts.take k)) ∧ Hid (∃ q, wr = wo.drewN q)) (fun _ s8 _ => i - (intOf s8).toNat)
      case atStart => exact ⟨0, _, Nat.zero_le _, rfl, rfl, Lib.hid (by simp), Lib.hid ⟨_, rfl⟩⟩
      case round =>
        obtain ⟨k, kn, hki, rfl, rfl, hkn, hq⟩ := hrel
        obtain ⟨wp, rfl⟩ : ∃ wp : World, wp = wr := ⟨_, rfl⟩
        have hcp : wp.cell? ⟨b, o + i, none⟩ = some (.slice A1 n1 c1) := by obtain ⟨q, rfl⟩ := hq.out; exact hc
        have hsp : wp.heap.size = wo.heap.size := by obtain ⟨q, rfl⟩ := hq.out; rfl
        have hsph := Lib.hid hsp
        have hIp : Hid (DifIn B w wp base parts i v rs) := Lib.hid (by obtain ⟨q, rfl⟩ := hq.out; exact hI.out.drewN q)
        clear hsp
        by_cases hlt2 : k < i
        · obtain ⟨b', o', A2, n2, c2, y, he, hb', hy, -, hc', hnc', hcm', hst'⟩ := (hAh.out.below hIp.out.below).at_ (k := k) (by omega)
          injection he with he
          injection he with he1 he2
          subst he1
          subst he2
          have hi1 : (0 : Int) ≤ (k : Int) := by omega
          have hi2 : (k : Int) < (n : Int) := by omega
          have hi3 : (0 : Int) ≤ (i : Int) := by omega
          have hi4 : (i : Int) < (n : Int) := by omega
          have hyh := Lib.hid hy
          have hks := Lib.hid (known_step hkn.out hy)
          cases kn
          · obtain ⟨bb, hbb⟩ : ∃ bb, decide (p = y) = bb := ⟨_, rfl⟩
            have hC := Lib.hid (fun j => hSk.out (wp.drewN j) (by obtain ⟨q, rfl⟩ := hq.out; exact ⟨q + j, World.drewN_drewN _ _ _⟩) A2 n2 c2 y (by omega) (hst'.drewN j))
            rw [hbb] at hC hks
            have hks2 : Hid (bb = decide (p = base ∨ p ∈ parts.take (k + 1))) := Lib.hid (by rw [← hks.out]; rfl)
            clear hst' hy hbb hks
            go_wp2
            go_quiet ((go_at_call 15; exact Calls.quiet_of (hC.out _)))
            obtain ⟨z1, rfl⟩ : ∃ z1, z1 = nq := ⟨_, rfl⟩
            go_wp2
            go_roundw
            case rel => exact ⟨k + 1, bb, by omega, by go_num, rfl, hks2, Lib.hid (by obtain ⟨q, rfl⟩ := hq.out; exact ⟨_, World.drewN_drewN _ _ _⟩)⟩
            case measure => simp [intOf]; omega
          · clear hst' hy
            have hks2 : Hid (true = decide (p = base ∨ p ∈ parts.take (k + 1))) := Lib.hid (by rw [← hks.out]; rfl)
            clear hks
            go_wp2
            go_quiet (fail)
            obtain ⟨z1, rfl⟩ : ∃ z1, z1 = nq := ⟨_, rfl⟩
            go_wp2
            go_roundw
            case rel => exact ⟨k + 1, true, by omega, by go_num, rfl, hks2, Lib.hid (by obtain ⟨q, rfl⟩ := hq.out; exact ⟨_, World.drewN_drewN _ _ _⟩)⟩
            case measure => simp [intOf]; omega
        · obtain rfl : k = i := by omega
          cases kn
          · have hno : ¬ (p = base ∨ p ∈ parts.take k) := by have := hkn.out; simpa using this
            have hown := hIp.out.row.own
            have hrl : rs.length ≤ k := by
              have h1 := hIp.out.row.len
              have h2 := diffs_len base (parts.take k)
              have h3 := List.length_take_le k parts
              omega
            have hmax : Hid (rs.length + 1 ≤ maxLen ∧ (rs.length + 1) * 24 ≤ 140737488355328) := Lib.hid ⟨by unfold maxLen; omega, by omega⟩
            have hfin := Lib.hid (fun v' w2 => hIp.out.put (v' := v') (w2 := w2) (r := (A1, n1, c1)) (o := .cells #[.slice A1 n1 c1] 22) hph.out hno hBh.out ((hABh.out k _ _ hrowh.out hph.out).below (hIp.out.below.mono hBh.out)) (by obtain ⟨q, rfl⟩ := hq.out; exact TxR.keep hTx.out fun _ _ => rfl))
            have hsz := hIp.out.below.size
            clear hno
            go_wp2_with (at_builtin; refine wpList_append_own_at _ rfl _ _ 23 rfl w.heap.size 22 i0 (.slice none 0 0) 1 24 Tryz.underlying23 hi hz0 hz1 hz2 rfl (by decide) v rs.length _ rfl (hown.alloc _) ⟨wp.heap.size, 0, none⟩ 1 1 [.slice A1 n1 c1] rfl rfl (cell_one_new _ _ _) (by simp [Value.oneCell']) hmax.out.1 hmax.out.2 (by simp; omega) ?_; intro v' w2 hown2 hg2 hnil2 hloc2; clear hnil2)
            go_roundw
            case rel => exact ⟨k + 1, v', _, by omega, rfl, by go_num, Lib.hid (hfin.out v' w2 hown2 hg2 hloc2)⟩
            case measure => simp [intOf]; omega
          · have hyes : p = base ∨ p ∈ parts.take k := by have := hkn.out; simpa using this
            have hfin := Lib.hid (hIp.out.old hph.out hyes)
            clear hyes
            go_wp2
            go_roundw
            case rel => exact ⟨k + 1, v, _, by omega, rfl, by go_num, hfin⟩
            case measure => simp [intOf]; omega
    · obtain rfl : i = n := by omega
      go_wp2
      go_ret
      obtain ⟨A1, c1, rfl, h1, h2, h3⟩ := hI.out.row.reads
      have ht : parts.take i = parts := List.take_of_length_le (by omega)
      have hLk := hI.out.low
      rw [ht] at h3 hLk
      exact ⟨A1, _, c1, _, rfl, h1, h2, h3, hLk, hI.out.below⟩

theorem rDif_any (A0 : Option Addr) (n0 c0 : Nat) (base : Txs) (A : Option Addr) (n c : Nat) (rows : List Slc) (parts : List Txs) (w : World) (hn0 : n0 ≤ maxLen) (hn : n ≤ 100000) (hA0 : Strs w w.heap.size A0 n0 base) (hA : RowsT w w.heap.size A n rows parts) :
    Calls Tryz.prog 86 #[.slice A0 n0 c0, .slice A n c] w fun e w' => RowsOut w w' e (diffs base parts) :=
  (rDif_anyB w.heap.size A0 n0 c0 base A n c rows parts w hn0 hn hA0 hA (Nat.le_refl _) hA.2.2).mono fun e w' h => by
    obtain ⟨A1, n1, c1, rs, h1, h2, h3, h4, _, h6⟩ := h
    exact ⟨A1, n1, c1, rs, h1, h2, h3, h4, h6⟩
end Go.Proofs.YtoephlkfejcadaaGreat
/- Proved here, without conditions on the program: a region that draws its order, whose operations read what was there, and whose callees make memory alone, is one walk, in the text's order. -/
namespace Go.Proofs.YtoephlkfejcadaaGreat
open Go.RowKit
set_option linter.unusedVariables false

/-- A world that has grown. -/
structure Grew (W : World) where
  w : World
  below : Below W.heap.size W w
theorem quiet_grew {P : Program} {id : Nat} {Q : Exit → Act → World → Prop} {a : Act} {w : World} {l : List Oper} (hm : P.follows .mixedOrders = true) (hB : Region.lexB .any l.toArray = true)
    (h : wpQuiet P l.toArray (fun wx => ∃ x : Grew w, wx = x.w) (fun a' => ∀ w', (∃ x : Grew w, w' = x.w) → Q .normal a' w') l a) : (Code.region id l.toArray true).wp P Q a w :=
  wp_region_quiet (C := fun wx => ∃ x : Grew w, wx = x.w) hm hB ⟨⟨w.drew, (Below.refl _ w).drew⟩, rfl⟩ (by simpa using h)
theorem grew_here (W : World) : Nonempty (Grew W) := ⟨⟨W, Below.refl _ _⟩⟩
/-- A call that only makes memory stays within the class. -/
theorem grew_call {P : Program} {W : World} {f : FuncId} {args : Array Value} {v : Value} (h : ∀ w', Below W.heap.size W w' → Calls P f args w' fun e w'' => e = .returned v ∧ Below w'.heap.size w' w'') : ∀ x : Grew W, Calls P f args x.w fun e w'' => e = .returned v ∧ ∃ y : Grew W, w'' = y.w :=
  fun x => (h x.w x.below).mono fun e w'' hh => ⟨hh.1, ⟨w'', x.below.trans (hh.2.mono x.below.size)⟩, rfl⟩
end Go.Proofs.YtoephlkfejcadaaGreat
