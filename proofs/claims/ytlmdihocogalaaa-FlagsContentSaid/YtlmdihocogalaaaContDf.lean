/- Proved here: the contracts of the landed content.Differing, content.Kind. -/
import Derived.Test.YtlmdihocogalaaaContEq
import Derived.Test.YtlmdihocogalaaaAppend
import Derived.Maps.AppendAt
namespace Go.Proofs.Ytlmdihocogalaaa
open Go.RowKit
set_option linter.unusedVariables false

/-- How far the landed Differing has come: the base, and what differs. -/
structure MetIn (w wr : World) (base : Txs) (ps : List Txs) (i : Nat) (v : Value) (rows : List Slc) : Prop where
  row : RowsO w.heap.size wr v rows (base :: diffs base (ps.take i))
  below : Below w.heap.size w wr
section
variable {w wr w2 : World} {base p : Txs} {ps : List Txs} {i : Nat} {v v' : Value} {rows : List Slc}
theorem MetIn.up (h : MetIn w wr base ps i v rows) (hb : Below wr.heap.size wr w2) : MetIn w w2 base ps i v rows := ⟨h.row.up hb, h.below.trans (hb.mono h.below.size)⟩
theorem met_mem {q : Txs} : q ∈ base :: diffs base ps ↔ q = base ∨ q ∈ ps := by
  rw [List.mem_cons, mem_diffs]
  constructor
  · rintro (h | h)
    · exact .inl h
    · exact .inr h.1
  · rintro (h | h)
    · exact .inl h
    · by_cases e : q = base
      · exact .inl e
      · exact .inr ⟨h, e⟩
theorem MetIn.old (h : MetIn w wr base ps i v rows) (hp : ps[i]? = some p) (hk : p ∈ base :: diffs base (ps.take i)) : MetIn w wr base ps (i + 1) v rows := by
  refine ⟨?_, h.below⟩
  rw [take_at hp, diffs_old (met_mem.1 hk)]
  exact h.row
theorem MetIn.put {r : Slc} {o : Obj} (h : MetIn w wr base ps i v rows) (hp : ps[i]? = some p) (hk : ¬ p ∈ base :: diffs base (ps.take i)) (hr : TxR wr w.heap.size r p)
    (hown : w2.ownsRow w.heap.size 22 1 v' (rows.length + 1) (rows.map slcV ++ [slcV r])) (hg : (wr.alloc o).grownBy w2 v.ownBlock) (hloc : v'.ownBlock = v.ownBlock ∨ v'.ownBlock = some (wr.alloc o).heap.size) : MetIn w w2 base ps (i + 1) v' (rows ++ [r]) := by
  have hs := h.below.size
  have hk2 := fun e => hk (met_mem.2 e)
  refine ⟨?_, (h.below.alloc hs o).grown hg (by simp; omega) (fun j e => (h.row.own.lt j e).1)⟩
  rw [take_at hp, diffs_new (fun e => hk2 (.inl e)) (fun e => hk2 (.inr e))]
  refine h.row.put (hr.more hs) (fun hn q o' e hq => ?_) hown hg hloc
  have := (h.row.own.lt q hq).1
  obtain ⟨b, o2, ha, hb, _⟩ := hr.2.2.2 hn
  rw [e] at ha
  injection ha with ha
  injection ha with ha1 ha2
  omega
theorem MetIn.start (A0 : Option Addr) (n0 c0 : Nat) (h : TxR w w.heap.size (A0, n0, c0) base) : MetIn w (w.alloc (.cells #[.slice A0 n0 c0] 22)) base ps 0 (.slice (some ⟨w.heap.size, 0, none⟩) 1 1) [(A0, n0, c0)] := by
  have hb : Below w.heap.size w (w.alloc (.cells #[.slice A0 n0 c0] 22)) := (Below.refl _ _).alloc (Nat.le_refl _) _
  refine ⟨⟨?_, rfl, fun k r ss h1 h2 => ?_⟩, hb⟩
  · exact ⟨rfl, .inr ⟨w.heap.size, 1, #[.slice A0 n0 c0], rfl, Nat.le_refl _, World.alloc_heap_new w _, Nat.le_refl _, by decide, rfl, rfl⟩⟩
  · match k, h1, h2 with
    | 0, h1, h2 =>
      simp at h1 h2
      subst h1
      subst h2
      refine ⟨h.up hb, fun hn q o e hq => ?_⟩
      obtain ⟨b, o2, ha, hlt, _⟩ := h.2.2.2 hn
      rw [e] at ha
      injection ha with ha
      injection ha with ha1 ha2
      simp [Value.ownBlock] at hq
      omega
    | k + 1, h1, h2 => simp at h1
end

set_option maxRecDepth 100000 in
/-- All but the first row. -/
theorem slice1_rows {w : World} {B n c : Nat} {A : Option Addr} {r : Slc} {rows : List Slc} {ss : Txs} {sss : List Txs} (h : RowsT w B A n (r :: rows) (ss :: sss)) (hn : n ≤ c) (hc : c ≤ maxLen) :
    ∃ A' m k, (∀ W : World, (Instr.slice 34 (.slice A n c) (some (.int .i64 1)) none none).run Try.prog W = .ok (.slice A' m k) W) ∧ m ≤ k ∧ k ≤ maxLen ∧ RowsT w B A' m rows sss := by
  have hl := h.rlen
  rw [List.length_cons] at hl
  refine ⟨(if c = 1 then A else A.map (·.add 1)), n - 1, c - 1, fun W => ?_, by omega, by omega, ⟨by rw [List.length_map]; omega, fun hn1 => ?_⟩, by simpa using h.2.1, fun k r' ss' h1 h2 => h.2.2 (k + 1) r' ss' (by simpa using h1) (by simpa using h2)⟩
  · rw [run_slice_l (P := Try.prog) W 34 A n c Try.underlying34 .i64 1 (by omega) (by omega)]
    go_simp
  · obtain ⟨b, o, rfl, hb, hcell⟩ := h.1.2 (by omega)
    rw [if_neg (by omega)]
    refine ⟨b, o + 1, ?_, hb, fun j u hu => ?_⟩
    · simp only [Option.map_some]
      unfold Addr.add
      split
      · rename_i h
        cases h
      · rfl
    · rw [Nat.add_assoc, Nat.add_comm 1 j]
      exact hcell (j + 1) u (by simpa using hu)

set_option maxRecDepth 100000 in
set_option maxHeartbeats 2000000 in
theorem dif_any (A0 : Option Addr) (n0 c0 : Nat) (base : Txs) (A : Option Addr) (n c : Nat) (rows : List Slc) (parts : List Txs) (w : World) (hn : n ≤ 100000) (hA0 : TxR w w.heap.size (A0, n0, c0) base) (hA : RowsT w w.heap.size A n rows parts) :
    Calls Try.prog 27 #[.slice A0 n0 c0, .slice A n c] w fun e w' => RowsOut w w' e (diffs base parts) := by
  have hl := hA.len
  obtain ⟨i0, hi, hz⟩ := Option.map_eq_some_iff.1 infoTxs
  simp only [Prod.mk.injEq] at hz
  obtain ⟨hz0, hz1, hz2⟩ := hz
  have hAh := Lib.hid hA
  have hstart := Lib.hid (MetIn.start (ps := parts) A0 n0 c0 hA0)
  clear hA hA0
  go_enter Try.func27, Try.ntmps27
  go_wp2
  go_loopw [5, 7, 12] (fun s5 _ s12 wr => ∃ (i : Nat) (v : Value) (rs : List Slc), i ≤ n ∧ v = s5 ∧ s12 = .int .i64 i ∧ Hid (MetIn w wr base parts i v rs)) (fun _ _ s12 _ => n - (intOf s12).toNat)
  case atStart => exact ⟨0, _, _, Nat.zero_le _, rfl, rfl, hstart⟩
  case round =>
    obtain ⟨i, v, rs, hin, rfl, rfl, hI⟩ := hrel
    obtain ⟨wo, rfl⟩ : ∃ wo : World, wo = wr := ⟨_, rfl⟩
    obtain ⟨Av, cv, rfl, hv1, hv2, hvR⟩ := hI.out.row.reads
    have hrl : rs.length ≤ i + 1 := by
      have h1 := hI.out.row.len
      have h2 := diffs_len base (parts.take i)
      have h3 := List.length_take_le i parts
      rw [List.length_cons] at h1
      omega
    by_cases hlt : i < n
    · obtain ⟨b, o, A1, n1, c1, p, rfl, hb, hp, hrow, hc, hnc, hcm, hst⟩ := (hAh.out.below hI.out.below).at_ (k := i) hlt
      have hi1 : (0 : Int) ≤ (i : Int) := by omega
      have hi2 : (i : Int) < (n : Int) := by omega
      have hH := has_any Av A1 rs.length cv n1 c1 rs _ p wo (by omega) (by omega) hvR (hst.more hI.out.below.size)
      obtain ⟨kn, hkn⟩ : ∃ kn, decide (p ∈ base :: diffs base (parts.take i)) = kn := ⟨_, rfl⟩
      rw [hkn] at hH
      have hHh := Lib.hid hH
      have hknh := Lib.hid hkn
      have hph := Lib.hid hp
      have hTx : Hid (TxR wo w.heap.size (A1, n1, n1) p) := Lib.hid ⟨Nat.le_refl _, by show n1 ≤ maxLen; omega, hst⟩
      clear hH hkn hp hst hrow hvR
      cases kn
      · have hno : ¬ p ∈ base :: diffs base (parts.take i) := by have := hknh.out; simpa using this
        have hmax : Hid (rs.length + 1 ≤ maxLen ∧ (rs.length + 1) * 24 ≤ 140737488355328) := Lib.hid ⟨by unfold maxLen; omega, by omega⟩
        have hnoh := Lib.hid hno
        have hcl := Lib.hid (fun W => clip_any A1 n1 c1 W hnc hcm)
        clear hno
        go_wp2_with (first
          | (go_at_call 31; refine hHh.out.mono ?_; rintro e w1 ⟨rfl, hb1⟩; have hI1 := Lib.hid (hI.out.up hb1); have hown := hI1.out.row.own; have hsz := hI1.out.below.size; have hfin := Lib.hid (fun v' w2 => hI1.out.put (v' := v') (w2 := w2) (r := (A1, n1, n1)) (o := .cells #[.slice A1 n1 n1] 22) hph.out hnoh.out (hTx.out.below (hb1.mono hI.out.below.size))); clear hb1)
          | (go_at_call 32; refine (hcl.out _).mono ?_; rintro e w3 ⟨rfl, rfl⟩)
          | (at_builtin; refine wpList_append_own_at _ rfl _ _ 34 rfl w.heap.size 22 i0 (.slice none 0 0) 1 24 Try.underlying34 hi hz0 hz1 hz2 rfl (by decide) (.slice Av rs.length cv) rs.length _ rfl (hown.alloc _) ⟨w3.heap.size, 0, none⟩ 1 1 [.slice A1 n1 n1] rfl rfl (cell_one_new _ _ _) (by simp [Value.oneCell']) hmax.out.1 hmax.out.2 (by simp; omega) ?_; intro v' w2 hown2 hg2 hnil2 hloc2; clear hnil2))
        go_roundw
        case rel => exact ⟨i + 1, v', _, by omega, rfl, by go_num, Lib.hid (hfin.out v' w2 hown2 hg2 hloc2)⟩
        case measure => simp [intOf]; omega
      · have hyes : p ∈ base :: diffs base (parts.take i) := by have := hknh.out; simpa using this
        have hyesh := Lib.hid hyes
        clear hyes
        go_wp2_with (go_at_call 31; refine hHh.out.mono ?_; rintro e w1 ⟨rfl, hb1⟩; have hfin := Lib.hid ((hI.out.up hb1).old hph.out hyesh.out); clear hb1)
        go_roundw
        case rel => exact ⟨i + 1, .slice Av rs.length cv, rs, by omega, rfl, by go_num, hfin⟩
        case measure => simp [intOf]; omega
    · obtain rfl : i = n := by omega
      have ht : parts.take i = parts := List.take_of_length_le (by omega)
      obtain ⟨N, hN⟩ : ∃ N, rs.length = N := ⟨_, rfl⟩
      have hsl : ∃ A' m k rs', (∀ W : World, (Instr.slice 34 (.slice Av N cv) (some (.int .i64 1)) none none).run Try.prog W = .ok (.slice A' m k) W) ∧ m ≤ k ∧ k ≤ maxLen ∧ RowsT wo wo.heap.size A' m rs' (diffs base parts) := by
        match rs, hvR, hI, hN with
        | [], hvR, hI, hN => have := hI.out.row.len; simp at this
        | r :: rs', hvR, hI, hN =>
          rw [ht, hN] at hvR
          obtain ⟨A2, m2, k2, hs, h1, h2, h3⟩ := slice1_rows hvR (by omega) hv2
          exact ⟨A2, m2, k2, rs', hs, h1, h2, h3⟩
      obtain ⟨A2, m2, k2, rs', hs, h1, h2, h3⟩ := hsl
      have h3h := Lib.hid (And.intro h1 (And.intro h2 h3))
      rw [hN]
      clear hvR h1 h2 h3 hv1 hv2 hN hrl
      go_wp2
      go_ret
      exact ⟨A2, m2, k2, _, rfl, h3h.out.1, h3h.out.2.1, h3h.out.2.2, hI.out.below⟩

set_option maxRecDepth 100000 in
set_option maxHeartbeats 800000 in
theorem kind_any (A0 : Option Addr) (n0 c0 : Nat) (base : Txs) (A : Option Addr) (n c : Nat) (rows : List Slc) (parts : List Txs) (w : World) (hn : n ≤ 100000) (hA0 : TxR w w.heap.size (A0, n0, c0) base) (hA : RowsT w w.heap.size A n rows parts) :
    Calls Try.prog 19 #[.slice A0 n0 c0, .slice A n c] w fun e w' => e = .returned (.int .i64 (kindN base parts)) ∧ Below w.heap.size w w' := by
  have hD := Lib.hid (dif_any A0 n0 c0 base A n c rows parts w hn hA0 hA)
  clear hA0 hA
  obtain ⟨d, hd⟩ : ∃ d, (diffs base parts).length = d := ⟨_, rfl⟩
  have hk : kindN base parts = min d 2 := by unfold kindN; rw [hd]
  have hdh := Lib.hid hd
  rw [hk]
  clear hd hk
  rcases Nat.lt_trichotomy d 1 with h | h | h
  · obtain rfl : d = 0 := by omega
    go_enter Try.func19, Try.ntmps19
    go_wp2_with (go_at_call 27; refine hD.out.mono ?_; rintro e w1 ⟨A1, n1, c1, rs, rfl, h3, h4, h5, h6⟩; have hn1 := h5.len; rw [hdh.out] at hn1; subst hn1)
    go_ret
    exact ⟨rfl, h6⟩
  · subst h
    go_enter Try.func19, Try.ntmps19
    go_wp2_with (go_at_call 27; refine hD.out.mono ?_; rintro e w1 ⟨A1, n1, c1, rs, rfl, h3, h4, h5, h6⟩; have hn1 := h5.len; rw [hdh.out] at hn1; subst hn1)
    go_ret
    exact ⟨rfl, h6⟩
  · have e0 : ((d : Int) == 0) = false := by simp; omega
    have e1 : ((d : Int) == 1) = false := by simp; omega
    have hm : min d 2 = 2 := by omega
    rw [hm]
    go_enter Try.func19, Try.ntmps19
    go_wp2_with (go_at_call 27; refine hD.out.mono ?_; rintro e w1 ⟨A1, n1, c1, rs, rfl, h3, h4, h5, h6⟩; have hn1 := h5.len; rw [hdh.out] at hn1; subst hn1)
    go_ret
    exact ⟨rfl, h6⟩
end Go.Proofs.Ytlmdihocogalaaa
