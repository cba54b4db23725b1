/- Proved here: texts joined: ContDf, ConPiece, PkPiece. -/
import Derived.Test.YtoephlkfejcadaaGreatBf01
import Derived.Test.YtoephlkfejcadaaGreatBf09
import Derived.Test.YtoephlkfejcadaaGreatBf29
import Derived.Maps.AppendAt
/- Proved here: the contracts of the landed content.Differing, content.Kind. -/
namespace Go.Proofs.YtoephlkfejcadaaGreat
open Go.RowKit
set_option linter.unusedVariables false

/-- How far the landed Differing has come: the base, and what differs. -/
structure MetIn (w wr : World) (base : Txs) (ps : List Txs) (i : Nat) (v : Value) (rows : List Slc) : Prop where
  row : RowsO w.heap.size wr v rows (base :: diffs base (ps.take i))
  below : Below w.heap.size w wr
section
variable {w wr w2 : World} {base p : Txs} {ps : List Txs} {i : Nat} {v v' : Value} {rows : List Slc}
theorem MetIn.up (h : MetIn w wr base ps i v rows) (hb : Below wr.heap.size wr w2) : MetIn w w2 base ps i v rows := ⟨h.row.up hb, h.below.trans (hb.mono h.below.size)⟩
theorem met_mem {q : Txs} : q ∈ base :: diffs base ps ↔ q = base ∨ q ∈ ps := by
  rw [List.mem_cons, mem_diffs]
  constructor
  · rintro (h | h)
    · exact .inl h
    · exact .inr h.1
  · rintro (h | h)
    · exact .inl h
    · by_cases e : q = base
      · exact .inl e
      · exact .inr ⟨h, e⟩
theorem MetIn.old (h : MetIn w wr base ps i v rows) (hp : ps[i]? = some p) (hk : p ∈ base :: diffs base (ps.take i)) : MetIn w wr base ps (i + 1) v rows := by
  refine ⟨?_, h.below⟩
  rw [take_at hp, diffs_old (met_mem.1 hk)]
  exact h.row
theorem MetIn.put {r : Slc} {o : Obj} (h : MetIn w wr base ps i v rows) (hp : ps[i]? = some p) (hk : ¬ p ∈ base :: diffs base (ps.take i)) (hr : TxR wr w.heap.size r p)
    (hown : w2.ownsRow w.heap.size 22 1 v' (rows.length + 1) (rows.map slcV ++ [slcV r])) (hg : (wr.alloc o).grownBy w2 v.ownBlock) (hloc : v'.ownBlock = v.ownBlock ∨ v'.ownBlock = some (wr.alloc o).heap.size) : MetIn w w2 base ps (i + 1) v' (rows ++ [r]) := by
  have hs := h.below.size
  have hk2 := fun e => hk (met_mem.2 e)
  refine ⟨?_, (h.below.alloc hs o).grown hg (by simp; omega) (fun j e => (h.row.own.lt j e).1)⟩
  rw [take_at hp, diffs_new (fun e => hk2 (.inl e)) (fun e => hk2 (.inr e))]
  refine h.row.put (hr.more hs) (fun hn q o' e hq => ?_) hown hg hloc
  have := (h.row.own.lt q hq).1
  obtain ⟨b, o2, ha, hb, _⟩ := hr.2.2.2 hn
  rw [e] at ha
  injection ha with ha
  injection ha with ha1 ha2
  omega
theorem MetIn.start (A0 : Option Addr) (n0 c0 : Nat) (h : TxR w w.heap.size (A0, n0, c0) base) : MetIn w (w.alloc (.cells #[.slice A0 n0 c0] 22)) base ps 0 (.slice (some ⟨w.heap.size, 0, none⟩) 1 1) [(A0, n0, c0)] := by
  have hb : Below w.heap.size w (w.alloc (.cells #[.slice A0 n0 c0] 22)) := (Below.refl _ _).alloc (Nat.le_refl _) _
  refine ⟨⟨?_, rfl, fun k r ss h1 h2 => ?_⟩, hb⟩
  · exact ⟨rfl, .inr ⟨w.heap.size, 1, #[.slice A0 n0 c0], rfl, Nat.le_refl _, World.alloc_heap_new w _, Nat.le_refl _, by decide, rfl, rfl⟩⟩
  · match k, h1, h2 with
    | 0, h1, h2 =>
      simp at h1 h2
      subst h1
      subst h2
      refine ⟨h.up hb, fun hn q o e hq => ?_⟩
      obtain ⟨b, o2, ha, hlt, _⟩ := h.2.2.2 hn
      rw [e] at ha
      injection ha with ha
      injection ha with ha1 ha2
      simp [Value.ownBlock] at hq
      omega
    | k + 1, h1, h2 => simp at h1
end

set_option maxRecDepth 100000 in
/-- All but the first row. -/
theorem slice1_rows {w : World} {B n c : Nat} {A : Option Addr} {r : Slc} {rows : List Slc} {ss : Txs} {sss : List Txs} (h : RowsT w B A n (r :: rows) (ss :: sss)) (hn : n ≤ c) (hc : c ≤ maxLen) :
    ∃ A' m k, (∀ W : World, (Instr.slice 23 (.slice A n c) (some (.int .i64 1)) none none).run Tryz.prog W = .ok (.slice A' m k) W) ∧ m ≤ k ∧ k ≤ maxLen ∧ RowsT w B A' m rows sss := by
  have hl := h.rlen
  rw [List.length_cons] at hl
  refine ⟨(if c = 1 then A else A.map (·.add 1)), n - 1, c - 1, fun W => ?_, by omega, by omega, ⟨by rw [List.length_map]; omega, fun hn1 => ?_⟩, by simpa using h.2.1, fun k r' ss' h1 h2 => h.2.2 (k + 1) r' ss' (by simpa using h1) (by simpa using h2)⟩
  · rw [run_slice_l (P := Tryz.prog) W 23 A n c Tryz.underlying23 .i64 1 (by omega) (by omega)]
    go_simp
  · obtain ⟨b, o, rfl, hb, hcell⟩ := h.1.2 (by omega)
    rw [if_neg (by omega)]
    refine ⟨b, o + 1, ?_, hb, fun j u hu => ?_⟩
    · simp only [Option.map_some]
      unfold Addr.add
      split
      · rename_i h
        cases h
      · rfl
    · rw [Nat.add_assoc, Nat.add_comm 1 j]
      exact hcell (j + 1) u (by simpa using hu)

set_option maxRecDepth 100000 in
set_option maxHeartbeats 2000000 in
theorem dif_any (A0 : Option Addr) (n0 c0 : Nat) (base : Txs) (A : Option Addr) (n c : Nat) (rows : List Slc) (parts : List Txs) (w : World) (hn : n ≤ 100000) (hA0 : TxR w w.heap.size (A0, n0, c0) base) (hA : RowsT w w.heap.size A n rows parts) :
    Calls Tryz.prog 107 #[.slice A0 n0 c0, .slice A n c] w fun e w' => RowsOut w w' e (diffs base parts) := by
  have hl := hA.len
  obtain ⟨i0, hi, hz⟩ := Option.map_eq_some_iff.1 infoTxs
  simp only [Prod.mk.injEq] at hz
  obtain ⟨hz0, hz1, hz2⟩ := hz
  have hAh := Lib.hid hA
  have hstart := Lib.hid (MetIn.start (ps := parts) A0 n0 c0 hA0)
  clear hA hA0
  go_enter Tryz.func107, Tryz.ntmps107
  go_wp2
  go_loopw [5, 7, 12] (fun s5 _ s12 wr => ∃ (i : Nat) (v : Value) (rs : List Slc), i ≤ n ∧ v = s5 ∧ s12 = .int .i64 i ∧ Hid (MetIn w wr base parts i v rs)) (fun _ _ s12 _ => n - (intOf s12).toNat)
  case atStart => exact ⟨0, _, _, Nat.zero_le _, rfl, rfl, hstart⟩
  case round =>
    obtain ⟨i, v, rs, hin, rfl, rfl, hI⟩ := hrel
    obtain ⟨wo, rfl⟩ : ∃ wo : World, wo = wr := ⟨_, rfl⟩
    obtain ⟨Av, cv, rfl, hv1, hv2, hvR⟩ := hI.out.row.reads
    have hrl : rs.length ≤ i + 1 := by
      have h1 := hI.out.row.len
      have h2 := diffs_len base (parts.take i)
      have h3 := List.length_take_le i parts
      rw [List.length_cons] at h1
      omega
    by_cases hlt : i < n
    · obtain ⟨b, o, A1, n1, c1, p, rfl, hb, hp, hrow, hc, hnc, hcm, hst⟩ := (hAh.out.below hI.out.below).at_ (k := i) hlt
      have hi1 : (0 : Int) ≤ (i : Int) := by omega
      have hi2 : (i : Int) < (n : Int) := by omega
      have hH := has_any Av A1 rs.length cv n1 c1 rs _ p wo (by omega) (by omega) hvR (hst.more hI.out.below.size)
      obtain ⟨kn, hkn⟩ : ∃ kn, decide (p ∈ base :: diffs base (parts.take i)) = kn := ⟨_, rfl⟩
      rw [hkn] at hH
      have hHh := Lib.hid hH
      have hknh := Lib.hid hkn
      have hph := Lib.hid hp
      have hTx : Hid (TxR wo w.heap.size (A1, n1, n1) p) := Lib.hid ⟨Nat.le_refl _, by show n1 ≤ maxLen; omega, hst⟩
      clear hH hkn hp hst hrow hvR
      cases kn
      · have hno : ¬ p ∈ base :: diffs base (parts.take i) := by have := hknh.out; simpa using this
        have hmax : Hid (rs.length + 1 ≤ maxLen ∧ (rs.length + 1) * 24 ≤ 140737488355328) := Lib.hid ⟨by unfold maxLen; omega, by omega⟩
        have hnoh := Lib.hid hno
        have hcl := Lib.hid (fun W => clip_any A1 n1 c1 W hnc hcm)
        clear hno
        go_wp2_with (first
          | (go_at_call 117; refine hHh.out.mono ?_; rintro e w1 ⟨rfl, hb1⟩; have hI1 := Lib.hid (hI.out.up hb1); have hown := hI1.out.row.own; have hsz := hI1.out.below.size; have hfin := Lib.hid (fun v' w2 => hI1.out.put (v' := v') (w2 := w2) (r := (A1, n1, n1)) (o := .cells #[.slice A1 n1 n1] 22) hph.out hnoh.out (hTx.out.below (hb1.mono hI.out.below.size))); clear hb1)
          | (go_at_call 118; refine (hcl.out _).mono ?_; rintro e w3 ⟨rfl, rfl⟩)
          | (at_builtin; refine wpList_append_own_at _ rfl _ _ 23 rfl w.heap.size 22 i0 (.slice none 0 0) 1 24 Tryz.underlying23 hi hz0 hz1 hz2 rfl (by decide) (.slice Av rs.length cv) rs.length _ rfl (hown.alloc _) ⟨w3.heap.size, 0, none⟩ 1 1 [.slice A1 n1 n1] rfl rfl (cell_one_new _ _ _) (by simp [Value.oneCell']) hmax.out.1 hmax.out.2 (by simp; omega) ?_; intro v' w2 hown2 hg2 hnil2 hloc2; clear hnil2))
        go_roundw
        case rel => exact ⟨i + 1, v', _, by omega, rfl, by go_num, Lib.hid (hfin.out v' w2 hown2 hg2 hloc2)⟩
        case measure => simp [intOf]; omega
      · have hyes : p ∈ base :: diffs base (parts.take i) := by have := hknh.out; simpa using this
        have hyesh := Lib.hid hyes
        clear hyes
        go_wp2_with (go_at_call 117; refine hHh.out.mono ?_; rintro e w1 ⟨rfl, hb1⟩; have hfin := Lib.hid ((hI.out.up hb1).old hph.out hyesh.out); clear hb1)
        go_roundw
        case rel => exact ⟨i + 1, .slice Av rs.length cv, rs, by omega, rfl, by go_num, hfin⟩
        case measure => simp [intOf]; omega
    · obtain rfl : i = n := by omega
      have ht : parts.take i = parts := List.take_of_length_le (by omega)
      obtain ⟨N, hN⟩ : ∃ N, rs.length = N := ⟨_, rfl⟩
      have hsl : ∃ A' m k rs', (∀ W : World, (Instr.slice 23 (.slice Av N cv) (some (.int .i64 1)) none none).run Tryz.prog W = .ok (.slice A' m k) W) ∧ m ≤ k ∧ k ≤ maxLen ∧ RowsT wo wo.heap.size A' m rs' (diffs base parts) := by
        match rs, hvR, hI, hN with
        | [], hvR, hI, hN => have := hI.out.row.len; simp at this
        | r :: rs', hvR, hI, hN =>
          rw [ht, hN] at hvR
          obtain ⟨A2, m2, k2, hs, h1, h2, h3⟩ := slice1_rows hvR (by omega) hv2
          exact ⟨A2, m2, k2, rs', hs, h1, h2, h3⟩
      obtain ⟨A2, m2, k2, rs', hs, h1, h2, h3⟩ := hsl
      have h3h := Lib.hid (And.intro h1 (And.intro h2 h3))
      rw [hN]
      clear hvR h1 h2 h3 hv1 hv2 hN hrl
      go_wp2
      go_ret
      exact ⟨A2, m2, k2, _, rfl, h3h.out.1, h3h.out.2.1, h3h.out.2.2, hI.out.below⟩

set_option maxRecDepth 100000 in
set_option maxHeartbeats 800000 in
theorem kind_any (A0 : Option Addr) (n0 c0 : Nat) (base : Txs) (A : Option Addr) (n c : Nat) (rows : List Slc) (parts : List Txs) (w : World) (hn : n ≤ 100000) (hA0 : TxR w w.heap.size (A0, n0, c0) base) (hA : RowsT w w.heap.size A n rows parts) :
    Calls Tryz.prog 108 #[.slice A0 n0 c0, .slice A n c] w fun e w' => e = .returned (.int .i64 (kindN base parts)) ∧ Below w.heap.size w w' := by
  have hD := Lib.hid (dif_any A0 n0 c0 base A n c rows parts w hn hA0 hA)
  clear hA0 hA
  obtain ⟨d, hd⟩ : ∃ d, (diffs base parts).length = d := ⟨_, rfl⟩
  have hk : kindN base parts = min d 2 := by unfold kindN; rw [hd]
  have hdh := Lib.hid hd
  rw [hk]
  clear hd hk
  rcases Nat.lt_trichotomy d 1 with h | h | h
  · obtain rfl : d = 0 := by omega
    go_enter Tryz.func108, Tryz.ntmps108
    go_wp2_with (go_at_call 107; refine hD.out.mono ?_; rintro e w1 ⟨A1, n1, c1, rs, rfl, h3, h4, h5, h6⟩; have hn1 := h5.len; rw [hdh.out] at hn1; subst hn1)
    go_ret
    exact ⟨rfl, h6⟩
  · subst h
    go_enter Tryz.func108, Tryz.ntmps108
    go_wp2_with (go_at_call 107; refine hD.out.mono ?_; rintro e w1 ⟨A1, n1, c1, rs, rfl, h3, h4, h5, h6⟩; have hn1 := h5.len; rw [hdh.out] at hn1; subst hn1)
    go_ret
    exact ⟨rfl, h6⟩
  · have e0 : ((d : Int) == 0) = false := by simp; omega
    have e1 : ((d : Int) == 1) = false := by simp; omega
    have hm : min d 2 = 2 := by omega
    rw [hm]
    go_enter Tryz.func108, Tryz.ntmps108
    go_wp2_with (go_at_call 107; refine hD.out.mono ?_; rintro e w1 ⟨A1, n1, c1, rs, rfl, h3, h4, h5, h6⟩; have hn1 := h5.len; rw [hdh.out] at hn1; subst hn1)
    go_ret
    exact ⟨rfl, h6⟩
end Go.Proofs.YtoephlkfejcadaaGreat
/- What the statements ask of pick.Piece. -/
namespace Go.Proofs.YtoephlkfejcadaaGreat
open Go.RowKit
set_option linter.unusedVariables false

/-- The contract of pick.Piece. -/
def PickPieceOk : Prop := ∀ (A0 : Option Addr) (n0 c0 : Nat) (base : Txs) (A : Option Addr) (n c : Nat) (rows : List Slc) (ps : List Txs) (fav : Int) (un : Bool) (w : World), n ≤ c → c ≤ maxLen → n ≤ 100 → inR64 fav → smallT base ps → TxR w w.heap.size (A0, n0, c0) base → RowsT w w.heap.size A n rows ps →
    Calls Tryz.prog 89 #[.slice A0 n0 c0, .slice A n c, .agg #[.int .i64 fav, .bool un]] w fun e w' => PieceOut w w' e (pieceD base ps fav un)
end Go.Proofs.YtoephlkfejcadaaGreat
/- Proved here: the contract of the landed pick.Piece. -/
namespace Go.Proofs.YtoephlkfejcadaaGreat
open Go.RowKit
set_option linter.unusedVariables false

/-- A piece of the call's own, that stands whatever becomes of what lay ahead of it. -/
def PieceOutS (w w' : World) (e : Ending) (p : Pc) : Prop :=
  ∃ v : PcV, e = .returned (.agg #[.bool p.1, .slice v.1.1 v.1.2.1 v.1.2.2, .slice v.2.1.1 v.2.1.2.1 v.2.1.2.2, .slice v.2.2.1 v.2.2.2.1 v.2.2.2.2]) ∧ (∀ w2, But (fun k => k < w.heap.size) w' w2 → PcR w2 w2.heap.size v p) ∧ Below w.heap.size w w'
theorem PieceOutS.out {w w' : World} {e : Ending} {p : Pc} (h : PieceOutS w w' e p) : PieceOut w w' e p := by
  obtain ⟨v, h1, h2, h3⟩ := h
  exact ⟨v, h1, h2 _ (But.refl _ _), h3⟩
theorem piece_doneS {w w1 : World} {L : Nat} {p : Pc} {v : PcV} (hL : w.heap.size ≤ L) (hb : Below w.heap.size w w1) (h : ∀ w', But (fun k => k = L ∨ k < w.heap.size) w1 w' → PcR w' w'.heap.size v p) (u0 u1 u2 u3 : Value) :
    PieceOutS w ((((w1.setCell ⟨L, 0, none⟩ u0).setCell ⟨L, 1, none⟩ u1).setCell ⟨L, 2, none⟩ u2).setCell ⟨L, 3, none⟩ u3) (.returned (.agg #[.bool p.1, .slice v.1.1 v.1.2.1 v.1.2.2, .slice v.2.1.1 v.2.1.2.1 v.2.1.2.2, .slice v.2.2.1 v.2.2.2.1 v.2.2.2.2])) p :=
  ⟨v, rfl, fun w2 h2 => h w2 (((But.piece w1 L u0 u1 u2 u3).more (F' := fun k => k = L ∨ k < w.heap.size) fun k e => .inl e).trans h2 fun k e => .inl (.inr e)), hb.trans ((But.piece w1 L u0 u1 u2 u3).below hb.size (by rintro k rfl; exact hL))⟩
theorem piece_text {w W w1 : World} {L : Nat} {A : Option Addr} {n c : Nat} {xs : Txs} (hL : w.heap.size ≤ L) (hLW : L < W.heap.size) (hbW : Below w.heap.size w W) (hT : TxO W w1 (.slice A n c) xs) (u0 u1 u2 u3 : Value) :
    PieceOutS w ((((w1.setCell ⟨L, 0, none⟩ u0).setCell ⟨L, 1, none⟩ u1).setCell ⟨L, 2, none⟩ u2).setCell ⟨L, 3, none⟩ u3) (.returned (.agg #[.bool false, .slice A n c, .slice none 0 0, .slice none 0 0])) (tPc xs) :=
  piece_doneS (v := ((A, n, c), (none, 0, 0), (none, 0, 0))) hL (hbW.trans (hT.below.mono hbW.size)) (fun w' hb' => PcR.text (hT.stay hb' (by have := hbW.size; rintro k (rfl | h); exact hLW; omega))) _ _ _ _

set_option maxRecDepth 100000 in
set_option maxHeartbeats 8000000 in
theorem piece_okS (A0 : Option Addr) (n0 c0 : Nat) (base : Txs) (A : Option Addr) (n c : Nat) (rows : List Slc) (ps : List Txs) (fav : Int) (un : Bool) (w : World) (hnc : n ≤ c) (hcm : c ≤ maxLen) (hn : n ≤ 100) (hfav : inR64 fav) (hsm : smallT base ps) (hA0 : TxR w w.heap.size (A0, n0, c0) base) (hA : RowsT w w.heap.size A n rows ps) :
    Calls Tryz.prog 89 #[.slice A0 n0 c0, .slice A n c, .agg #[.int .i64 fav, .bool un]] w fun e w' => PieceOutS w w' e (pieceD base ps fav un) := by
  obtain ⟨W0, hW0⟩ : ∃ W0, W0 = ((w.alloc (.cells #[.int .i64 fav, .bool un] 36)).alloc (.cells #[.bool false, .slice none 0 0, .slice none 0 0, .slice none 0 0] 44)) := ⟨_, rfl⟩
  have hb0 : Below w.heap.size w W0 := by rw [hW0]; exact ((Below.refl _ w).alloc (Nat.le_refl _) _).alloc (by simp) _
  have hs0 : W0.heap.size = w.heap.size + 2 := by rw [hW0]; simp
  have hD := Lib.hid (dif_any A0 n0 c0 base A n c rows ps W0 (by omega) (hA0.up hb0) (hA.up hb0))
  have hK : Hid (∀ W, Below w.heap.size w W → Calls Tryz.prog 108 #[.slice A0 n0 c0, .slice A n c] W fun e w' => e = .returned (.int .i64 (kindN base ps)) ∧ Below W.heap.size W w') := Lib.hid (fun W hW => kind_any A0 n0 c0 base A n c rows ps W (by omega) (hA0.up hW) (hA.up hW))
  have hb0h := Lib.hid hb0
  have hs0h := Lib.hid hs0
  have hW0h := Lib.hid hW0
  have hA0h := Lib.hid hA0
  have hAh := Lib.hid hA
  have hsmh := Lib.hid hsm
  have hln := hA.len
  have hlnh := Lib.hid hln
  obtain ⟨p, hp⟩ : ∃ p, pieceD base ps fav un = p := ⟨_, rfl⟩
  have hph := Lib.hid hp
  rw [hp]
  obtain ⟨kd, hkd⟩ : ∃ kd, kindN base ps = kd := ⟨_, rfl⟩
  rw [hkd] at hK
  have hkdh := Lib.hid hkd
  clear hb0 hA0 hA hp hkd
  have hW1 : Hid (∀ w1 : World, Below W0.heap.size W0 w1 → w1.heap[w.heap.size]? = some (.cells #[.int .i64 fav, .bool un] 36 (0, 0)) ∧ w1.heap[w.heap.size + 1]? = some (.cells #[.bool false, .slice none 0 0, .slice none 0 0, .slice none 0 0] 44 (0, 0)) ∧ Below w.heap.size w w1) := Lib.hid (fun w1 hb => by
    have hs : W0.heap.size = w.heap.size + 2 := hs0h.out
    have h2 := two_a w (.cells #[.int .i64 fav, .bool un] 36) (.cells #[.bool false, .slice none 0 0, .slice none 0 0, .slice none 0 0] 44)
    rw [← hW0h.out] at h2
    exact ⟨(hb.block _ (by omega)).trans h2.1, (hb.block _ (by omega)).trans h2.2, hb0h.out.trans (hb.mono hb0h.out.size)⟩)
  have hTx : Hid (∀ (A2 : Option Addr) (n2 c2 : Nat) (xs : Txs) (W : World), n2 ≤ 1000000000 → Strs W W.heap.size A2 n2 xs → Calls Tryz.prog 54 #[.slice A2 n2 c2] W fun e w' => TextOut W w' e xs) := Lib.hid (fun A2 n2 c2 xs W h1 h2 => text_any A2 n2 c2 W.heap.size xs W h1 (Nat.le_refl _) h2)
  clear hW0 hs0
  go_enter Tryz.func89, Tryz.ntmps89
  go_upto_region 1 with fail
  rw [← hW0h.out]
  rcases hds : diffs base ps with _ | ⟨d, _ | ⟨d2, ds⟩⟩
  · have hpe : p = tPc base := by rw [← hph.out]; unfold pieceD; rw [hds]
    have hpeh := Lib.hid hpe
    have hdsh := Lib.hid hds
    obtain rfl : kd = 0 := by have := hkdh.out; unfold kindN at this; rw [hds] at this; exact this.symm
    have hbl : n0 ≤ 1000000000 := by have h1 := hsm.1 base (List.mem_cons_self ..); have h2 := hA0h.out.2.2.len; dsimp only at h2; omega
    have hblh := Lib.hid hbl
    clear hpe hds hbl hsm
    go_wp2_with (first
      | (go_at_call 107; refine hD.out.mono ?_; rintro e w1 ⟨A1, n1, c1, rs, rfl, h3, h4, h5, h6⟩; have hb1 := Lib.hid h6; clear h3 h4 h5 h6)
      | (go_at_call 108; refine (hK.out _ (hW1.out _ hb1.out).2.2).mono ?_; rintro e w2 ⟨rfl, h6⟩; have hb2 := Lib.hid (hb1.out.trans (h6.mono hb1.out.size)); have hT := Lib.hid (hTx.out A0 n0 c0 base w2 hblh.out (hA0h.out.up (hW1.out _ hb2.out).2.2).2.2); clear h6)
      | (go_at_call 54; refine hT.out.mono ?_; rintro e w3 ⟨A3, c3, rfl, hT3⟩; have hT3h := Lib.hid hT3; have k1 := (hW1.out _ (hb2.out.trans (hT3.below.mono hb2.out.size))).2.1; obtain ⟨e0, e1, e2, e3, z0, z1, z2, z3⟩ := piece_at k1; clear hT3 k1))
    refine bodyPost_ret (v := .agg #[.bool false, .slice A3 base.length c3, .slice none 0 0, .slice none 0 0]) (by simp [results, Tryz.results89, go_sem, World.cell?_setCell_same', e0, e1, e2, e3]) rfl ?_
    rw [hpeh.out]
    exact piece_text (by omega) (by have := hs0h.out; have := hb2.out.size; omega) (hW1.out _ hb2.out).2.2 hT3h.out _ _ _ _
  · have hpe : p = tPc d := by rw [← hph.out]; unfold pieceD; rw [hds]
    have hpeh := Lib.hid hpe
    have hdsh := Lib.hid hds
    obtain rfl : kd = 1 := by have := hkdh.out; unfold kindN at this; rw [hds] at this; exact this.symm
    have hdm := Lib.hid (show d ∈ base :: ps from List.mem_cons_of_mem _ (mem_diffs.1 (show d ∈ diffs base ps by rw [hds]; exact List.mem_singleton.2 rfl)).1)
    clear hpe hds hsm
    go_wp2_with (first
      | (go_at_call 107; refine hD.out.mono ?_; rintro e w1 ⟨A1, n1, c1, rs, rfl, h3, h4, h5, h6⟩; have hn1 := h5.len; rw [hdsh.out] at hn1; have hn1' : 1 = n1 := hn1; subst hn1'; have hb1 := Lib.hid h6; have hR1 := Lib.hid h5; clear h3 h4 h5 h6 hn1)
      | (go_at_call 108; refine (hK.out _ (hW1.out _ hb1.out).2.2).mono ?_; rintro e w2 ⟨rfl, h6⟩; have hb2 := Lib.hid (hb1.out.trans (h6.mono hb1.out.size)); obtain ⟨b1, o1, A2, n2, c2, dd, rfl, hbb1, hdd, -, hcd, hn2, hc2, hS2⟩ := (hR1.out.up h6).at_ (k := 0) (by omega); rw [hdsh.out] at hdd; have hdd' : d = dd := (by simpa using hdd); subst hdd'; have hcd' : w2.cell? ⟨b1, o1, none⟩ = some (.slice A2 n2 c2) := hcd; have hT := Lib.hid (hTx.out A2 n2 c2 d w2 (by have := hsmh.out.1 d hdm.out; have := hS2.len; omega) hS2); clear h6 hdd hcd hS2)
      | (go_at_call 54; refine hT.out.mono ?_; rintro e w3 ⟨A3, c3, rfl, hT3⟩; have hT3h := Lib.hid hT3; have k1 := (hW1.out _ (hb2.out.trans (hT3.below.mono hb2.out.size))).2.1; obtain ⟨e0, e1, e2, e3, z0, z1, z2, z3⟩ := piece_at k1; clear hT3 k1))
    refine bodyPost_ret (v := .agg #[.bool false, .slice A3 d.length c3, .slice none 0 0, .slice none 0 0]) (by simp [results, Tryz.results89, go_sem, World.cell?_setCell_same', e0, e1, e2, e3]) rfl ?_
    rw [hpeh.out]
    exact piece_text (by omega) (by have := hs0h.out; have := hb2.out.size; omega) (hW1.out _ hb2.out).2.2 hT3h.out _ _ _ _
  · have hpe : p = if 1 ≤ fav ∧ fav ≤ ps.length then tPc ((ps[(fav - 1).toNat]?).getD []) else if un = true then tPc (unionT (d :: d2 :: ds)) else cPc base ps := by rw [← hph.out]; unfold pieceD; rw [hds]
    have hpeh := Lib.hid hpe
    have hdsh := Lib.hid hds
    obtain rfl : kd = 2 := by have := hkdh.out; unfold kindN at this; rw [hds] at this; rw [← this]; show min (ds.length + 1 + 1) 2 = 2; omega
    obtain ⟨q1, q2, q3⟩ := unionT_small hsm (by omega)
    have hun : (unionT (diffs base ps)).length ≤ 999000000 := by
      rw [union_len]
      have h2 : ∀ l : List Txs, (∀ d ∈ l, d.length ≤ 1000000) → l.flatten.length ≤ l.length * 1000000 := by
        intro l
        induction l with
        | nil => simp
        | cons d l ih =>
          intro h
          have := ih fun e he => h e (List.mem_cons_of_mem _ he)
          have := h d (List.mem_cons_self ..)
          rw [List.flatten_cons, List.length_append, List.length_cons]
          omega
      have h3 := h2 _ q1
      have h4 := diffs_len base ps
      omega
    rw [hdsh.out] at q1 q2 q3 hun
    have hqs := Lib.hid (And.intro q1 (And.intro q2 (And.intro q3 hun)))
    have hdl : Hid ((diffs base ps).length ≤ 100) := Lib.hid (by have := diffs_len base ps; omega)
    clear hpe hds hsm q1 q2 q3 hun
    unfold inR64 at hfav
    by_cases hf : 1 ≤ fav ∧ fav ≤ ps.length
    · obtain ⟨k, hk⟩ : ∃ k : Nat, fav = (k : Int) + 1 := ⟨(fav - 1).toNat, by omega⟩
      have hkn : k < n := by omega
      have hSd : Hid (∀ W, Below w.heap.size w W → Calls Tryz.prog 35 #[.slice A n c, .int .i64 fav] W fun e w' => (∃ A1 n1 c1 x, e = .returned (.tuple #[.slice A1 n1 c1, .bool true]) ∧ ps[k]? = some x ∧ TxR W W.heap.size (A1, n1, c1) x) ∧ w' = W) := Lib.hid (fun W hW => by rw [hk]; exact sideOf_yes A n c k rows ps W.heap.size W (by omega) hkn (hAh.out.up hW))
      have hpe2 : Hid (∀ x, ps[k]? = some x → p = tPc x) := Lib.hid (fun x hx => by rw [hpeh.out, if_pos hf, hk, show ((k : Int) + 1 - 1).toNat = k by omega, hx]; rfl)
      clear hf hk hkn hfav
      go_wp2_with (first
        | (go_at_call 107; refine hD.out.mono ?_; rintro e w1 ⟨A1, n1, c1, rs, rfl, h3, h4, h5, h6⟩; have hb1 := Lib.hid h6; clear h3 h4 h5 h6)
        | (go_at_call 108; refine (hK.out _ (hW1.out _ hb1.out).2.2).mono ?_; rintro e w2 ⟨rfl, h6⟩; have hb2 := Lib.hid (hb1.out.trans (h6.mono hb1.out.size)); have k0 := (hW1.out _ hb2.out).1; have x0 : w2.cell? ⟨w.heap.size, 0, none⟩ = some (.int .i64 fav) := (by rw [cells_of k0]; rfl); clear h6 k0)
        | (go_at_call 35; refine (hSd.out _ (hW1.out _ hb2.out).2.2).mono ?_; rintro e w3 ⟨⟨A2, n2, c2, x, rfl, hx, hTx2⟩, rfl⟩; have hxh := Lib.hid hx; have hT := Lib.hid (hTx.out A2 n2 c2 x w3 (by have := hsmh.out.1 x (List.mem_cons_of_mem _ (List.mem_of_getElem? hx)); have := hTx2.2.2.len; dsimp only at this; omega) hTx2.2.2); clear hx hTx2)
        | (go_at_call 54; refine hT.out.mono ?_; rintro e w4 ⟨A3, c3, rfl, hT3⟩; have hT3h := Lib.hid hT3; have k1 := (hW1.out _ (hb2.out.trans (hT3.below.mono hb2.out.size))).2.1; obtain ⟨e0, e1, e2, e3, z0, z1, z2, z3⟩ := piece_at k1; clear hT3 k1))
      refine bodyPost_ret (v := .agg #[.bool false, .slice A3 x.length c3, .slice none 0 0, .slice none 0 0]) (by simp [results, Tryz.results89, go_sem, World.cell?_setCell_same', e0, e1, e2, e3]) rfl ?_
      rw [hpe2.out x hxh.out]
      exact piece_text (by omega) (by have := hs0h.out; have := hb2.out.size; omega) (hW1.out _ hb2.out).2.2 hT3h.out _ _ _ _
    · have hSd : Hid (∀ W, Calls Tryz.prog 35 #[.slice A n c, .int .i64 fav] W fun e w' => e = .returned (.tuple #[.slice none 0 0, .bool false]) ∧ w' = W) := Lib.hid (fun W => sideOf_no A n c fav W (by omega) (by rw [← hlnh.out]; exact hf))
      have hfh := Lib.hid hf
      clear hf hfav
      cases un
      · have hpe2 : Hid (p = cPc base ps) := Lib.hid (by rw [hpeh.out, if_neg hfh.out, if_neg (by simp)])
        have hCf : Hid (∀ W, Below w.heap.size w W → Calls Tryz.prog 55 #[.slice A0 n0 c0, .slice A n c] W fun e w' => ConfOut W w' e base ps) := Lib.hid (fun W hW => conflict_any A0 n0 c0 base A n c rows ps W (by omega) hsmh.out.1 (hA0h.out.up hW) (hAh.out.up hW))
        go_wp2_with (first
          | (go_at_call 107; refine hD.out.mono ?_; rintro e w1 ⟨A1, n1, c1, rs, rfl, h3, h4, h5, h6⟩; have hb1 := Lib.hid h6; clear h3 h4 h5 h6)
          | (go_at_call 108; refine (hK.out _ (hW1.out _ hb1.out).2.2).mono ?_; rintro e w2 ⟨rfl, h6⟩; have hb2 := Lib.hid (hb1.out.trans (h6.mono hb1.out.size)); have k0 := (hW1.out _ hb2.out).1; have x0 : w2.cell? ⟨w.heap.size, 0, none⟩ = some (.int .i64 fav) := (by rw [cells_of k0]; rfl); have x1 : w2.cell? ⟨w.heap.size, 1, none⟩ = some (.bool false) := (by rw [cells_of k0]; rfl); clear h6 k0)
          | (go_at_call 35; refine (hSd.out _).mono ?_; rintro e w3 ⟨rfl, rfl⟩)
          | (go_at_call 55; refine (hCf.out _ (hW1.out _ hb2.out).2.2).mono ?_; rintro e w4 ⟨Ab, nb, cb, As, ns, cs, rfl, hPc, hb4⟩; have hPch := Lib.hid hPc; have hb4h := Lib.hid hb4; have k1 := (hW1.out _ (hb2.out.trans (hb4.mono hb2.out.size))).2.1; obtain ⟨e0, e1, e2, e3, z0, z1, z2, z3⟩ := piece_at k1; clear hPc hb4 k1))
        refine bodyPost_ret (v := .agg #[.bool true, .slice none 0 0, .slice Ab nb cb, .slice As ns cs]) (by simp [results, Tryz.results89, go_sem, World.cell?_setCell_same', e0, e1, e2, e3]) rfl ?_
        rw [hpe2.out]
        exact piece_doneS (v := ((none, 0, 0), (Ab, nb, cb), (As, ns, cs))) (by omega) ((hW1.out _ hb2.out).2.2.trans (hb4h.out.mono (hW1.out _ hb2.out).2.2.size)) (fun w' hb' => hPch.out w' (hb'.more (by have := hs0h.out; have := hb2.out.size; rintro k (rfl | h); omega; omega))) _ _ _ _
      · have hpe2 : Hid (p = tPc (unionT (d :: d2 :: ds))) := Lib.hid (by rw [hpeh.out, if_neg hfh.out, if_pos rfl])
        go_wp2_with (first
          | (go_at_call 107; refine hD.out.mono ?_; rintro e w1 ⟨A1, n1, c1, rs, rfl, h3, h4, h5, h6⟩; have hb1 := Lib.hid h6; have hR1 := Lib.hid h5; clear h3 h4 h5 h6)
          | (go_at_call 108; refine (hK.out _ (hW1.out _ hb1.out).2.2).mono ?_; rintro e w2 ⟨rfl, h6⟩; have hb2 := Lib.hid (hb1.out.trans (h6.mono hb1.out.size)); have k0 := (hW1.out _ hb2.out).1; have x0 : w2.cell? ⟨w.heap.size, 0, none⟩ = some (.int .i64 fav) := (by rw [cells_of k0]; rfl); have x1 : w2.cell? ⟨w.heap.size, 1, none⟩ = some (.bool true) := (by rw [cells_of k0]; rfl); have hR2 := hR1.out.up h6; have hn1 := hR2.len; have hU := Lib.hid (union_any A1 n1 c1 rs (d :: d2 :: ds) w2 (by have := hdl.out; omega) hqs.out.1 hqs.out.2.1 hqs.out.2.2.2 (by rw [← hdsh.out]; exact hR2)); clear h6 k0 hR2 hn1)
          | (go_at_call 35; refine (hSd.out _).mono ?_; rintro e w3 ⟨rfl, rfl⟩)
          | (go_at_call 109; refine hU.out.mono ?_; rintro e w4 ⟨v4, rfl, hT4⟩; obtain ⟨A4, c4, rfl, r1, r2, r3⟩ := own_slice hT4.own; have hb4 := Lib.hid (hb2.out.trans (hT4.below.mono hb2.out.size)); have hT := Lib.hid (hTx.out A4 (unionT (d :: d2 :: ds)).length c4 (unionT (d :: d2 :: ds)) w4 hqs.out.2.2.1 r3); clear hT4 r1 r2 r3)
          | (go_at_call 54; refine hT.out.mono ?_; rintro e w5 ⟨A3, c3, rfl, hT3⟩; have hT3h := Lib.hid hT3; have k1 := (hW1.out _ (hb4.out.trans (hT3.below.mono hb4.out.size))).2.1; obtain ⟨e0, e1, e2, e3, z0, z1, z2, z3⟩ := piece_at k1; clear hT3 k1))
        refine bodyPost_ret (v := .agg #[.bool false, .slice A3 (unionT (d :: d2 :: ds)).length c3, .slice none 0 0, .slice none 0 0]) (by simp [results, Tryz.results89, go_sem, World.cell?_setCell_same', e0, e1, e2, e3]) rfl ?_
        rw [hpe2.out]
        exact piece_text (by omega) (by have := hs0h.out; have := hb4.out.size; omega) (hW1.out _ hb4.out).2.2 hT3h.out _ _ _ _

theorem piece_ok : PickPieceOk := fun A0 n0 c0 base A n c rows ps fav un w hnc hcm hn hfav hsm hA0 hA => (piece_okS A0 n0 c0 base A n c rows ps fav un w hnc hcm hn hfav hsm hA0 hA).mono fun e w' h => h.out
end Go.Proofs.YtoephlkfejcadaaGreat
