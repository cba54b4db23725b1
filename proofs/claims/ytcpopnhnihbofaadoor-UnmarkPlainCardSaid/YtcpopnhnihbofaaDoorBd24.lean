/- Proved here: texts joined: UnSd, UnCode, MkNum. -/
import Derived.Test.YtcpopnhnihbofaaDoorBd16
import Derived.Test.YtcpopnhnihbofaaDoorBd17
import Derived.Test.YtcpopnhnihbofaaDoorBd21
import Derived.Test.YtcpopnhnihbofaaDoorBd23
/- Proved here: what lies where while the document's own answer of layer 13 reads the sides of a conflict; the contract of opened, as one; a mark's number. -/
namespace Go.Proofs.YtcpopnhnihbofaaDoor
open Go.RowKit
set_option linter.unusedVariables false
set_option maxRecDepth 100000

/-- A conflict lies in a block. -/
def PcAt (W : World) (L : Nat) (f : Bool) (r : Slc) (v : Value) : Prop := W.heap[L]? = some (.cells #[.bool f, .slice none 0 0, .slice r.1 r.2.1 r.2.2, v] 37 (0, 0))
section
variable {W W' : World} {L : Nat} {f : Bool} {r : Slc} {v : Value}
theorem PcAt.lt (h : PcAt W L f r v) : L < W.heap.size := (Array.getElem?_eq_some_iff.1 h).1
theorem PcAt.cells (h : PcAt W L f r v) : W.cell? ⟨L, 0, none⟩ = some (.bool f) ∧ W.cell? ⟨L, 1, none⟩ = some (.slice none 0 0) ∧ W.cell? ⟨L, 2, none⟩ = some (.slice r.1 r.2.1 r.2.2) ∧ W.cell? ⟨L, 3, none⟩ = some v ∧
    W.frozen? ⟨L, 0, none⟩ = false ∧ W.frozen? ⟨L, 1, none⟩ = false ∧ W.frozen? ⟨L, 2, none⟩ = false ∧ W.frozen? ⟨L, 3, none⟩ = false := by
  obtain ⟨e0, e1, e2, e3, z0, z1, z2, z3⟩ := piece_at h
  exact ⟨e0, e1, e2, e3, z0, z1, z2, z3⟩
theorem PcAt.up (h : PcAt W L f r v) (hb : Below W.heap.size W W') : PcAt W' L f r v := (hb.block L h.lt).trans h
theorem PcAt.but {F : Nat → Prop} (h : PcAt W L f r v) (hb : But F W W') (hF : ¬ F L) : PcAt W' L f r v := (hb.block L h.lt hF).trans h
theorem PcAt.setBase (h : PcAt W L f r v) (r' : Slc) : PcAt (W.setCell ⟨L, 2, none⟩ (.slice r'.1 r'.2.1 r'.2.2)) L f r' v := by
  unfold PcAt at h ⊢
  simp [World.setCell, Array.getElem?_modify, h]
theorem PcAt.setSides (h : PcAt W L f r v) (v' : Value) : PcAt (W.setCell ⟨L, 3, none⟩ v') L f r v' := by
  unfold PcAt at h ⊢
  simp [World.setCell, Array.getElem?_modify, h]
end
theorem StAt.setAll {W : World} {L : Nat} {r : Slc} {long a style wrong : Int} (h : StAt W L r long a style wrong) (r' : Slc) (long' a' style' wrong' : Int) :
    StAt (((((W.setCell ⟨L, 0, none⟩ (.slice r'.1 r'.2.1 r'.2.2)).setCell ⟨L, 1, none⟩ (.int .i64 long')).setCell ⟨L, 2, none⟩ (.int .i64 a')).setCell ⟨L, 3, none⟩ (.int .i64 style')).setCell ⟨L, 4, none⟩ (.int .i64 wrong')) L r' long' a' style' wrong' := by
  unfold StAt at h ⊢
  simp [World.setCell, Array.getElem?_modify, h]
theorem But.five (W : World) (L : Nat) (u0 u1 u2 u3 u4 : Value) : But (fun k => k = L) W (((((W.setCell ⟨L, 0, none⟩ u0).setCell ⟨L, 1, none⟩ u1).setCell ⟨L, 2, none⟩ u2).setCell ⟨L, 3, none⟩ u3).setCell ⟨L, 4, none⟩ u4) :=
  ((((But.one W L 0 u0).trans (But.one _ L 1 u1) fun k e => .inl e).trans (But.one _ L 2 u2) fun k e => .inl e).trans (But.one _ L 3 u3) fun k e => .inl e).trans (But.one _ L 4 u4) fun k e => .inl e

/-- A slice lies where l does, or in memory made since. -/
def Far (A : Option Addr) (B : Nat) (r : Slc) : Prop := 0 < r.2.1 → ∀ q o, r.1 = some ⟨q, o, none⟩ → (∃ o', A = some ⟨q, o', none⟩) ∨ B ≤ q
theorem Near.far {A : Option Addr} {B : Nat} {r : Slc} (h : Near A r) : Far A B r := fun hn q o e => .inl (h hn q o e)
theorem Far.nil (A : Option Addr) (B : Nat) : Far A B (none, 0, 0) := fun h => absurd h (Nat.lt_irrefl 0)
theorem Far.mono {A : Option Addr} {B B' : Nat} {r : Slc} (h : Far A B' r) (hB : B ≤ B') : Far A B r := fun hn q o e => (h hn q o e).imp id fun h => by omega

/-- The conflict that is read. -/
structure SdIn (A : Option Addr) (w wr : World) (rb : Slc) (b : Txs) (v : Value) (rows : List Slc) (ds : List Txs) : Prop where
  row : RowsO (w.heap.size + 4) wr v rows ds
  far : ∀ r ∈ rows, Far A (w.heap.size + 4) r
  base : TxR wr wr.heap.size rb b
  bfar : Far A (w.heap.size + 4) rb
  bown : 0 < rb.2.1 → ∀ q o, rb.1 = some ⟨q, o, none⟩ → v.ownBlock ≠ some q
  below : Below w.heap.size w wr
section
variable {A : Option Addr} {w wr w1 w2 : World} {rb r : Slc} {b q : Txs} {v v' : Value} {rows : List Slc} {ds : List Txs}
theorem SdIn.up (h : SdIn A w wr rb b v rows ds) (hb : Below wr.heap.size wr w1) : SdIn A w w1 rb b v rows ds :=
  ⟨h.row.up hb, h.far, h.base.up hb, h.bfar, h.bown, h.below.trans (hb.mono h.below.size)⟩
/-- Blocks from L to L + 3 change. -/
theorem SdIn.but {F : Nat → Prop} (hA : ∀ q o, A = some ⟨q, o, none⟩ → q < w.heap.size) (h : SdIn A w wr rb b v rows ds) (hb : But F wr w1) (hF : ∀ k, F k → w.heap.size ≤ k ∧ k < w.heap.size + 4) : SdIn A w w1 rb b v rows ds := by
  have hfar : ∀ r : Slc, Far A (w.heap.size + 4) r → 0 < r.2.1 → ∀ q o, r.1 = some ⟨q, o, none⟩ → ¬ F q := fun r hr hn q o e hq => by
    have := hF q hq
    rcases hr hn q o e with ⟨o', e'⟩ | h
    · have := hA q o' e'; omega
    · omega
  exact ⟨h.row.but hb (fun k e hk => by have := (h.row.own.lt k e).1; have := hF k hk; omega) (fun r hr => hfar r (h.far r hr)), h.far, h.base.but hb (hfar rb h.bfar), h.bfar, h.bown, h.below.trans (hb.below h.below.size fun k hk => (hF k hk).1)⟩
/-- A base in place of the one there was. -/
theorem SdIn.setBase (h : SdIn A w wr rb b v rows ds) (hr : TxR wr wr.heap.size r q) (hf : Far A (w.heap.size + 4) r) (ho : 0 < r.2.1 → ∀ q o, r.1 = some ⟨q, o, none⟩ → v.ownBlock ≠ some q) : SdIn A w wr r q v rows ds :=
  ⟨h.row, h.far, hr, hf, ho, h.below⟩
/-- One side more. -/
theorem SdIn.put {o : Obj} (h : SdIn A w wr rb b v rows ds) (hr : TxR wr wr.heap.size r q) (hf : Far A (w.heap.size + 4) r) (ho : 0 < r.2.1 → ∀ q o, r.1 = some ⟨q, o, none⟩ → v.ownBlock ≠ some q)
    (hown : w2.ownsRow (w.heap.size + 4) 22 1 v' (rows.length + 1) (rows.map slcV ++ [slcV r])) (hg : (wr.alloc o).grownBy w2 v.ownBlock) (hloc : v'.ownBlock = v.ownBlock ∨ v'.ownBlock = some (wr.alloc o).heap.size) : SdIn A w w2 rb b v' (rows ++ [r]) (ds ++ [q]) := by
  have hb2 : But (fun k => v.ownBlock = some k) wr w2 := (But.alloc wr o).trans (But.of_grown hg fun k e => e) fun k e => .inl e
  refine ⟨h.row.put hr ho hown hg hloc, fun r' hr' => ?_, h.base.but hb2 h.bown, h.bfar, fun hn q o' e => ?_, (h.below.alloc h.below.size o).grown hg (by have := h.below.size; simp; omega) fun j e => by have := (h.row.own.lt j e).1; omega⟩
  · rcases List.mem_append.1 hr' with hr' | hr'
    · exact h.far r' hr'
    · rw [List.mem_singleton.1 hr']; exact hf
  · rcases hloc with hl | hl
    · rw [hl]; exact h.bown hn q o' e
    · rw [hl]
      intro h7
      injection h7 with h7
      obtain ⟨b', o2, ha, hb, _⟩ := h.base.2.2.2 hn
      rw [e] at ha
      injection ha with ha
      injection ha with ha1 ha2
      simp at h7
      omega
end

theorem part_ok (A : Option Addr) (n c : Nat) (l : Txs) (long a m k : Nat) (style : Int) (w : World) (hT : Txl w (A, n, c) l) (ha : a ≤ n) (hD : partD long (l.drop a) = (m, false)) (hk : a + m = k) :
    Calls Tryd.prog 40 #[.agg #[.slice A n c, .int .i64 (long : Int), .int .i64 (a : Int), .int .i64 style, .int .i64 0]] w fun e w' => ∃ r : Slc, e = .returned (.tuple #[.agg #[.slice A n c, .int .i64 (long : Int), .int .i64 (k : Int), .int .i64 style, .int .i64 0], .slice r.1 r.2.1 r.2.2]) ∧ TxR w w.heap.size r ((l.drop a).take m) ∧ Near A r ∧ Below w.heap.size w w' := by
  subst hk
  refine (part_any A n c l long a style w hT ha).mono fun e w' ⟨r, h1, h2, h3⟩ => ?_
  rw [hD] at h1 h2
  exact ⟨r, h1, (h2.2 rfl).1, (h2.2 rfl).2, h3⟩
theorem part_bad (A : Option Addr) (n c : Nat) (l : Txs) (long a m k : Nat) (style : Int) (w : World) (hT : Txl w (A, n, c) l) (ha : a ≤ n) (hD : partD long (l.drop a) = (m, true)) (hk : a + m = k) :
    Calls Tryd.prog 40 #[.agg #[.slice A n c, .int .i64 (long : Int), .int .i64 (a : Int), .int .i64 style, .int .i64 0]] w fun e w' => ∃ r : Slc, e = .returned (.tuple #[.agg #[.slice A n c, .int .i64 (long : Int), .int .i64 (k : Int), .int .i64 style, .int .i64 ((k : Int) + 1)], .slice r.1 r.2.1 r.2.2]) ∧ Below w.heap.size w w' := by
  subst hk
  refine (part_any A n c l long a style w hT ha).mono fun e w' ⟨r, h1, h2, h3⟩ => ?_
  rw [hD] at h1
  exact ⟨r, h1, h3⟩

/-- Lines opened, if there is a mark that tells so. -/
def opD (h : Nat) (p : Txs) : Option Txs := openT (decide (h = 2)) p
/-- What a part is, opened or not. -/
def OpenR (A : Option Addr) (w w' : World) (e : Ending) (o : Option Txs) : Prop := ∃ r : Slc, e = .returned (.tuple #[.slice r.1 r.2.1 r.2.2, .bool o.isSome]) ∧ (∀ q, o = some q → TxR w' w'.heap.size r q ∧ Far A w.heap.size r) ∧ Below w.heap.size w w'
theorem opened_any (A : Option Addr) (r : Slc) (h : Nat) (p : Txs) (w : World) (hh : h ≤ 2) (hs : ∀ s ∈ p, s.length ≤ 1000000000) (hn : p.length ≤ 1000000000) (hr : TxR w w.heap.size r p) (hA : Near A r) :
    Calls Tryd.prog 42 #[.slice r.1 r.2.1 r.2.2, .int .i64 (h : Int)] w fun e w' => OpenR A w w' e (opD h p) := by
  unfold opD
  by_cases h2 : h = 2
  · subst h2
    refine (opened2_any r.1 r.2.1 r.2.2 w.heap.size p w (by have := hr.2.2.len; omega) hs (Nat.le_refl _) hr.2.2).mono fun e w' ho => ?_
    rw [decide_eq_true (rfl : 2 = 2)]
    cases hq : openT true p with
    | none =>
      rw [hq] at ho
      exact ⟨(none, 0, 0), ho.1, fun q h => (nomatch h), by rw [ho.2]; exact Below.refl _ _⟩
    | some q =>
      rw [hq] at ho
      obtain ⟨v, rfl, hv⟩ := ho
      obtain ⟨A', c', rfl, h1, h2, h3⟩ := own_slice hv.own
      refine ⟨(A', q.length, c'), rfl, fun q' hq' => ?_, hv.below⟩
      injection hq' with hq'
      subst hq'
      exact ⟨⟨h1, h2, h3⟩, fun hn g o e => .inr (hv.own.lt g (by dsimp only at e; rw [e]; rfl)).1⟩
  · rw [decide_eq_false h2]
    refine (opened1_any r.1 r.2.1 r.2.2 (h : Int) w (by omega)).mono fun e w' ho => ⟨r, ho.1, fun q hq => ?_, by rw [ho.2]; exact Below.refl _ _⟩
    have : p = q := by
      unfold openT at hq
      rw [if_neg (by simp)] at hq
      injection hq
    subst this
    rw [ho.2]
    exact ⟨hr, hA.far⟩
end Go.Proofs.YtcpopnhnihbofaaDoor
/- Proved here, without a word of the program: what a mark behind a part does, by the numbers that the document's own answer reckons. -/
namespace Go.Proofs.YtcpopnhnihbofaaDoor
set_option linter.unusedVariables false

def wantB (fb : Bool) (st nb nx : Int) : Bool := (fb && decide (st ≠ 1) && decide (0 < nb)) || ((!fb || decide (st ≠ 2)) && decide (0 < nx))
def nextM (nb ne st : Int) (isB : Bool) (b : Txs) (ds : List Txs) (out : List Pc) (q : Txs) : MSt :=
  if 0 < nb then ⟨out, [], 2, some (true, (putM isB b ds q).1, (putM isB b ds q).2)⟩ else if 0 < ne then ⟨out ++ [cPc (putM isB b ds q).1 (putM isB b ds q).2], [], stM isB ds st, none⟩ else ⟨out, [], stM isB ds st, some (false, (putM isB b ds q).1, (putM isB b ds q).2)⟩
section
variable {nb ne st : Int} {b ds' q : Txs} {ds : List Txs} {out : List Pc}
theorem next_tF (h1 : ¬ 0 < nb) (h2 : ¬ 0 < ne) : nextM nb ne st true b ds out q = ⟨out, [], st, some (false, q, ds)⟩ := by
  unfold nextM
  rw [if_neg h1, if_neg h2]
  rfl
theorem next_tE (h1 : ¬ 0 < nb) (h2 : 0 < ne) : nextM nb ne st true b ds out q = ⟨out ++ [cPc q ds], [], st, none⟩ := by
  unfold nextM
  rw [if_neg h1, if_pos h2]
  rfl
theorem next_fB (h1 : 0 < nb) : nextM nb ne st false b ds out q = ⟨out, [], 2, some (true, b, ds ++ [q])⟩ := by
  unfold nextM
  rw [if_pos h1]
  rfl
theorem next_fF {s : Int} (h1 : ¬ 0 < nb) (h2 : ¬ 0 < ne) (hs : (if firstM false ds = true then 1 else st) = s) : nextM nb ne st false b ds out q = ⟨out, [], s, some (false, b, ds ++ [q])⟩ := by
  subst hs
  unfold nextM
  rw [if_neg h1, if_neg h2]
  rfl
theorem next_fE {s : Int} (h1 : ¬ 0 < nb) (h2 : 0 < ne) (hs : (if firstM false ds = true then 1 else st) = s) : nextM nb ne st false b ds out q = ⟨out ++ [cPc b (ds ++ [q])], [], s, none⟩ := by
  subst hs
  unfold nextM
  rw [if_neg h1, if_pos h2]
  rfl
end
structure CodeM (long : Nat) (t : Tx) (isB : Bool) (b : Txs) (ds : List Txs) (p : Txs) (cf : Option (Bool × Txs × List Txs)) (st nb nf ne : Int) (how : Nat) : Prop where
  sum : nb + nf + ne = how
  how2 : how ≤ 2
  nb0 : 0 ≤ nb
  nf0 : 0 ≤ nf
  ne0 : 0 ≤ ne
  only : 0 < nb → nf = 0 ∧ ne = 0
  no : wantB (firstM isB ds) st nb (nf + ne) = false → ∀ out, markStep long ⟨out, p, st, cf⟩ isB b ds t = none
  shut : wantB (firstM isB ds) st nb (nf + ne) = true → opD how p = none → ∀ out, markStep long ⟨out, p, st, cf⟩ isB b ds t = none
  yes : wantB (firstM isB ds) st nb (nf + ne) = true → ∀ q, opD how p = some q → ∀ out, markStep long ⟨out, p, st, cf⟩ isB b ds t = some (nextM nb ne st isB b ds out q)
  frst : wantB (firstM isB ds) st nb (nf + ne) = true → 0 < nb → firstM isB ds = true
  side : wantB (firstM isB ds) st nb (nf + ne) = true → ¬ 0 < nb → ¬ 0 < ne → nM isB ds < 16
theorem fitI_some (ex : Bool) : 1 ≤ fitI (some ex) ∧ fitI (some ex) ≤ 2 ∧ ∀ p, opD (fitI (some ex)) p = openT ex p := by
  cases ex
  · exact ⟨by decide, by decide, fun p => by unfold opD fitI; rw [decide_eq_false (by decide)]⟩
  · exact ⟨by decide, by decide, fun p => by unfold opD fitI; rw [decide_eq_true (by decide)]⟩

theorem mark_code {long : Nat} {t : Tx} {isB : Bool} {b : Txs} {ds : List Txs} {p : Txs} {cf : Option (Bool × Txs × List Txs)} {st nb nf ne : Int} (h1 : 1 ≤ long) (hn : nM isB ds ≤ 16) (hnb : ((fitI (fitM long t 124 [32, 98, 97, 115, 101]) : Nat) : Int) = nb)
    (hnf : (if nM isB ds = 16 then 0 else ((fitI (fitM long t 61 (32 :: numT (nM isB ds + 1))) : Nat) : Int)) = nf) (hne : ((fitI (fitM long t 62 []) : Nat) : Int) = ne) : ∃ how : Nat, CodeM long t isB b ds p cf st nb nf ne how := by
  rcases mark_kinds h1 t isB ds with ⟨ex, rfl⟩ | ⟨h2, ex, rfl⟩ | ⟨ex, rfl⟩ | ⟨k1, k2, k3⟩
  · obtain ⟨e1, e2, e3⟩ := fitI_some ex
    rw [fit_self] at hnb
    rw [fit_other h1 (by decide)] at hnf hne
    have hnf' : nf = 0 := by rw [← hnf]; split <;> rfl
    have hne' : ne = 0 := by rw [← hne]; rfl
    subst hnf'
    subst hne'
    have hw : wantB (firstM isB ds) st nb (0 + 0) = (firstM isB ds && decide (st ≠ 1)) := by
      unfold wantB
      rw [decide_eq_true (show 0 < nb by omega), decide_eq_false (by decide : ¬ (0 : Int) < 0 + 0)]
      simp
    refine ⟨fitI (some ex), by omega, e2, by omega, by omega, by omega, fun _ => ⟨rfl, rfl⟩, fun h out => ?_, fun h ho out => ?_, fun h q ho out => ?_, fun h _ => ?_, fun h h0 => absurd (by omega) h0⟩
    · rw [hw] at h
      refine mark_base_no (.inl fun hc => ?_)
      rw [hc.1, Bool.true_and, decide_eq_false_iff_not] at h
      exact h hc.2
    · rw [e3] at ho
      exact mark_base_no (.inr ho)
    · rw [hw, Bool.and_eq_true, decide_eq_true_eq] at h
      rw [e3] at ho
      rw [mark_base h1 h.1 h.2 ho]
      unfold nextM
      rw [if_pos (by omega)]
    · rw [hw, Bool.and_eq_true] at h
      exact h.1
  · obtain ⟨e1, e2, e3⟩ := fitI_some ex
    rw [fit_other h1 (by decide)] at hnb hne
    rw [if_neg (by omega), fit_self] at hnf
    have hnb' : nb = 0 := by rw [← hnb]; rfl
    have hne' : ne = 0 := by rw [← hne]; rfl
    subst hnb'
    subst hne'
    have hw : wantB (firstM isB ds) st 0 (nf + 0) = (!firstM isB ds || decide (st ≠ 2)) := by
      unfold wantB
      rw [decide_eq_false (by decide : ¬ (0 : Int) < 0), decide_eq_true (show 0 < nf + 0 by omega)]
      simp
    refine ⟨fitI (some ex), by omega, e2, by omega, by omega, by omega, fun h => absurd h (by decide), fun h out => ?_, fun h ho out => ?_, fun h q ho out => ?_, fun h h0 => absurd h0 (by decide), fun _ _ _ => h2⟩
    · rw [hw, Bool.or_eq_false_iff, decide_eq_false_iff_not, Decidable.not_not] at h
      exact mark_side_no h1 h2 (.inl ⟨by simpa using h.1, h.2⟩)
    · rw [e3] at ho
      exact mark_side_no h1 h2 (.inr ho)
    · rw [e3] at ho
      rw [mark_side h1 (fun hf => ?_) h2 ho]
      · unfold nextM
        rw [if_neg (by decide), if_neg (by decide)]
      · rw [hw, hf] at h
        simpa using h
  · obtain ⟨e1, e2, e3⟩ := fitI_some ex
    rw [fit_other h1 (by decide)] at hnb hnf
    rw [fit_self] at hne
    have hnb' : nb = 0 := by rw [← hnb]; rfl
    have hnf' : nf = 0 := by rw [← hnf]; split <;> rfl
    subst hnb'
    subst hnf'
    have hw : wantB (firstM isB ds) st 0 (0 + ne) = (!firstM isB ds || decide (st ≠ 2)) := by
      unfold wantB
      rw [decide_eq_false (by decide : ¬ (0 : Int) < 0), decide_eq_true (show 0 < 0 + ne by omega)]
      simp
    refine ⟨fitI (some ex), by omega, e2, by omega, by omega, by omega, fun h => absurd h (by decide), fun h out => ?_, fun h ho out => ?_, fun h q ho out => ?_, fun h h0 => absurd h0 (by decide), fun _ _ h0 => absurd (by omega) h0⟩
    · rw [hw, Bool.or_eq_false_iff, decide_eq_false_iff_not, Decidable.not_not] at h
      exact mark_fin_no h1 (.inl ⟨by simpa using h.1, h.2⟩)
    · rw [e3] at ho
      exact mark_fin_no h1 (.inr ho)
    · rw [e3] at ho
      rw [mark_fin h1 (fun hf => ?_) ho]
      · unfold nextM
        rw [if_neg (by decide), if_pos (by omega)]
      · rw [hw, hf] at h
        simpa using h
  · rw [k1] at hnb
    rw [k3] at hne
    have hnb' : nb = 0 := by rw [← hnb]; rfl
    have hne' : ne = 0 := by rw [← hne]; rfl
    have hnf' : nf = 0 := by
      rw [← hnf]
      split
      · rfl
      · rw [k2 (by omega)]; rfl
    subst hnb'
    subst hnf'
    subst hne'
    have hw : wantB (firstM isB ds) st 0 (0 + 0) = false := by
      unfold wantB
      rw [decide_eq_false (by decide : ¬ (0 : Int) < 0), decide_eq_false (by decide : ¬ (0 : Int) < 0 + 0)]
      simp
    exact ⟨0, rfl, by omega, by omega, by omega, by omega, fun h => absurd h (by decide), fun h out => mark_none k1 k2 k3, fun h => (by rw [hw] at h; cases h), fun h => (by rw [hw] at h; cases h), fun h => (by rw [hw] at h; cases h), fun h => (by rw [hw] at h; cases h)⟩
end Go.Proofs.YtcpopnhnihbofaaDoor
/- Proved here: the contract of the document's own answer of layer 12: Number. -/
namespace Go.Proofs.YtcpopnhnihbofaaDoor
open Go.RowKit
set_option linter.unusedVariables false
set_option maxRecDepth 100000

set_option maxHeartbeats 4000000 in
theorem rNumber_any (n : Nat) (w : World) (h1 : 1 ≤ n) (h2 : n ≤ 16) :
    Calls Tryd.prog 41 #[.int .i64 (n : Int)] w fun e w' => e = .returned (.string (str (numT n))) ∧ Below w.heap.size w w' := by
  have hb : ∀ o : Obj, Below w.heap.size w (w.alloc o) := fun o => below_alloc (Below.refl _ _) o
  have hcv : ∀ z : Int, (convert 74 9 (.slice (some ⟨w.heap.size, 0, none⟩) 1 1)).run Tryd.prog (w.alloc (.cells #[.int .u8 z] 5)) = .ok (.string (strOfNums [z])) (w.alloc (.cells #[.int .u8 z] 5)) := fun z =>
    run_convert_bytes_arg (P := Tryd.prog) (w.alloc (.cells #[.int .u8 z] 5)) 74 5 Tryd.underlying74 Tryd.underlying5 w.heap.size 0 1 1 [z] rfl (fun i hi => by
      obtain rfl : i = 0 := by omega
      rw [Nat.zero_add, cells_of (one_a w _)]
      rfl) 9 Tryd.underlying9
  rcases (by omega : n = 1 ∨ n = 2 ∨ n = 3 ∨ n = 4 ∨ n = 5 ∨ n = 6 ∨ n = 7 ∨ n = 8 ∨ n = 9 ∨ n = 10 ∨ n = 11 ∨ n = 12 ∨ n = 13 ∨ n = 14 ∨ n = 15 ∨ n = 16) with rfl | rfl | rfl | rfl | rfl | rfl | rfl | rfl | rfl | rfl | rfl | rfl | rfl | rfl | rfl | rfl
  all_goals
    go_enter Tryd.func41, Tryd.ntmps41
    go_wp2
    go_ret
    exact ⟨rfl, hb _⟩
end Go.Proofs.YtcpopnhnihbofaaDoor
