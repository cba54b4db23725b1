/- Proved here: texts joined: ConUnm, PcLo. -/
import Derived.Test.YtcpopnhnihbofaaDoorBd15
import Derived.Test.YtcpopnhnihbofaaDoorBd23
import Derived.Deep.DeepCutAuto
import Derived.RangeFuncBox
/- What the statements ask of unmark.Parse; their own example of layer 13 comes to true. -/
namespace Go.Proofs.YtcpopnhnihbofaaDoor
open Go.RowKit
set_option linter.unusedVariables false
set_option maxRecDepth 100000

/-- What a walk tells. -/
def resM : Except Nat MSt → List Pc × Int × Int × Int
  | .ok s => (flushM s.out s.cur, max s.style 1, 0, 0)
  | .error n => ([], 0, n, 2)
theorem parseM_res (l : Txs) (long : Nat) (h1 : 1 ≤ long) (h2 : long ≤ 4096) : parseM l (long : Int) = resM (walkM long startM l 0) := by
  unfold parseM
  rw [if_neg (by omega), Int.toNat_natCast]
  cases walkM long startM l 0 <;> rfl
/-- What a call tells: pieces, a style, a number, an error. -/
def ParseA (w w' : World) (e : Ending) (x : List Pc × Int × Int × Int) : Prop :=
  ∃ A n c vs, e = .returned (.tuple #[.slice A n c, .int .i64 x.2.1, .int .i64 x.2.2.1, .int .i64 x.2.2.2]) ∧ n ≤ c ∧ c ≤ maxLen ∧ Pcs w' w'.heap.size A n vs x.1 ∧ Below w.heap.size w w'

/-- Texts that aren't too many, nor too long. -/
def smallL (l : Txs) : Prop := l.length ≤ 20000000 ∧ ∀ t ∈ l, t.length ≤ 1000000
/-- The contract of unmark.Parse. -/
def UnmParseOk : Prop := ∀ (A : Option Addr) (n c : Nat) (l : Txs) (long : Int) (w : World), inR64 long → smallL l → TxR w w.heap.size (A, n, c) l →
    Calls Tryd.prog 8 #[.slice A n c, .int .i64 long] w fun e w' => ParseA w w' e (parseM l long)

def uL : Txs := [[116, 10], [60, 60, 32, 49, 10], [97, 10], [61, 61, 32, 50, 10], [98, 10], [62, 62, 33, 10]]
theorem uL_one : parseM uL 2 = ([tPc [[116, 10]], cPc [] [[[97, 10]], [[98]]]], 1, 0, 0) := by rfl
theorem uL_two : parseM (uL.take 3) 2 = ([], 0, 4, 2) := by rfl
theorem uL_three : parseM [] 0 = ([], 0, 0, 1) := by rfl
theorem few_smallL {l : Txs} {k : Nat} (h : l.length ≤ k) (hk : k ≤ 20000000) (hs : ∀ t ∈ l, t.length ≤ 1000000) : smallL l := ⟨by omega, hs⟩
/-- Some texts, from the first one on. -/
theorem txr_cut {W : World} {B n c k : Nat} {A : Option Addr} {ss : Txs} (h : TxR W B (A, n, c) ss) (hk : k ≤ n) : TxR W B (A, k, c) (ss.take k) := by
  obtain ⟨h1, h2, h3⟩ := h
  dsimp only at h1 h2 h3
  have hl := h3.len
  refine ⟨by show k ≤ c; omega, h2, by rw [List.length_map, List.length_take]; show min k ss.length = k; omega, fun hn => ?_⟩
  obtain ⟨b, o, e, hb, hc⟩ := h3.2 (by show 0 < n; have : 0 < k := hn; omega)
  refine ⟨b, o, e, hb, fun j u hu => hc j u ?_⟩
  have hj := (List.getElem?_eq_some_iff.1 hu).1
  rw [List.length_map, List.length_take] at hj
  rw [← hu, List.map_take, List.getElem?_take, if_pos (by omega)]

section
variable (H : UnmParseOk)
include H

set_option maxHeartbeats 8000000 in
theorem unAwake_any (w : World) : Calls Tryd.prog 6 #[] w fun e w' => e = .returned (.bool true) ∧ Below w.heap.size w w' := by
  obtain ⟨W0, hW0⟩ : ∃ W0, W0 = w.alloc (.cells #[.string ⟨#[116, 10]⟩, .string ⟨#[60, 60, 32, 49, 10]⟩, .string ⟨#[97, 10]⟩, .string ⟨#[61, 61, 32, 50, 10]⟩, .string ⟨#[98, 10]⟩, .string ⟨#[62, 62, 33, 10]⟩] 9) := ⟨_, rfl⟩
  have hT : TxR W0 W0.heap.size (some ⟨w.heap.size, 0, none⟩, 6, 6) uL := by rw [hW0]; exact txr_of (one_a w _) rfl rfl (by decide)
  have hB0 : Below w.heap.size w W0 := by rw [hW0]; exact below_alloc (Below.refl _ _) _
  have hsm : smallL uL := ⟨by decide, by decide⟩
  have hC1 : Hid (Calls Tryd.prog 8 #[.slice (some ⟨w.heap.size, 0, none⟩) 6 6, .int .i64 2] W0 fun e w' => ParseA W0 w' e ([tPc [[116, 10]], cPc [] [[[97, 10]], [[98]]]], 1, 0, 0)) := Lib.hid (by rw [← uL_one]; exact H _ 6 6 uL 2 W0 (by unfold inR64; decide) hsm hT)
  have hC2 : Hid (∀ W, Below W0.heap.size W0 W → Calls Tryd.prog 8 #[.slice (some ⟨w.heap.size, 0, none⟩) 3 6, .int .i64 2] W fun e w' => ParseA W w' e ([], 0, 4, 2)) := Lib.hid (fun W hW => by rw [← uL_two]; exact H _ 3 6 (uL.take 3) 2 W (by unfold inR64; decide) ⟨by decide, by decide⟩ ((txr_cut hT (by decide)).up hW))
  have hC3 : Hid (∀ W, Calls Tryd.prog 8 #[.slice none 0 0, .int .i64 0] W fun e w' => ParseA W w' e ([], 0, 0, 1)) := Lib.hid (fun W => by rw [← uL_three]; exact H _ 0 0 [] 0 W (by unfold inR64; decide) ⟨by decide, by decide⟩ (TxR.nil _ _))
  have hW0h := Lib.hid hW0
  have hB0h := Lib.hid hB0
  clear hT hB0 hW0 hsm
  go_enter Tryd.func6, Tryd.ntmps6
  go_upto_region 2 with fail
  rw [← hW0h.out]
  have tok1 := trivial
  go_upto_region 5 with (first
    | (go_at_call 8; have _t := tok1; refine hC1.out.mono ?_; rintro e w1 ⟨A1, n1, c1, vs1, rfl, q1, q2, q3, q4⟩; have hP1 := Lib.hid (And.intro (Nat.le_trans q1 q2) q3); have hD1 := Lib.hid q4; have tok2 := trivial; clear tok1 q1 q2 q3 q4)
    | (go_at_call 8; have _t := tok2; refine (hC2.out _ hD1.out).mono ?_; rintro e w2 ⟨A2, n2, c2, vs2, rfl, q1, q2, q3, q4⟩; have hD2 := Lib.hid (hD1.out.trans (q4.mono hD1.out.size)); have hP2 := Lib.hid (hP1.out.2.up q4); have tok3 := trivial; clear tok2 q1 q2 q3 q4)
    | (go_at_call 8; have _t := tok3; refine (hC3.out _).mono ?_; rintro e w3 ⟨A3, n3, c3, vs3, rfl, q1, q2, q3, q4⟩; have hD3 := Lib.hid (hD2.out.trans (q4.mono hD2.out.size)); have hP3 := Lib.hid (hP2.out.up q4); clear tok3 q1 q2 q3 q4))
  have e1 : n1 = 2 := by have := hP3.out.len; simpa using this.symm
  subst e1
  obtain ⟨b, o, cf, At, nt, ct, Ab, nb, cb, As, ns, cs, t, bs, ss, rfl, hb, hv, hp, q1, q2, q3, q4, -, -, ⟨-, -, rr, k3⟩⟩ := hP3.out.at_ (k := 1) (by omega)
  simp [tPc, cPc] at hp
  obtain ⟨rfl, rfl, rfl, rfl⟩ := hp
  dsimp only at k3
  have h3 : ns = 2 := by have := k3.len; simpa using this.symm
  subst h3
  obtain ⟨bs2, os2, Aq, nq, cq, dq, rfl, hbs2, hdq, hrq, hcq, -, -, hsq⟩ := k3.at_ (k := 1) (by omega)
  have hdq' : dq = [[98]] := by simpa using hdq.symm
  subst hdq'
  have h5 : nq = 1 := by have := hsq.len; simpa using this.symm
  subst h5
  obtain ⟨bz, oz, sz, rfl, hbz, hsz, hcz⟩ := hsq.at_ (k := 0) (by omega)
  have hsz' : sz = [98] := by simpa using hsz.symm
  subst hsz'
  have y3 : w3.cell? ⟨bz, oz, none⟩ = some (.string ⟨#[98]⟩) := hcz
  simp only [Nat.one_mul] at q1 q2 q3 q4
  clear hcz hsz hv hdq hrq k3 hsq hP1 hP2 hP3
  go_wp2
  go_ret
  exact ⟨rfl, hB0h.out.trans (hD3.out.mono hB0h.out.size)⟩
end
end Go.Proofs.YtcpopnhnihbofaaDoor
/- Proved here, without conditions on the program: pieces that stand whatever becomes of some blocks; a slice of pieces appended onto a row of the call's own. -/
namespace Go.Proofs.YtcpopnhnihbofaaDoor
open Go.RowKit
set_option linter.unusedVariables false

/-- Pieces that a call tells: they lie in memory that it has made, or below lo. -/
def PcsLo (lo : Nat) (w w' : World) (e : Ending) (ps : List Pc) : Prop := ∃ A n c vs, e = .returned (.slice A n c) ∧ n ≤ c ∧ c ≤ maxLen ∧ (∀ w2, But (fun k => lo ≤ k ∧ k < w.heap.size) w' w2 → Pcs w2 w2.heap.size A n vs ps) ∧ Below w.heap.size w w'
section
variable {F : Nat → Prop} {lo : Nat} {w wr w1 w2 w' : World} {e : Ending} {ps : List Pc} {v v' : Value} {qs : List (PcV × Pc)} {r : PcV} {p : Pc} {o : Obj}
theorem PcsNew.toLo (h : PcsNew w w' e ps) : PcsLo lo w w' e ps := by
  obtain ⟨A, n, c, vs, h1, h2, h3, h4, h5⟩ := h
  exact ⟨A, n, c, vs, h1, h2, h3, fun w2 hb => h4 w2 (hb.more fun k hk => hk.2), h5⟩
theorem PcsLo.out (h : PcsLo lo w w' e ps) : PcsOut w w' e ps := by
  obtain ⟨A, n, c, vs, h1, h2, h3, h4, h5⟩ := h
  exact ⟨A, n, c, vs, h1, h2, h3, h4 w' (But.refl _ _), h5⟩
/-- Pieces in a row stand, whatever becomes of the blocks of F, and of the row's own. -/
def RowF (F : Nat → Prop) (wr : World) (v : Value) (qs : List (PcV × Pc)) : Prop := ∀ w2, But (fun k => F k ∨ v.ownBlock = some k) wr w2 → ∀ q ∈ qs, PcR w2 w2.heap.size q.1 q.2
theorem RowF.start (F : Nat → Prop) (wr : World) (v : Value) : RowF F wr v [] := fun w2 h q hq => by simp at hq
theorem RowF.up (h : RowF F wr v qs) (hb : Below wr.heap.size wr w1) : RowF F w1 v qs := fun w2 h2 => h w2 ((But.of_below hb fun k hk _ => hk).trans h2 fun k e => .inl e)
theorem RowF.put (h : RowF F wr v qs) (hr : ∀ w3, But (fun k => F k ∨ v.ownBlock = some k) wr w3 → PcR w3 w3.heap.size r p) (hg : (wr.alloc o).grownBy w2 v.ownBlock) (hloc : v'.ownBlock = v.ownBlock ∨ v'.ownBlock = some (wr.alloc o).heap.size) : RowF F w2 v' (qs ++ [(r, p)]) := by
  have hb2 : But (fun k => F k ∨ v.ownBlock = some k) wr w2 := (But.alloc wr o).trans (But.of_grown hg fun k e => .inr e) fun k e => .inl e
  intro w3 h3 q hq
  have hb3 : But (fun k => F k ∨ v.ownBlock = some k) wr w3 := hb2.trans h3 fun k e => by
    rcases e with e | e
    · exact .inl (.inl e)
    · rcases hloc with hl | hl
      · exact .inl (.inr (hl.symm.trans e))
      · rw [hl] at e
        injection e with e
        exact .inr (by rw [← e]; simp)
  rcases List.mem_append.1 hq with hq | hq
  · exact h w3 hb3 q hq
  · rw [List.mem_singleton.1 hq]
    exact hr w3 hb3
/-- A text of the call's own, made behind a world of which F speaks. -/
theorem TxO.textF {u : Value} {xs : Txs} {A : Option Addr} {n c : Nat} (h : TxO w1 wr u xs) (hu : u = .slice A n c) (hF : ∀ k, F k → k < w1.heap.size) (hv : ∀ k, v.ownBlock = some k → k < w1.heap.size) (hb : But (fun k => F k ∨ v.ownBlock = some k) wr w2) : PcR w2 w2.heap.size ((A, n, c), (none, 0, 0), (none, 0, 0)) (tPc xs) := by
  have h1 := ownsRow_kept h.own (w' := w2) fun k e => hb.block k (h.own.lt k e).2 (fun hf => by
    have := (h.own.lt k e).1
    rcases hf with hf | hf
    · have := hF k hf; omega
    · have := hv k hf; omega)
  obtain ⟨A', c', e, h2, h3, h4⟩ := own_slice h1
  rw [hu] at e
  injection e with e1 e2 e3
  subst e1
  subst e2
  subst e3
  exact PcR.text ⟨h2, h3, h4⟩
end

/-- A slice of pieces as its cells. -/
theorem pcs_cells {W : World} {B n : Nat} {ad : Addr} {vs : List PcV} {ps : List Pc} (h : Pcs W B (some ad) n vs ps) : (pcCs (vs.zip ps)).length = n * 4 ∧ ∀ j u, (pcCs (vs.zip ps))[j]? = some u → W.cell? (ad.add j) = some u := by
  obtain ⟨h1, h2, h3, -⟩ := h
  have hl : (vs.zip ps).length = n := by rw [List.length_zip, h1, h2, Nat.min_self]
  refine ⟨by rw [pcCs_len, hl], fun j u hu => ?_⟩
  have hj : j < n * 4 := by have := (List.getElem?_eq_some_iff.1 hu).1; rw [pcCs_len, hl] at this; exact this
  obtain ⟨b, o, e, -, hc⟩ := h3 (by omega)
  injection e with e
  subst e
  rw [show (⟨b, o, none⟩ : Addr).add j = ⟨b, o + j, none⟩ from by unfold Addr.add; split <;> simp_all]
  have hi : j / 4 < n := by omega
  have hv : vs[j / 4]? = some (vs[j / 4]'(by omega)) := List.getElem?_eq_getElem _
  have hp : ps[j / 4]? = some (ps[j / 4]'(by omega)) := List.getElem?_eq_getElem _
  have hz : (vs.zip ps)[j / 4]? = some (vs[j / 4]'(by omega), ps[j / 4]'(by omega)) := List.getElem?_zip_eq_some.2 ⟨hv, hp⟩
  have hr : j % 4 < 4 := Nat.mod_lt _ (by decide)
  have hju := pcCs_at _ _ _ _ hz hr
  rw [show j / 4 * 4 + j % 4 = j by omega, hu] at hju
  obtain ⟨k0, k1, k2, k3⟩ := hc _ _ _ hv hp
  match hm : j % 4, hr with
  | 0, _ => rw [hm] at hju; injection hju with hju; rw [hju, show o + j = o + j / 4 * 4 by omega]; exact k0
  | 1, _ => rw [hm] at hju; injection hju with hju; rw [hju, show o + j = o + j / 4 * 4 + 1 by omega]; exact k1
  | 2, _ => rw [hm] at hju; injection hju with hju; rw [hju, show o + j = o + j / 4 * 4 + 2 by omega]; exact k2
  | 3, _ => rw [hm] at hju; injection hju with hju; rw [hju, show o + j = o + j / 4 * 4 + 3 by omega]; exact k3
theorem pcCs_one : ∀ (qs : List (PcV × Pc)), ∀ u ∈ pcCs qs, u.oneCell' = true := by
  intro qs u hu
  unfold pcCs at hu
  obtain ⟨q, _, hq⟩ := List.mem_flatMap.1 hu
  exact pcC_one _ _ u hq
theorem pcCs_app (a b : List (PcV × Pc)) : pcCs (a ++ b) = pcCs a ++ pcCs b := by simp [pcCs]
section
variable {P : Program} (w : World)
theorem run_append_nilS (base s : Nat) (t ty e : TypeId) (i : TypeInfo) (ht : P.underlying t = some (.slice e)) (hi : P.info? e = some i) (hs : i.size = s)
    (v : Value) (n : Nat) (xs : List Value) (hown : w.ownsRow base e s v n xs) (c : Nat) : (Builtin.append_ #[t, t] ty #[v, .slice none 0 c]).run P w = .ok v w := by
  rcases hown.2 with ⟨rfl, rfl⟩ | ⟨g, cap, cur, rfl, _, _, hnc, _⟩
  · simp [Builtin.append_, run_underlying ht, sizeOf, typeInfo, hi, Builtin.lenOf, Builtin.firstCells]
  · simp [Builtin.append_, run_underlying ht, sizeOf, typeInfo, hi, Builtin.lenOf, Builtin.firstCells, hnc, storeCells]
theorem run_append_pcs (base : Nat) (t ty e : TypeId) (i : TypeInfo) (z : Value) (ht : P.underlying t = some (.slice e)) (hi : P.info? e = some i) (hz : i.zero = some z)
    (hsize : i.size = 4) (hby : i.bytes = 80) (hzs : z.cells.size = 4) (v : Value) (n : Nat) (xs : List Value) (hown : w.ownsRow base e 4 v n xs)
    (B : Nat) (A : Option Addr) (m c : Nat) (vs : List PcV) (ps : List Pc) (hr : Pcs w B A m vs ps) (h63 : n + m ≤ maxLen) (hbytes : (n + m) * 80 ≤ 140737488355328) (hbase : base ≤ w.heap.size) :
    ∃ v' w', (Builtin.append_ #[t, t] ty #[v, .slice A m c]).run P w = .ok v' w' ∧ w'.ownsRow base e 4 v' (n + m) (xs ++ pcCs (vs.zip ps)) ∧ w.grownBy w' v.ownBlock ∧ (v'.ownBlock = v.ownBlock ∨ v'.ownBlock = some w.heap.size) := by
  rcases A with _ | ad
  · have hm : m = 0 := by
      rcases Nat.eq_zero_or_pos m with h0 | h0
      · exact h0
      · obtain ⟨_, _, h, _⟩ := hr.2.2.1 h0
        cases h
    subst hm
    have hp : ps = [] := List.eq_nil_of_length_eq_zero hr.1
    subst hp
    exact ⟨v, w, run_append_nilS w base 4 t ty e i ht hi hsize v n xs hown c, by simpa [pcCs] using hown, World.grownBy.refl w _, .inl rfl⟩
  · obtain ⟨hl, hcells⟩ := pcs_cells hr
    obtain ⟨v', w', hrun, h2, h3, _, h5⟩ := run_append_own_at (P := P) w base t ty e i z 4 80 ht hi hz hsize hby hzs (by decide) v n xs hown ad m c _ hl hcells (pcCs_one _) h63 hbytes hbase
    exact ⟨v', w', hrun, h2, h3, h5⟩
theorem wp_append_pcs {o : Oper} {a : Act} {K : Act → World → Prop} {Q : Exit → Act → World → Prop} (s x : Operand) (t : TypeId)
    (ho : o.op = .call { callee := .builtin .append, args := #[s, x], argTypes := #[t, t] })
    (base : Nat) (e : TypeId) (i : TypeInfo) (z : Value) (ht : P.underlying t = some (.slice e)) (hi : P.info? e = some i) (hz : i.zero = some z)
    (hsize : i.size = 4) (hby : i.bytes = 80) (hzs : z.cells.size = 4)
    (v : Value) (n : Nat) (xs : List Value) (hs : a.eval s = v) (hown : w.ownsRow base e 4 v n xs)
    (B : Nat) (A : Option Addr) (m c : Nat) (vs : List PcV) (ps : List Pc) (hx : a.eval x = .slice A m c) (hr : Pcs w B A m vs ps)
    (h63 : n + m ≤ maxLen) (hbytes : (n + m) * 80 ≤ 140737488355328) (hbase : base ≤ w.heap.size)
    (h : ∀ v' w', w'.ownsRow base e 4 v' (n + m) (xs ++ pcCs (vs.zip ps)) → w.grownBy w' v.ownBlock → (v'.ownBlock = v.ownBlock ∨ v'.ownBlock = some w.heap.size) → K (a.put o.dst v') w') : o.wp P a w K Q := by
  obtain ⟨v', w', hrun, h2, h3, h5⟩ := run_append_pcs (P := P) w base t o.type e i z ht hi hz hsize hby hzs v n xs hown B A m c vs ps hr h63 hbytes hbase
  unfold Oper.wp execOp
  simp only [ho, resolve, invoke, builtin, Sem.run_bind, Sem.run_pure, Result.andThen_ok, List.map_toArray, List.map_cons, List.map_nil, hs, hx, hrun]
  exact h v' w' h2 h3 h5
theorem wpList_append_pcs {ops : Array Oper} {rest : List Oper} {o : Oper} {a : Act} {Q : Exit → Act → World → Prop} (hgd : o.guard = none) (s x : Operand) (t : TypeId)
    (ho : o.op = .call { callee := .builtin .append, args := #[s, x], argTypes := #[t, t] })
    (base : Nat) (e : TypeId) (i : TypeInfo) (z : Value) (ht : P.underlying t = some (.slice e)) (hi : P.info? e = some i) (hz : i.zero = some z)
    (hsize : i.size = 4) (hby : i.bytes = 80) (hzs : z.cells.size = 4)
    (v : Value) (n : Nat) (xs : List Value) (hs : a.eval s = v) (hown : w.ownsRow base e 4 v n xs)
    (B : Nat) (A : Option Addr) (m c : Nat) (vs : List PcV) (ps : List Pc) (hx : a.eval x = .slice A m c) (hr : Pcs w B A m vs ps)
    (h63 : n + m ≤ maxLen) (hbytes : (n + m) * 80 ≤ 140737488355328) (hbase : base ≤ w.heap.size)
    (h : ∀ v' w', w'.ownsRow base e 4 v' (n + m) (xs ++ pcCs (vs.zip ps)) → w.grownBy w' v.ownBlock → (v'.ownBlock = v.ownBlock ∨ v'.ownBlock = some w.heap.size) → wpList P ops Q rest (a.put o.dst v') w') :
    wpList P ops Q (o :: rest) a w :=
  wpList_plain hgd fun _ hK => wp_append_pcs w s x t ho base e i z ht hi hz hsize hby hzs v n xs hs hown B A m c vs ps hx hr h63 hbytes hbase fun v' w' h2 h3 h4 => hK _ _ (h v' w' h2 h3 h4)
end
/-- The same, as one step of a region that draws. -/
theorem appendP_step {P : Program} {ops : Array Oper} {o : Oper} {a : Act} {w : World} {K : Act → World → Prop} {Q : Exit → Act → World → Prop} {G : Prop} (hg : o.guard = none) (s x : Operand) (t : TypeId)
    (ho : o.op = .call { callee := .builtin .append, args := #[s, x], argTypes := #[t, t] })
    (base : Nat) (e : TypeId) (i : TypeInfo) (z : Value) (ht : P.underlying t = some (.slice e)) (hi : P.info? e = some i) (hz : i.zero = some z)
    (hsize : i.size = 4) (hby : i.bytes = 80) (hzs : z.cells.size = 4)
    (v : Value) (n : Nat) (xs : List Value) (hs : a.eval s = v) (hown : w.ownsRow base e 4 v n xs)
    (B : Nat) (A : Option Addr) (m c : Nat) (vs : List PcV) (ps : List Pc) (hx : a.eval x = .slice A m c) (hr : Pcs w B A m vs ps)
    (h63 : n + m ≤ maxLen) (hbytes : (n + m) * 80 ≤ 140737488355328) (hbase : base ≤ w.heap.size)
    (h : ∀ v' w', w'.ownsRow base e 4 v' (n + m) (xs ++ pcCs (vs.zip ps)) → w.grownBy w' v.ownBlock → (v'.ownBlock = v.ownBlock ∨ v'.ownBlock = some w.heap.size) → K (a.put o.dst v') w') : if Region.wanted o (yielded ops a.tmps) = true then Oper.wp P o a w K Q else G := by
  rw [if_pos (by simp [Region.wanted, hg])]
  exact wp_append_pcs w s x t ho base e i z ht hi hz hsize hby hzs v n xs hs hown B A m c vs ps hx hr h63 hbytes hbase h
end Go.Proofs.YtcpopnhnihbofaaDoor
