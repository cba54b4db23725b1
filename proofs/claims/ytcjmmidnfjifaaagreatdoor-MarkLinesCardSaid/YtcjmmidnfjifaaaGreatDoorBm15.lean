/- Proved here: texts joined: PcLo, Steps. -/
import Derived.Test.YtcjmmidnfjifaaaGreatDoorBm02
import Derived.Test.YtcjmmidnfjifaaaGreatDoorBm12
import Derived.Deep.RegionLaw
import Derived.Maps.AppendAt
import Derived.OwnWalk
/- Proved here, without conditions on the program: pieces that stand whatever becomes of some blocks; a slice of pieces appended onto a row of the call's own. -/
namespace Go.Proofs.YtcjmmidnfjifaaaGreatDoor
open Go.RowKit
set_option linter.unusedVariables false

/-- Pieces that a call tells: they lie in memory that it has made, or below lo. -/
def PcsLo (lo : Nat) (w w' : World) (e : Ending) (ps : List Pc) : Prop := ∃ A n c vs, e = .returned (.slice A n c) ∧ n ≤ c ∧ c ≤ maxLen ∧ (∀ w2, But (fun k => lo ≤ k ∧ k < w.heap.size) w' w2 → Pcs w2 w2.heap.size A n vs ps) ∧ Below w.heap.size w w'
section
variable {F : Nat → Prop} {lo : Nat} {w wr w1 w2 w' : World} {e : Ending} {ps : List Pc} {v v' : Value} {qs : List (PcV × Pc)} {r : PcV} {p : Pc} {o : Obj}
theorem PcsNew.toLo (h : PcsNew w w' e ps) : PcsLo lo w w' e ps := by
  obtain ⟨A, n, c, vs, h1, h2, h3, h4, h5⟩ := h
  exact ⟨A, n, c, vs, h1, h2, h3, fun w2 hb => h4 w2 (hb.more fun k hk => hk.2), h5⟩
theorem PcsLo.out (h : PcsLo lo w w' e ps) : PcsOut w w' e ps := by
  obtain ⟨A, n, c, vs, h1, h2, h3, h4, h5⟩ := h
  exact ⟨A, n, c, vs, h1, h2, h3, h4 w' (But.refl _ _), h5⟩
/-- Pieces in a row stand, whatever becomes of the blocks of F, and of the row's own. -/
def RowF (F : Nat → Prop) (wr : World) (v : Value) (qs : List (PcV × Pc)) : Prop := ∀ w2, But (fun k => F k ∨ v.ownBlock = some k) wr w2 → ∀ q ∈ qs, PcR w2 w2.heap.size q.1 q.2
theorem RowF.start (F : Nat → Prop) (wr : World) (v : Value) : RowF F wr v [] := fun w2 h q hq => by simp at hq
theorem RowF.up (h : RowF F wr v qs) (hb : Below wr.heap.size wr w1) : RowF F w1 v qs := fun w2 h2 => h w2 ((But.of_below hb fun k hk _ => hk).trans h2 fun k e => .inl e)
theorem RowF.put (h : RowF F wr v qs) (hr : ∀ w3, But (fun k => F k ∨ v.ownBlock = some k) wr w3 → PcR w3 w3.heap.size r p) (hg : (wr.alloc o).grownBy w2 v.ownBlock) (hloc : v'.ownBlock = v.ownBlock ∨ v'.ownBlock = some (wr.alloc o).heap.size) : RowF F w2 v' (qs ++ [(r, p)]) := by
  have hb2 : But (fun k => F k ∨ v.ownBlock = some k) wr w2 := (But.alloc wr o).trans (But.of_grown hg fun k e => .inr e) fun k e => .inl e
  intro w3 h3 q hq
  have hb3 : But (fun k => F k ∨ v.ownBlock = some k) wr w3 := hb2.trans h3 fun k e => by
    rcases e with e | e
    · exact .inl (.inl e)
    · rcases hloc with hl | hl
      · exact .inl (.inr (hl.symm.trans e))
      · rw [hl] at e
        injection e with e
        exact .inr (by rw [← e]; simp)
  rcases List.mem_append.1 hq with hq | hq
  · exact h w3 hb3 q hq
  · rw [List.mem_singleton.1 hq]
    exact hr w3 hb3
/-- A text of the call's own, made behind a world of which F speaks. -/
theorem TxO.textF {u : Value} {xs : Txs} {A : Option Addr} {n c : Nat} (h : TxO w1 wr u xs) (hu : u = .slice A n c) (hF : ∀ k, F k → k < w1.heap.size) (hv : ∀ k, v.ownBlock = some k → k < w1.heap.size) (hb : But (fun k => F k ∨ v.ownBlock = some k) wr w2) : PcR w2 w2.heap.size ((A, n, c), (none, 0, 0), (none, 0, 0)) (tPc xs) := by
  have h1 := ownsRow_kept h.own (w' := w2) fun k e => hb.block k (h.own.lt k e).2 (fun hf => by
    have := (h.own.lt k e).1
    rcases hf with hf | hf
    · have := hF k hf; omega
    · have := hv k hf; omega)
  obtain ⟨A', c', e, h2, h3, h4⟩ := own_slice h1
  rw [hu] at e
  injection e with e1 e2 e3
  subst e1
  subst e2
  subst e3
  exact PcR.text ⟨h2, h3, h4⟩
end

/-- A slice of pieces as its cells. -/
theorem pcs_cells {W : World} {B n : Nat} {ad : Addr} {vs : List PcV} {ps : List Pc} (h : Pcs W B (some ad) n vs ps) : (pcCs (vs.zip ps)).length = n * 4 ∧ ∀ j u, (pcCs (vs.zip ps))[j]? = some u → W.cell? (ad.add j) = some u := by
  obtain ⟨h1, h2, h3, -⟩ := h
  have hl : (vs.zip ps).length = n := by rw [List.length_zip, h1, h2, Nat.min_self]
  refine ⟨by rw [pcCs_len, hl], fun j u hu => ?_⟩
  have hj : j < n * 4 := by have := (List.getElem?_eq_some_iff.1 hu).1; rw [pcCs_len, hl] at this; exact this
  obtain ⟨b, o, e, -, hc⟩ := h3 (by omega)
  injection e with e
  subst e
  rw [show (⟨b, o, none⟩ : Addr).add j = ⟨b, o + j, none⟩ from by unfold Addr.add; split <;> simp_all]
  have hi : j / 4 < n := by omega
  have hv : vs[j / 4]? = some (vs[j / 4]'(by omega)) := List.getElem?_eq_getElem _
  have hp : ps[j / 4]? = some (ps[j / 4]'(by omega)) := List.getElem?_eq_getElem _
  have hz : (vs.zip ps)[j / 4]? = some (vs[j / 4]'(by omega), ps[j / 4]'(by omega)) := List.getElem?_zip_eq_some.2 ⟨hv, hp⟩
  have hr : j % 4 < 4 := Nat.mod_lt _ (by decide)
  have hju := pcCs_at _ _ _ _ hz hr
  rw [show j / 4 * 4 + j % 4 = j by omega, hu] at hju
  obtain ⟨k0, k1, k2, k3⟩ := hc _ _ _ hv hp
  match hm : j % 4, hr with
  | 0, _ => rw [hm] at hju; injection hju with hju; rw [hju, show o + j = o + j / 4 * 4 by omega]; exact k0
  | 1, _ => rw [hm] at hju; injection hju with hju; rw [hju, show o + j = o + j / 4 * 4 + 1 by omega]; exact k1
  | 2, _ => rw [hm] at hju; injection hju with hju; rw [hju, show o + j = o + j / 4 * 4 + 2 by omega]; exact k2
  | 3, _ => rw [hm] at hju; injection hju with hju; rw [hju, show o + j = o + j / 4 * 4 + 3 by omega]; exact k3
theorem pcCs_one : ∀ (qs : List (PcV × Pc)), ∀ u ∈ pcCs qs, u.oneCell' = true := by
  intro qs u hu
  unfold pcCs at hu
  obtain ⟨q, _, hq⟩ := List.mem_flatMap.1 hu
  exact pcC_one _ _ u hq
theorem pcCs_app (a b : List (PcV × Pc)) : pcCs (a ++ b) = pcCs a ++ pcCs b := by simp [pcCs]
section
variable {P : Program} (w : World)
theorem run_append_nilS (base s : Nat) (t ty e : TypeId) (i : TypeInfo) (ht : P.underlying t = some (.slice e)) (hi : P.info? e = some i) (hs : i.size = s)
    (v : Value) (n : Nat) (xs : List Value) (hown : w.ownsRow base e s v n xs) (c : Nat) : (Builtin.append_ #[t, t] ty #[v, .slice none 0 c]).run P w = .ok v w := by
  rcases hown.2 with ⟨rfl, rfl⟩ | ⟨g, cap, cur, rfl, _, _, hnc, _⟩
  · simp [Builtin.append_, run_underlying ht, sizeOf, typeInfo, hi, Builtin.lenOf, Builtin.firstCells]
  · simp [Builtin.append_, run_underlying ht, sizeOf, typeInfo, hi, Builtin.lenOf, Builtin.firstCells, hnc, storeCells]
theorem run_append_pcs (base : Nat) (t ty e : TypeId) (i : TypeInfo) (z : Value) (ht : P.underlying t = some (.slice e)) (hi : P.info? e = some i) (hz : i.zero = some z)
    (hsize : i.size = 4) (hby : i.bytes = 80) (hzs : z.cells.size = 4) (v : Value) (n : Nat) (xs : List Value) (hown : w.ownsRow base e 4 v n xs)
    (B : Nat) (A : Option Addr) (m c : Nat) (vs : List PcV) (ps : List Pc) (hr : Pcs w B A m vs ps) (h63 : n + m ≤ maxLen) (hbytes : (n + m) * 80 ≤ 140737488355328) (hbase : base ≤ w.heap.size) :
    ∃ v' w', (Builtin.append_ #[t, t] ty #[v, .slice A m c]).run P w = .ok v' w' ∧ w'.ownsRow base e 4 v' (n + m) (xs ++ pcCs (vs.zip ps)) ∧ w.grownBy w' v.ownBlock ∧ (v'.ownBlock = v.ownBlock ∨ v'.ownBlock = some w.heap.size) := by
  rcases A with _ | ad
  · have hm : m = 0 := by
      rcases Nat.eq_zero_or_pos m with h0 | h0
      · exact h0
      · obtain ⟨_, _, h, _⟩ := hr.2.2.1 h0
        cases h
    subst hm
    have hp : ps = [] := List.eq_nil_of_length_eq_zero hr.1
    subst hp
    exact ⟨v, w, run_append_nilS w base 4 t ty e i ht hi hsize v n xs hown c, by simpa [pcCs] using hown, World.grownBy.refl w _, .inl rfl⟩
  · obtain ⟨hl, hcells⟩ := pcs_cells hr
    obtain ⟨v', w', hrun, h2, h3, _, h5⟩ := run_append_own_at (P := P) w base t ty e i z 4 80 ht hi hz hsize hby hzs (by decide) v n xs hown ad m c _ hl hcells (pcCs_one _) h63 hbytes hbase
    exact ⟨v', w', hrun, h2, h3, h5⟩
theorem wp_append_pcs {o : Oper} {a : Act} {K : Act → World → Prop} {Q : Exit → Act → World → Prop} (s x : Operand) (t : TypeId)
    (ho : o.op = .call { callee := .builtin .append, args := #[s, x], argTypes := #[t, t] })
    (base : Nat) (e : TypeId) (i : TypeInfo) (z : Value) (ht : P.underlying t = some (.slice e)) (hi : P.info? e = some i) (hz : i.zero = some z)
    (hsize : i.size = 4) (hby : i.bytes = 80) (hzs : z.cells.size = 4)
    (v : Value) (n : Nat) (xs : List Value) (hs : a.eval s = v) (hown : w.ownsRow base e 4 v n xs)
    (B : Nat) (A : Option Addr) (m c : Nat) (vs : List PcV) (ps : List Pc) (hx : a.eval x = .slice A m c) (hr : Pcs w B A m vs ps)
    (h63 : n + m ≤ maxLen) (hbytes : (n + m) * 80 ≤ 140737488355328) (hbase : base ≤ w.heap.size)
    (h : ∀ v' w', w'.ownsRow base e 4 v' (n + m) (xs ++ pcCs (vs.zip ps)) → w.grownBy w' v.ownBlock → (v'.ownBlock = v.ownBlock ∨ v'.ownBlock = some w.heap.size) → K (a.put o.dst v') w') : o.wp P a w K Q := by
  obtain ⟨v', w', hrun, h2, h3, h5⟩ := run_append_pcs (P := P) w base t o.type e i z ht hi hz hsize hby hzs v n xs hown B A m c vs ps hr h63 hbytes hbase
  unfold Oper.wp execOp
  simp only [ho, resolve, invoke, builtin, Sem.run_bind, Sem.run_pure, Result.andThen_ok, List.map_toArray, List.map_cons, List.map_nil, hs, hx, hrun]
  exact h v' w' h2 h3 h5
theorem wpList_append_pcs {ops : Array Oper} {rest : List Oper} {o : Oper} {a : Act} {Q : Exit → Act → World → Prop} (hgd : o.guard = none) (s x : Operand) (t : TypeId)
    (ho : o.op = .call { callee := .builtin .append, args := #[s, x], argTypes := #[t, t] })
    (base : Nat) (e : TypeId) (i : TypeInfo) (z : Value) (ht : P.underlying t = some (.slice e)) (hi : P.info? e = some i) (hz : i.zero = some z)
    (hsize : i.size = 4) (hby : i.bytes = 80) (hzs : z.cells.size = 4)
    (v : Value) (n : Nat) (xs : List Value) (hs : a.eval s = v) (hown : w.ownsRow base e 4 v n xs)
    (B : Nat) (A : Option Addr) (m c : Nat) (vs : List PcV) (ps : List Pc) (hx : a.eval x = .slice A m c) (hr : Pcs w B A m vs ps)
    (h63 : n + m ≤ maxLen) (hbytes : (n + m) * 80 ≤ 140737488355328) (hbase : base ≤ w.heap.size)
    (h : ∀ v' w', w'.ownsRow base e 4 v' (n + m) (xs ++ pcCs (vs.zip ps)) → w.grownBy w' v.ownBlock → (v'.ownBlock = v.ownBlock ∨ v'.ownBlock = some w.heap.size) → wpList P ops Q rest (a.put o.dst v') w') :
    wpList P ops Q (o :: rest) a w :=
  wpList_plain hgd fun _ hK => wp_append_pcs w s x t ho base e i z ht hi hz hsize hby hzs v n xs hs hown B A m c vs ps hx hr h63 hbytes hbase fun v' w' h2 h3 h4 => hK _ _ (h v' w' h2 h3 h4)
end
/-- The same, as one step of a region that draws. -/
theorem appendP_step {P : Program} {ops : Array Oper} {o : Oper} {a : Act} {w : World} {K : Act → World → Prop} {Q : Exit → Act → World → Prop} {G : Prop} (hg : o.guard = none) (s x : Operand) (t : TypeId)
    (ho : o.op = .call { callee := .builtin .append, args := #[s, x], argTypes := #[t, t] })
    (base : Nat) (e : TypeId) (i : TypeInfo) (z : Value) (ht : P.underlying t = some (.slice e)) (hi : P.info? e = some i) (hz : i.zero = some z)
    (hsize : i.size = 4) (hby : i.bytes = 80) (hzs : z.cells.size = 4)
    (v : Value) (n : Nat) (xs : List Value) (hs : a.eval s = v) (hown : w.ownsRow base e 4 v n xs)
    (B : Nat) (A : Option Addr) (m c : Nat) (vs : List PcV) (ps : List Pc) (hx : a.eval x = .slice A m c) (hr : Pcs w B A m vs ps)
    (h63 : n + m ≤ maxLen) (hbytes : (n + m) * 80 ≤ 140737488355328) (hbase : base ≤ w.heap.size)
    (h : ∀ v' w', w'.ownsRow base e 4 v' (n + m) (xs ++ pcCs (vs.zip ps)) → w.grownBy w' v.ownBlock → (v'.ownBlock = v.ownBlock ∨ v'.ownBlock = some w.heap.size) → K (a.put o.dst v') w') : if Region.wanted o (yielded ops a.tmps) = true then Oper.wp P o a w K Q else G := by
  rw [if_pos (by simp [Region.wanted, hg])]
  exact wp_append_pcs w s x t ho base e i z ht hi hz hsize hby hzs v n xs hs hown B A m c vs ps hx hr h63 hbytes hbase h
end Go.Proofs.YtcjmmidnfjifaaaGreatDoor
/- Proved here, without conditions on the program: append as a step of a region that draws its order; a part of what reads as a list. -/
namespace Go.Proofs.YtcjmmidnfjifaaaGreatDoor
open Go.RowKit
set_option linter.unusedVariables false

/-- append onto a row of the call's own, as one step of a region that draws. -/
theorem appendO_step {P : Program} {ops : Array Oper} {o : Oper} {a : Act} {w : World} {K : Act → World → Prop} {Q : Exit → Act → World → Prop} {G : Prop}
    (hg : o.guard = none) (s x : Operand) (t : TypeId) (hop : o.op = Op.call { callee := Callee.builtin Builtin.append, args := #[s, x], argTypes := #[t, t] })
    (base : Nat) (e : TypeId) (i : TypeInfo) (z : Value) (size bytes : Nat) (h1 : P.underlying t = some (.slice e)) (h2 : P.info? e = some i) (h3 : i.zero = some z) (h4 : i.size = size) (h5 : i.bytes = bytes) (h6 : z.cells.size = size) (h7 : 0 < size)
    (v : Value) (n : Nat) (xs : List Value) (hs : a.eval s = v) (hown : w.ownsRow base e size v n xs)
    (ad : Addr) (m c : Nat) (news : List Value) (hx : a.eval x = .slice (some ad) m c) (hn : news.length = m * size) (hc : ∀ j u, news[j]? = some u → w.cell? (ad.add j) = some u) (h1c : ∀ u ∈ news, u.oneCell' = true)
    (b1 : n + m ≤ maxLen) (b2 : (n + m) * bytes ≤ 140737488355328) (hbase : base ≤ w.heap.size)
    (hK : ∀ v' w', w'.ownsRow base e size v' (n + m) (xs ++ news) → w.grownBy w' v.ownBlock → (v'.ownBlock = v.ownBlock ∨ v'.ownBlock = some w.heap.size) → K (a.put o.dst v') w') :
    if Region.wanted o (yielded ops a.tmps) = true then Oper.wp P o a w K Q else G := by
  have hw : Region.wanted o (yielded ops a.tmps) = true := by simp [Region.wanted, hg]
  rw [if_pos hw]
  obtain ⟨v', w', hrun, r1, r2, _, r4⟩ := run_append_own_at (P := P) w base t o.type e i z size bytes h1 h2 h3 h4 h5 h6 h7 v n xs hown ad m c news hn hc h1c b1 b2 hbase
  unfold Oper.wp
  simp [execOp, hop, resolve, invoke, builtin, hs, hx, hrun, Result.andThen]
  exact hK v' w' r1 r2 r4

theorem appendR_step {P : Program} {ops : Array Oper} {o : Oper} {a : Act} {w : World} {K : Act → World → Prop} {Q : Exit → Act → World → Prop} {E : Prop} (hg : o.guard = none) (s x : Operand) (t : TypeId)
    (ho : o.op = .call { callee := .builtin .append, args := #[s, x], argTypes := #[t, t] })
    (base : Nat) (e : TypeId) (i : TypeInfo) (z : Value) (bytes : Nat) (ht : P.underlying t = some (.slice e)) (hi : P.info? e = some i) (hz : i.zero = some z)
    (hsize : i.size = 1) (hby : i.bytes = bytes) (hzs : z.cells.size = 1)
    (v : Value) (n : Nat) (xs : List Value) (hs : a.eval s = v) (hown : w.ownsRow base e 1 v n xs)
    (B : Nat) (A : Option Addr) (m c : Nat) (news : List Value) (hx : a.eval x = .slice A m c) (hr : Reads w B A m news) (h1 : ∀ u ∈ news, u.oneCell' = true)
    (h63 : n + m ≤ maxLen) (hbytes : (n + m) * bytes ≤ 140737488355328) (hbase : base ≤ w.heap.size)
    (h : ∀ v' w', w'.ownsRow base e 1 v' (n + m) (xs ++ news) → w.grownBy w' v.ownBlock → K (a.put o.dst v') w') : if Region.wanted o (yielded ops a.tmps) = true then Oper.wp P o a w K Q else E := by
  rw [if_pos (by simp [Region.wanted, hg])]
  exact wp_append_reads w s x t ho base e i z bytes ht hi hz hsize hby hzs v n xs hs hown B A m c news hx hr h1 h63 hbytes hbase h

theorem Reads.part {w : World} {B n b o : Nat} {xs : List Value} (h : Reads w B (some ⟨b, o, none⟩) n xs) {a m : Nat} (ham : a + m ≤ n) : Reads w B (some ⟨b, o + a, none⟩) m ((xs.drop a).take m) := by
  have hl := h.1
  refine ⟨by simp; omega, fun hm => ?_⟩
  obtain ⟨b', o', e, hb, hc⟩ := h.2 (by omega)
  injection e with e
  injection e with e1 e2
  subst e1
  subst e2
  refine ⟨b, o + a, rfl, hb, fun j u hu => ?_⟩
  rw [Nat.add_assoc]
  refine hc (a + j) u ?_
  rw [← hu, List.getElem?_take]
  have hj : j < m := by
    have := (List.getElem?_eq_some_iff.1 hu).1
    simp at this; omega
  rw [if_pos hj, List.getElem?_drop]

end Go.Proofs.YtcjmmidnfjifaaaGreatDoor
