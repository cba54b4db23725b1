/- Proved here: texts joined: AlignMats, AlignCon, MgNum, MgChk, ContSpan, MgCov. -/
import Derived.Test.YtoephlkfejcadaaGreatBf03
import Derived.Test.YtoephlkfejcadaaGreatBf04
import Derived.Test.YtoephlkfejcadaaGreatBf06
import Derived.Test.YtoephlkfejcadaaGreatBf08
import Derived.Test.YtoephlkfejcadaaGreatBf09
import Derived.Test.YtoephlkfejcadaaGreatBf13
import Derived.Test.YtoephlkfejcadaaGreatBf15
import Derived.Test.YtoephlkfejcadaaGreatBf16
import Derived.Test.YtoephlkfejcadaaGreatBf17
import Derived.Test.YtoephlkfejcadaaGreatBf18
import Derived.Deep.QuietTactic
/- Proved here: the contract of the document's own Matches of layer 5. -/
namespace Go.Proofs.YtoephlkfejcadaaGreat
open Go.RowKit
set_option linter.unusedVariables false

section
variable {w wo w1 w2 w3 : World} {v1 v2 v1' v2' : Value} {rows : List (Option Addr × Nat × Nat)} {sizes : List Int} {ms : List (List Int)}
theorem MatIn.low (h : MatIn w wo v1 v2 rows sizes ms) (hb : Below wo.heap.size wo w1) : MatIn w w1 v1 v2 rows sizes ms :=
  ⟨ownsRow_kept h.own1 fun k e => hb.block k (h.own1.lt k e).2, h.rows2.kept hb.size (fun k hk _ => hb.block k hk) (fun k e1 e2 => (h.apart.elim (fun h => by rw [h] at e2; cases e2) (fun h => h (e2.trans e1.symm)))), h.below.trans (hb.mono h.below.size)⟩
theorem MatIn.size {z : Int} {o : Obj} (h : MatIn w wo v1 v2 rows sizes ms) (hown : w1.ownsRow w.heap.size 3 1 v1' (sizes.length + 1) ((sizes.map fun x => .int .i64 x) ++ [.int .i64 z])) (hg : (wo.alloc o).grownBy w1 v1.ownBlock) (hloc : v1'.ownBlock = v1.ownBlock ∨ v1'.ownBlock = some (wo.alloc o).heap.size) : MatIn w w1 v1' v2 rows (sizes ++ [z]) ms := by
  have hs : wo.heap.size + 1 ≤ w1.heap.size := by have := hg.size; simpa using this
  have hk : ∀ k, k < wo.heap.size → ¬ v1.ownBlock = some k → w1.heap[k]? = wo.heap[k]? := fun k h1 h2 => (hg.block k (by simp; omega) (fun e => h2 e.symm)).trans (Below.heap_alloc wo o k h1)
  have h2 := h.rows2.kept (by omega) hk (fun k e1 e2 => (h.apart.elim (fun h => by rw [h] at e2; cases e2) (fun h => h (e2.trans e1.symm))))
  refine ⟨by simpa using hown, ⟨h2.own, h2.len, fun k r xs a b => ?_⟩, (h.below.alloc h.below.size o).grown hg (by have := h.below.size; simp; omega) (fun j e => (h.own1.lt j e).1)⟩
  obtain ⟨e1, e2, e3, e4⟩ := h2.row k r xs a b
  obtain ⟨_, _, e5, e6⟩ := h.rows2.row k r xs a b
  refine ⟨e1, e2, e3, fun hn q o' e => ⟨(e4 hn q o' e).1, fun e7 => ?_⟩⟩
  obtain ⟨g, o2, ha, hb, _⟩ := e5.2 hn
  rw [e] at ha
  injection ha with ha
  injection ha with ha1 ha2
  rcases hloc with hl | hl
  · rw [hl] at e7
    exact (e6 hn q o' e).2 e7
  · rw [hl] at e7
    injection e7 with e7
    simp at e7
    omega
theorem MatIn.put {xs : List Int} {A : Option Addr} {n c : Nat} {o : Obj} (h : MatIn w w1 v1 v2 rows sizes ms) (hb : Below w1.heap.size w1 w2) (hu : w2.ownsRow w1.heap.size 3 1 (.slice A n c) n (xs.map fun x => .int .i64 x)) (hnc : n ≤ c) (hcm : c ≤ maxLen) (hN : Nums w2 w2.heap.size A n xs)
    (hown : w3.ownsRow w.heap.size 76 1 v2' (rows.length + 1) ((rows.map fun r => .slice r.1 r.2.1 r.2.2) ++ [.slice A n c])) (hg : (w2.alloc o).grownBy w3 v2.ownBlock) (hloc : v2'.ownBlock = v2.ownBlock ∨ v2'.ownBlock = some (w2.alloc o).heap.size) : MatIn w w3 v1 v2' (rows ++ [(A, n, c)]) sizes (ms ++ [xs]) := by
  have h2 := h.low hb
  have hs : w2.heap.size + 1 ≤ w3.heap.size := by have := hg.size; simpa using this
  have hnew : ∀ q o, A = some ⟨q, o, none⟩ → v2.ownBlock ≠ some q ∧ ¬ v1.ownBlock = some q := by
    intro q o e
    subst e
    have h3 := (hu.lt q rfl).1
    refine ⟨fun e => ?_, fun e => ?_⟩
    · have := (h.rows2.own.lt q e).2; omega
    · have := (h.own1.lt q e).2; omega
  refine ⟨ownsRow_kept h2.own1 fun k e => ?_, h2.rows2.put (r := (A, n, c)) hnc hcm hN (fun _ => hnew) hown hg hloc, ?_⟩
  · have hk := (h2.own1.lt k e).2
    rw [hg.block k (by simp; omega) (fun e2 => (h2.apart.elim (fun h => by rw [h] at e; cases e) (fun h => h (e.trans e2)))), Below.heap_alloc w2 o k hk]
  · exact (h2.below.alloc h2.below.size o).grown hg (by have := h2.below.size; simp; omega) (fun j e => (h2.rows2.own.lt j e).1)
end

/-- What Matches tells. -/
def MatsOut (w w' : World) (e : Ending) (sizes : List Int) (ms : List (List Int)) : Prop := ∃ v1 v2 rows, e = .returned (.tuple #[v1, v2]) ∧ MatIn w w' v1 v2 rows sizes ms

theorem RowsN.up {w w' : World} {A : Option Addr} {n : Nat} {rows : List (Option Addr × Nat × Nat)} {xss : List (List Int)} (h : RowsN w w.heap.size A n rows xss) (hb : Below w.heap.size w w') : RowsN w' w'.heap.size A n rows xss := (RowsN.below h hb).more hb.size

set_option maxHeartbeats 2000000 in
theorem Matches_any (A : Option Addr) (n c : Nat) (base : List Int) (A' : Option Addr) (n' c' : Nat) (rows : List (Option Addr × Nat × Nat)) (sides : List (List Int)) (w : World) (hn : n ≤ 1000) (hn' : n' ≤ 1000) (hs : ∀ s ∈ sides, s.length ≤ 1000) (hA : Nums w w.heap.size A n base) (hA' : RowsN w w.heap.size A' n' rows sides) :
    Calls Tryz.prog 45 #[.slice A n c, .slice A' n' c'] w fun e w' => MatsOut w w' e (sizesOf sides) (msOf base sides) := by
  have hlen := hA'.len
  obtain ⟨i0, hi, hz0, hz1, hz2⟩ := info_parts infoIntA
  obtain ⟨i1, hj, hy0, hy1, hy2⟩ := info_parts infoRowA
  have hM := Lib.hid (fun (A1 : Option Addr) (n1 c1 : Nat) (s : List Int) (w' : World) (h1 : n1 ≤ 1000) (hb : Below w.heap.size w w') (h : Nums w' w'.heap.size A1 n1 s) => rMatch_any A A1 n n1 c c1 w'.heap.size w'.heap.size base s w' hn h1 (hA.up hb) h (Nat.le_refl _) (Nat.le_refl _))
  have hsh := Lib.hid hs
  clear hs hA
  go_enter Tryz.func45, Tryz.ntmps45
  go_wp2
  go_loopw [6, 7, 8] (fun s1 s2 si wr => ∃ (k : Nat) (v1 v2 : Value) (rs : List (Option Addr × Nat × Nat)), k ≤ n' ∧ si = .int .i64 k ∧ v1 = s1 ∧ v2 = s2 ∧ Hid (rs.length = k ∧ MatIn w wr v1 v2 rs (sizesOf (sides.take k)) (msOf base (sides.take k)))) (fun _ _ si _ => n' - (intOf si).toNat)
  case atStart => exact ⟨0, _, _, [], Nat.zero_le _, rfl, rfl, rfl, Lib.hid ⟨rfl, World.ownsRow_nil _ _ _ _, ⟨World.ownsRow_nil _ _ _ _, rfl, fun k r xs h => by simp at h⟩, Below.refl _ _⟩⟩
  case round =>
    obtain ⟨k, v1, v2, rs, hk, rfl, rfl, rfl, hR⟩ := hrel
    obtain ⟨wo, rfl⟩ : ∃ wo : World, wo = wr := ⟨_, rfl⟩
    by_cases hlt : k < n'
    · have hBe := hR.out.2.below
      obtain ⟨b, o, A1, n1, c1, s, rfl, hb, hs, hc0, hN⟩ := hA'.at_ (k := k) hlt
      have hc := (hBe.cell (p := ⟨b, o + k, none⟩) hb).trans hc0
      have hnl := hN.len
      have hsl : n1 ≤ 1000 := by have := hsh.out s (List.mem_of_getElem? hs); omega
      have hki : (k : Int) < (n' : Int) := by omega
      have hso := hBe.size
      have hown1 := hR.out.2.own1
      have hkl : Hid ((sizesOf (sides.take k)).length = k) := Lib.hid (by unfold sizesOf; rw [List.length_map, List.length_take]; omega)
      rw [hkl.out] at hown1
      have ht1 : Hid (sizesOf (sides.take (k + 1)) = sizesOf (sides.take k) ++ [(n1 : Int)]) := Lib.hid (by unfold sizesOf; rw [take_at hs, List.map_append, ← hnl]; rfl)
      have ht2 : Hid (msOf base (sides.take (k + 1)) = msOf base (sides.take k) ++ [mt base s 0]) := Lib.hid (by unfold msOf; rw [take_at hs, List.map_append]; rfl)
      have hmax : Hid (k + 1 ≤ maxLen ∧ (k + 1) * 8 ≤ 140737488355328 ∧ (k + 1) * 24 ≤ 140737488355328) := Lib.hid ⟨by unfold maxLen; omega, by omega, by omega⟩
      have hNh := Lib.hid hN
      have hch := Lib.hid hc0
      have hbh := Lib.hid hb
      clear hN hs hnl hBe hc0 hb
      have tok1 := trivial
      go_wp2_with (first
        | (at_builtin; have _t := tok1; refine wpList_append_own_at _ rfl _ _ 76 rfl w.heap.size 3 i0 (.int .i64 0) 1 8 Tryz.underlying76 hi hz0 hz1 hz2 rfl (by decide) v1 k _ rfl (hown1.alloc _) ⟨wo.heap.size, 0, none⟩ 1 1 [.int .i64 (n1 : Int)] rfl rfl (cell_one_new _ _ _) (by simp [Value.oneCell']) hmax.out.1 hmax.out.2.1 (by simp; omega) ?_; intro v1' w1 hown2 hg2 hnil2 hloc2; clear hnil2 tok1; have hm1 := Lib.hid (hR.out.2.size (by rw [hkl.out]; exact hown2) hg2 hloc2); have hcc := (hm1.out.below.cell (p := ⟨b, o + k, none⟩) hbh.out).trans hch.out; have hcall := Lib.hid (hM.out A1 n1 c1 s w1 hsl hm1.out.below (hNh.out.up hm1.out.below)); clear hown2 hg2 hloc2 hc)
        | (go_at_call 77; refine hcall.out.mono ?_; rintro e w2 ⟨u, rfl, hu, hb2⟩; obtain ⟨Au, cu, rfl, q1, q2, q3⟩ := nums_of_own hu; have hrl := hR.out.1; have hown3 := (hm1.out.low hb2).rows2.own; rw [hrl] at hown3; have hso2 := (hm1.out.low hb2).below.size; have huh := Lib.hid (And.intro hu hb2); clear hu hb2 hrl)
        | (at_builtin; refine wpList_append_own_at _ rfl _ _ 74 rfl w.heap.size 76 i1 (.slice none 0 0) 1 24 Tryz.underlying74 hj hy0 hy1 hy2 rfl (by decide) v2 k _ rfl (hown3.alloc _) ⟨w2.heap.size, 0, none⟩ 1 1 [.slice Au (mt base s 0).length cu] rfl rfl (cell_one_new _ _ _) (by simp [Value.oneCell']) hmax.out.1 hmax.out.2.2 (by simp; omega) ?_; intro v2' w3 hown4 hg4 hnil4 hloc4; clear hnil4))
      have hfin := hm1.out.put huh.out.2 huh.out.1 q1 q2 q3 (by rw [hR.out.1]; exact hown4) hg4 hloc4
      go_roundw
      case rel => exact ⟨k + 1, v1', v2', rs ++ [(Au, (mt base s 0).length, cu)], by omega, by go_num, rfl, rfl, Lib.hid ⟨by simp [hR.out.1], by rw [ht1.out, ht2.out]; exact hfin⟩⟩
      case measure => simp [intOf] <;> omega
    · obtain rfl : k = n' := by omega
      go_wp2
      go_ret2
      refine ⟨_, _, rs, rfl, ?_⟩
      have := hR.out.2
      rwa [List.take_of_length_le (by omega)] at this
end Go.Proofs.YtoephlkfejcadaaGreat
/- What the statements ask of package align: the contract of Align; the matches of lists may be. -/
namespace Go.Proofs.YtoephlkfejcadaaGreat
open Go.RowKit
set_option linter.unusedVariables false

/-- Chunks were made, and nothing that was there has turned. -/
def CkOut (w w' : World) (e : Ending) (er : Int) (cs : List Ck) : Prop := ∃ A n c, e = .returned (.tuple #[.slice A n c, .int .i64 er]) ∧ n = cs.length ∧ n ≤ c ∧ c ≤ maxLen ∧ Cks w' w'.heap.size A n cs ∧ Below w.heap.size w w'
/-- How Align ends, of matches that may be. -/
def AlignOut (w w' : World) (e : Ending) (m : Int) (sizes : List Int) (ms : List (List Int)) : Prop := ∃ cs, IsCut m sizes ms cs ∧ CkOut w w' e 0 cs

/-- The contracts of package align. -/
structure AlignOk : Prop where
  align_ok : ∀ (A : Option Addr) (n c : Nat) (sizes : List Int) (A' : Option Addr) (n' c' : Nat) (rows : List (Option Addr × Nat × Nat)) (ms : List (List Int)) (m : Nat) (w : World), 1 ≤ n → n ≤ 16 → n ≤ c → c ≤ maxLen → n' ≤ c' → c' ≤ maxLen → ms.length = n → m ≤ 2000 →
    (∀ z ∈ sizes, 0 ≤ z ∧ z ≤ 2000) → (∀ (k : Nat) (l : List Int) (z : Int), ms[k]? = some l → sizes[k]? = some z → IsMatch m l z) → Nums w w.heap.size A n sizes → RowsN w w.heap.size A' n' rows ms →
    Calls Tryz.prog 43 #[.int .i64 m, .slice A n c, .slice A' n' c'] w fun e w' => AlignOut w w' e m sizes ms
  align_nil : ∀ (m : Nat) (w : World), m ≤ 2000 →
    Calls Tryz.prog 43 #[.int .i64 m, .slice none 0 0, .slice none 0 0] w fun e w' => CkOut w w' e 1 []

/-- The matches of lists may be. -/
theorem mt_match (a b : List Int) : IsMatch a.length (mt a b 0) b.length := by
  have hg := mt_good a b 0
  refine ⟨mt_len a b 0, fun u hu hne => ?_, ?_⟩
  · obtain ⟨i, hi⟩ := List.mem_iff_getElem?.1 hu
    obtain ⟨y, hy, ⟨x, _, hx⟩, _⟩ := hg i u hi hne
    have := (List.getElem?_eq_some_iff.1 hx).1
    omega
  · rw [List.pairwise_iff_getElem]
    intro i j hi hj hlt h1 h2
    obtain ⟨_, _, _, h⟩ := hg j _ (List.getElem?_eq_getElem hj) h2
    exact h i _ hlt (List.getElem?_eq_getElem hi)

theorem sizes_len (l : List (List Int)) : (sizesOf l).length = l.length := by simp [sizesOf]
theorem ms_len (b : List Int) (l : List (List Int)) : (msOf b l).length = l.length := by simp [msOf]
theorem ms_match {b : List Int} {l : List (List Int)} {k : Nat} {x : List Int} {z : Int} (h1 : (msOf b l)[k]? = some x) (h2 : (sizesOf l)[k]? = some z) : IsMatch b.length x z := by
  unfold msOf at h1
  unfold sizesOf at h2
  rw [List.getElem?_map] at h1 h2
  cases hs : l[k]? with
  | none => rw [hs] at h1; cases h1
  | some s =>
    rw [hs] at h1 h2
    injection h1 with h1
    injection h2 with h2
    subst h1
    subst h2
    exact mt_match b s
theorem match_may {m : Nat} {l : List Int} {z : Int} (h : IsMatch m l z) (hz : 0 ≤ z) : may l z = true := by
  unfold may
  simp only [Bool.and_eq_true, decide_eq_true_eq]
  exact ⟨hz, mayL_of h.2.1 h.2.2⟩
end Go.Proofs.YtoephlkfejcadaaGreat
/- Proved here, without conditions: the numbers of all texts tell them apart; the matches by them. -/
namespace Go.Proofs.YtoephlkfejcadaaGreat
open Go.RowKit
set_option linter.unusedVariables false

theorem withAll_mem {s : Tx} : ∀ (l ts : List Tx), (s ∈ ts ∨ s ∈ l) → s ∈ withAll ts l
  | [], ts, h => by rcases h with h | h; exact h; cases h
  | t :: l, ts, h => by
    show s ∈ withAll (withText ts t) l
    refine withAll_mem l _ ?_
    rcases h with h | h
    · exact .inl ((withText_pre ts t).subset h)
    · rcases List.mem_cons.1 h with rfl | h
      · exact .inl (withText_mem ts s)
      · exact .inr h
theorem numOf_inj {fin : List Tx} {s t : Tx} (hs : s ∈ fin) (ht : t ∈ fin) (h : (numOf fin s : Int) = (numOf fin t : Int)) : s = t := by
  have h1 : fin.idxOf s = fin.idxOf t := by unfold numOf at h; omega
  have h2 : fin[fin.idxOf s]? = some s := by rw [List.getElem?_eq_getElem (List.idxOf_lt_length_of_mem hs), List.getElem_idxOf]
  have h3 : fin[fin.idxOf t]? = some t := by rw [List.getElem?_eq_getElem (List.idxOf_lt_length_of_mem ht), List.getElem_idxOf]
  rw [h1, h3] at h2
  injection h2 with h2
  exact h2.symm
/-- The matches by the numbers of all texts. -/
theorem ms_of (base : Txs) (sides : List Txs) : MsOf base sides (msOf (base.map fun s => (numOf (withAll [] (base :: sides).flatten) s : Int)) (sides.map fun d => d.map fun s => (numOf (withAll [] (base :: sides).flatten) s : Int))) := by
  refine ⟨by simp [msOf], fun s l d h1 h2 => ⟨fun t => (numOf (withAll [] (base :: sides).flatten) t : Int), fun x hx y hy h => ?_, ?_⟩⟩
  · refine numOf_inj (withAll_mem _ _ (.inr ?_)) (withAll_mem _ _ (.inr ?_)) h
    · exact List.mem_flatten.2 ⟨base, List.mem_cons_self .., hx⟩
    · exact List.mem_flatten.2 ⟨d, List.mem_cons_of_mem _ (List.mem_of_getElem? h2), hy⟩
  · unfold msOf at h1
    rw [List.map_map, List.getElem?_map, h2] at h1
    simpa using h1.symm
theorem sizes_of (f : Tx → Int) (sides : List Txs) : sizesOf (sides.map fun d => d.map f) = szs sides := by
  unfold sizesOf szs
  rw [List.map_map]
  exact List.map_congr_left fun d _ => by simp

end Go.Proofs.YtoephlkfejcadaaGreat
/- Proved here: the contract of the document's own answer of layer 8: Chunks. -/
namespace Go.Proofs.YtoephlkfejcadaaGreat
open Go.RowKit
set_option linter.unusedVariables false

/-- A base, and sides, neither many nor long. -/
def smallR (base : Txs) (sides : List Txs) : Prop := sides.length ≤ 100 ∧ ∀ d ∈ base :: sides, d.length ≤ 90 ∧ ∀ s ∈ d, s.length ≤ 1000

set_option maxRecDepth 100000 in
/-- A slice's last rows. -/
theorem rowsN_tail {w : World} {B n c : Nat} {A : Option Addr} {r : Option Addr × Nat × Nat} {rows : List (Option Addr × Nat × Nat)} {xs : List Int} {xss : List (List Int)} (h : RowsN w B A n (r :: rows) (xs :: xss)) (hn : n ≤ c) (hc : c ≤ maxLen) :
    ∃ A' m k, (∀ W : World, (Instr.slice 74 (.slice A n c) (some (.int .i64 1)) none none).run Tryz.prog W = .ok (.slice A' m k) W) ∧ m ≤ k ∧ k ≤ maxLen ∧ RowsN w B A' m rows xss := by
  have hl : (r :: rows).length = n := by have := h.1.1; simpa using this
  rw [List.length_cons] at hl
  refine ⟨(if c = 1 then A else A.map (·.add 1)), n - 1, c - 1, fun W => ?_, by omega, by omega, ⟨by rw [List.length_map]; omega, fun hn1 => ?_⟩, by simpa using h.2.1, fun k r' ss' h1 h2 => h.2.2 (k + 1) r' ss' (by simpa using h1) (by simpa using h2)⟩
  · rw [run_slice_l (P := Tryz.prog) W 74 A n c Tryz.underlying74 .i64 1 (by omega) (by omega)]
    go_simp
  · obtain ⟨b, o, rfl, hb, hcell⟩ := h.1.2 (by omega)
    rw [if_neg (by omega)]
    refine ⟨b, o + 1, ?_, hb, fun j u hu => ?_⟩
    · rfl
    · rw [Nat.add_assoc, Nat.add_comm 1 j]
      exact hcell (j + 1) u (by simpa using hu)

set_option maxRecDepth 100000 in
set_option maxHeartbeats 4000000 in
theorem rChunks_any (A0 : Option Addr) (n0 c0 : Nat) (base : Txs) (A : Option Addr) (n c : Nat) (rows : List Slc) (sides : List Txs) (w : World) (hnc : n ≤ c) (hcm : c ≤ maxLen) (hsm : smallR base sides) (hA0 : TxR w w.heap.size (A0, n0, c0) base) (hA : RowsT w w.heap.size A n rows sides) :
    Calls Tryz.prog 23 #[.slice A0 n0 c0, .slice A n c] w fun e w' => ChunksOut w w' e base sides := by
  have hl := hA.len
  have hl0 : base.length = n0 := hA0.2.2.len
  have hW := Lib.hid (mWrong_any A0 n0 c0 base A n c w.heap.size rows sides w (Nat.le_trans hA0.1 hA0.2.1) (Nat.le_trans hnc hcm) (fun d hd s hs => Nat.le_trans ((hsm.2 d hd).2 s hs) (by decide)) hA0.2.2 hA)
  obtain ⟨z, hz⟩ : ∃ z, wrongN base sides = z := ⟨_, rfl⟩
  rw [hz] at hW
  by_cases h0 : z = 0
  rotate_left
  · have he : (z != 0) = true := by simpa using h0
    have hout : Hid (CutsTo base sides z []) := Lib.hid ⟨hz.symm, fun _ => rfl, fun h => absurd h h0⟩
    clear hA hA0 hsm hz
    go_enter Tryz.func23, Tryz.ntmps23
    go_wp2_with (go_at_call 29; refine hW.out.mono ?_; rintro e w1 ⟨rfl, rfl⟩)
    go_ret2
    exact ⟨z, none, 0, 0, [], rfl, Nat.le_refl _, Nat.zero_le _, Cks.nil _ _ _, hout.out, Below.refl _ _⟩
  subst h0
  obtain ⟨v1, v2, v3, v4, v5, v6⟩ := wrong_none hz
  obtain ⟨i0, hi, hzz⟩ := Option.map_eq_some_iff.1 infoTxs
  simp only [Prod.mk.injEq] at hzz
  obtain ⟨hz0, hz1, hz2⟩ := hzz
  have hb1 : Below w.heap.size w (w.alloc (.cells #[.slice A0 n0 c0] 22)) := (Below.refl _ _).alloc (Nat.le_refl _) _
  have hw0 : Hid ((w.alloc (.cells #[.slice A0 n0 c0] 22)).ownsRow w.heap.size 22 1 (.slice (some ⟨w.heap.size, 0, none⟩) 1 1) 1 [slcV (A0, n0, c0)]) := Lib.hid (World.ownsRow_lit w #[.slice A0 n0 c0] 1 (Nat.le_refl _) (by decide) rfl)
  have hrd := Lib.hid (hA.1.below hb1)
  obtain ⟨N, hN⟩ : ∃ N, 1 + n = N := ⟨_, rfl⟩
  have hle : Hid (1 + n ≤ maxLen ∧ (1 + n) * 24 ≤ 140737488355328) := Lib.hid ⟨by unfold maxLen; omega, by omega⟩
  have hfiles : Hid (∀ (A2 : Option Addr) (c2 : Nat) (w2 : World), w2.ownsRow w.heap.size 22 1 (.slice A2 N c2) N (slcV (A0, n0, c0) :: rows.map slcV) → Below w.heap.size w w2 →
      Calls Tryz.prog 44 #[.slice A2 N c2] w2 fun e w' => AllOut w2 w' e (numsL (withAll [] (base :: sides).flatten) (base :: sides))) := Lib.hid (fun A2 c2 w2 h1 h2 => by
    obtain ⟨A', c', e1, r1, r2, r3⟩ := own_slice h1
    injection e1 with e2 e3 e4
    subst e2
    refine rAll_any A2 N c2 ((A0, n0, c0) :: rows) (base :: sides) w2 ⟨r3, by simp; exact hA.2.1, fun k r ss a b => ?_⟩ (by omega) (fun f hf => (hsm.2 f hf).1)
    match k, a, b with
    | 0, a, b => simp at a b; subst a; subst b; exact (hA0.up h2).2.2
    | k + 1, a, b => exact ((hA.up h2).2.2 k r ss (by simpa using a) (by simpa using b)).2.2)
  have hlens := Lib.hid (And.intro hl (And.intro hl0 (And.intro hsm (And.intro hz hN))))
  have hbh := Lib.hid hb1
  clear hA hA0 hz v1 v2 v3 v4 v5 v6 hb1 hsm
  go_enter Tryz.func23, Tryz.ntmps23
  go_upto_region 7 with (first
    | (go_at_call 29; refine hW.out.mono ?_; rintro e w1 ⟨rfl, rfl⟩)
    | (at_builtin; refine wpList_append_reads _ rfl _ _ 23 rfl w.heap.size 22 i0 (.slice none 0 0) 24 Tryz.underlying23 hi hz0 hz1 hz2 rfl _ 1 _ rfl hw0.out w.heap.size A n c _ rfl hrd.out (slcV_one _) hle.out.1 hle.out.2 hbh.out.size ?_; intro v' w2 hown2 hg2; rw [hlens.out.2.2.2.2] at hown2; obtain ⟨A2, c2, rfl, -, -, -⟩ := own_slice hown2; have hB2 := Lib.hid (hbh.out.grown hg2 hbh.out.size fun j e => (hw0.out.lt j e).1); have hAl := Lib.hid (hfiles.out A2 c2 w2 hown2 hB2.out); clear hown2 hg2)
    | (go_at_call 44; refine hAl.out.mono ?_; rintro e w3 ⟨A3, n3, c3, rs3, rfl, h31, h32, hR3, hb3⟩; have hR3h := Lib.hid hR3; have hB3 := Lib.hid (hB2.out.trans (hb3.mono hB2.out.size)); have h3h := Lib.hid (And.intro h31 h32); clear hR3 hb3 h31 h32))
  obtain ⟨hl, hl0, hsm, hz, hN⟩ := hlens.out
  obtain ⟨v1, v2, v3, v4, v5, v6⟩ := wrong_none hz
  obtain ⟨F, hF⟩ : ∃ F : Tx → Int, F = fun s => (numOf (withAll [] (base :: sides).flatten) s : Int) := ⟨_, rfl⟩
  have hids : numsL (withAll [] (base :: sides).flatten) (base :: sides) = (base.map F) :: sides.map fun d => d.map F := by rw [hF]; rfl
  have hRR := hR3h.out
  rw [hids] at hRR
  have hrs : ∃ r rs, rs3 = r :: rs := by
    cases rs3 with
    | nil => have := hRR.2.1; simp at this
    | cons r rs => exact ⟨r, rs, rfl⟩
  obtain ⟨r, rs, rfl⟩ := hrs
  obtain ⟨A4, m4, k4, hsl, r41, r42, hR4⟩ := rowsN_tail hRR h3h.out.1 h3h.out.2
  have hn3 : n3 = n + 1 := by have := RowsN.len hRR; simp at this; omega
  obtain ⟨b, o, A5, n5, c5, xs5, rfl, hb5, hx5, hc5, hN5⟩ := RowsN.at_ hRR (k := 0) (by omega)
  simp at hx5
  subst hx5
  have hc5' : w3.cell? ⟨b, o, none⟩ = some (.slice A5 n5 c5) := hc5
  clear hc5
  have hms := Lib.hid (ms_of base sides)
  have hsz := Lib.hid (sizes_of F sides)
  obtain ⟨ms, hmse⟩ : ∃ ms, msOf (base.map F) (sides.map fun d => d.map F) = ms := ⟨_, rfl⟩
  have hmseh := Lib.hid hmse
  have hMs : Hid (MsOf base sides ms) := Lib.hid (by have := hms.out; rw [← hF] at this; rw [← hmse]; exact this)
  have hMt : Hid (∀ W, (W = w3 ∨ W = w3.drew) → Calls Tryz.prog 45 #[.slice A5 n5 c5, .slice A4 m4 k4] W fun e w' => MatsOut W w' e (szs sides) ms ∧ Below w.heap.size w w') := Lib.hid (fun W hW => by
    have hbW : Below w3.heap.size w3 W := by rcases hW with rfl | rfl; exact Below.refl _ _; exact below_drew (Below.refl _ _)
    have hm4 : m4 ≤ 1000 := by have := RowsN.len hR4; simp at this; omega
    have hn5 : n5 ≤ 1000 := by have h1 := hN5.len; have h2 := (hsm.2 base (List.mem_cons_self ..)).1; simp at h1; omega
    have := Matches_any A5 n5 c5 (base.map F) A4 m4 k4 rs (sides.map fun d => d.map F) W hn5 hm4 (fun s hs => by obtain ⟨d, hd, rfl⟩ := List.mem_map.1 hs; have := (hsm.2 d (List.mem_cons_of_mem _ hd)).1; simp; omega) ((Nums.below hN5 hbW).more hbW.size) (RowsN.up hR4 hbW)
    rw [hsz.out, hmse] at this
    exact this.mono fun e w' h => ⟨h, by obtain ⟨_, _, _, _, h9⟩ := h; exact hB3.out.trans ((hbW.trans (h9.below.mono hbW.size)).mono hB3.out.size)⟩)
  have hAlg : Hid (∀ (v1 v2 : Value) (rows5 : List (Option Addr × Nat × Nat)) (W w4 : World), MatIn W w4 v1 v2 rows5 (szs sides) ms → Calls Tryz.prog 46 #[.int .i64 n0, v1, v2] w4 fun e w' => ∃ cs, CksOut w4 w' e cs ∧ IsCut n0 (szs sides) ms cs) := Lib.hid (fun v1 v2 rows5 W w4 h => by
    obtain ⟨A6, c6, rfl, -, -, h6⟩ := nums_of_own h.own1
    obtain ⟨A7, c7, rfl, -, -, h7⟩ := h.rows2.reads
    have hlen7 : rows5.length = n := by rw [h.rows2.len, ← hmse, ms_len]; simp [hl]
    rw [szs_len, hl, hlen7]
    rw [szs_len, hl] at h6
    rw [hlen7] at h7
    have his : ∀ (k : Nat) (l : List Int) (z : Int), ms[k]? = some l → (szs sides)[k]? = some z → IsMatch n0 l z := fun k l z a b => by
      rw [← hmse] at a
      rw [← hsz.out] at b
      have := ms_match a b
      rw [List.length_map, hl0] at this
      exact this
    have hzz : ∀ z ∈ szs sides, 0 ≤ z ∧ z ≤ 1000000 := fun z hz => by
      unfold szs at hz
      obtain ⟨d, hd, rfl⟩ := List.mem_map.1 hz
      have := v6 d hd
      omega
    have hall : ∀ l ∈ ms, ∃ z, 0 ≤ z ∧ z ≤ 1000000 ∧ IsMatch n0 l z := fun l hl' => by
      obtain ⟨k, hk⟩ := List.mem_iff_getElem?.1 hl'
      have hkl := (List.getElem?_eq_some_iff.1 hk).1
      have hkm : k < (szs sides).length := by rw [szs_len]; have := hMs.out.1; omega
      have hzk : (szs sides)[k]? = some ((szs sides)[k]'hkm) := List.getElem?_eq_getElem _
      exact ⟨_, (hzz _ (List.mem_of_getElem? hzk)).1, (hzz _ (List.mem_of_getElem? hzk)).2, his k l _ hk hzk⟩
    exact rAlign_any n0 A6 c6 (szs sides) A7 n c7 rows5 ms w4 (by omega) (by omega) (by omega) hzz (fun l hl' => by
      obtain ⟨z, z1, z2, h9⟩ := hall l hl'
      exact ⟨h9.1, fun u hu hne => by have := h9.2.1 u hu hne; omega⟩) (fun i l z a b => match_may (his i l z a b) (hzz z (List.mem_of_getElem? b)).1) his h6 h7)
  have hfin : Hid (∀ cs, IsCut n0 (szs sides) ms cs → CutsTo base sides 0 cs) := Lib.hid (fun cs h => ⟨hz.symm, fun h => absurd rfl h, fun _ => ⟨ms, hMs.out, by rw [hl0]; exact h⟩⟩)
  have i1 : (0 : Int) < (n3 : Int) := by omega
  clear hl hl0 hsm hz hN v1 v2 v3 v4 v5 v6 hF hids hRR hR4 hN5 hn3 hms hmse hmseh hsz hMs hR3h hlens
  go_region_with ((go_at_call 45; refine (hMt.out _ (by first | exact .inl rfl | exact .inr rfl)).mono ?_; rintro e w4 ⟨⟨v1, v2, rows5, rfl, hMI⟩, hB4⟩; have hMIh := Lib.hid hMI; have hB4h := Lib.hid hB4; clear hMI hB4))
  all_goals
    go_wp2_with (go_at_call 46; refine (hAlg.out _ _ _ _ _ hMIh.out).mono ?_; rintro e w5 ⟨cs, ⟨A8, n8, c8, rfl, q1, q2, q3, q4⟩, hcut⟩; have hqh := Lib.hid (And.intro q1 (And.intro q2 (And.intro q3 (And.intro q4 hcut)))); clear q1 q2 q3 q4 hcut)
    go_ret2
    exact ⟨0, A8, n8, c8, cs, rfl, hqh.out.1, hqh.out.2.1, hqh.out.2.2.1, hfin.out cs hqh.out.2.2.2.2, hB4h.out.trans (hqh.out.2.2.2.1.mono hB4h.out.size)⟩
end Go.Proofs.YtoephlkfejcadaaGreat
/- Proved here, without conditions on the program: plain facts on spans, and on what Parts tells. -/
namespace Go.Proofs.YtoephlkfejcadaaGreat
open Go.RowKit
set_option linter.unusedVariables false

/-- Is a span one of n places? -/
def inB (s : Sp) (n : Nat) : Bool := decide (0 ≤ s.1) && decide (s.1 ≤ s.2) && decide (s.2 ≤ n)
/-- Are sides' spans, as far as place k, spans of them? -/
def insB (spans : List Sp) (sides : List Txs) (k : Nat) : Prop := ∀ (i : Nat) (s : Sp) (l : Txs), i < k → spans[i]? = some s → sides[i]? = some l → inB s l.length = true
open Classical in
noncomputable def partErr (c : Ck) (base : Txs) (sides : List Txs) : Int := if c.2.2.length ≠ sides.length then 1 else if inB c.2.1 base.length = true ∧ insB c.2.2 sides sides.length then 0 else 3
/-- The texts that lie in a span. -/
def cutT (ss : Txs) (s : Sp) : Txs := cutL ss s.1 s.2
def cutsT (spans : List Sp) (sides : List Txs) : List Txs := List.zipWith (fun s l => cutT l s) spans sides
/-- What Parts tells. -/
def PartsOut (w w' : World) (e : Ending) (er : Int) (bs : Txs) (pss : List Txs) : Prop :=
  ∃ A n c A' n' c' rows, e = .returned (.tuple #[.slice A n c, .slice A' n' c', .int .i64 er]) ∧ TxR w' w'.heap.size (A, n, c) bs ∧ n' ≤ c' ∧ c' ≤ maxLen ∧ RowsT w' w'.heap.size A' n' rows pss ∧ Below w.heap.size w w'
/-- The same, the base's part below a bound of its own. -/
def PartsOutB (B : Nat) (w w' : World) (e : Ending) (er : Int) (bs : Txs) (pss : List Txs) : Prop :=
  ∃ A n c A' n' c' rows, e = .returned (.tuple #[.slice A n c, .slice A' n' c', .int .i64 er]) ∧ TxR w' B (A, n, c) bs ∧ n' ≤ c' ∧ c' ≤ maxLen ∧ RowsT w' w'.heap.size A' n' rows pss ∧ Below w.heap.size w w'
theorem PartsOutB.nothing {B : Nat} {w w' : World} (er : Int) (h : Below w.heap.size w w') : PartsOutB B w w' (.returned (.tuple #[.slice none 0 0, .slice none 0 0, .int .i64 er])) er [] [] :=
  ⟨.none, 0, 0, .none, 0, 0, [], rfl, TxR.nil _ _, Nat.le_refl _, Nat.zero_le _, RowsT.nil _ _ _, h⟩
theorem PartsOutB.out {B : Nat} {w w' : World} {e : Ending} {er : Int} {bs : Txs} {pss : List Txs} (hB : B ≤ w.heap.size) (h : PartsOutB B w w' e er bs pss) : PartsOut w w' e er bs pss := by
  obtain ⟨A, n, c, A', n', c', rows, h1, h2, h3, h4, h5, h6⟩ := h
  exact ⟨A, n, c, A', n', c', rows, h1, h2.more (Nat.le_trans hB h6.size), h3, h4, h5, h6⟩
theorem PartsOut.nothing {w w' : World} (er : Int) (h : Below w.heap.size w w') : PartsOut w w' (.returned (.tuple #[.slice none 0 0, .slice none 0 0, .int .i64 er])) er [] [] :=
  ⟨.none, 0, 0, .none, 0, 0, [], rfl, TxR.nil _ _, Nat.le_refl _, Nat.zero_le _, RowsT.nil _ _ _, h⟩

theorem inB_parts {s : Sp} {n : Nat} (h : inB s n = true) : 0 ≤ s.1 ∧ s.1 ≤ s.2 ∧ s.2 ≤ n := by
  unfold inB at h
  simpa [and_assoc] using h
theorem insB_step {spans : List Sp} {sides : List Txs} {k : Nat} {s : Sp} {l : Txs} (h1 : spans[k]? = some s) (h2 : sides[k]? = some l) : insB spans sides (k + 1) ↔ insB spans sides k ∧ inB s l.length = true := by
  constructor
  · intro h
    exact ⟨fun i s l hi a b => h i s l (by omega) a b, h k s l (by omega) h1 h2⟩
  · rintro ⟨h, h'⟩ i s' l' hi a b
    rcases Nat.lt_or_ge i k with hk | hk
    · exact h i s' l' hk a b
    · obtain rfl : i = k := by omega
      rw [h1] at a
      rw [h2] at b
      injection a with a
      injection b with b
      subst a
      subst b
      exact h'
theorem cutsT_step {spans : List Sp} {sides : List Txs} {k : Nat} {s : Sp} {l : Txs} (h1 : spans[k]? = some s) (h2 : sides[k]? = some l) : (cutsT spans sides).take (k + 1) = (cutsT spans sides).take k ++ [cutT l s] := by
  refine take_at ?_
  unfold cutsT
  rw [List.getElem?_zipWith, h1, h2]

theorem err_arg {c : Ck} {base : Txs} {sides : List Txs} (h : c.2.2.length ≠ sides.length) : partErr c base sides = 1 := by unfold partErr; rw [if_pos h]
theorem err_range {c : Ck} {base : Txs} {sides : List Txs} (h : c.2.2.length = sides.length) (h2 : ¬ (inB c.2.1 base.length = true ∧ insB c.2.2 sides sides.length)) : partErr c base sides = 3 := by unfold partErr; rw [if_neg (by simpa using h), if_neg h2]
theorem err_none {c : Ck} {base : Txs} {sides : List Txs} (h : c.2.2.length = sides.length) (h2 : inB c.2.1 base.length = true ∧ insB c.2.2 sides sides.length) : partErr c base sides = 0 := by unfold partErr; rw [if_neg (by simpa using h), if_pos h2]
/-- The texts that Parts tells. -/
noncomputable def partBase (c : Ck) (base : Txs) (sides : List Txs) : Txs := if partErr c base sides = 0 then cutT base c.2.1 else []
noncomputable def partSides (c : Ck) (base : Txs) (sides : List Txs) : List Txs := if partErr c base sides = 0 then cutsT c.2.2 sides else []

end Go.Proofs.YtoephlkfejcadaaGreat
/- Proved here, without conditions on the program: a merge's chunks have parts; how many there are. -/
namespace Go.Proofs.YtoephlkfejcadaaGreat
open Go.RowKit
set_option linter.unusedVariables false

/-- A chunk of a base, and sides, has parts. -/
theorem laid_parts {base : Txs} {sides : List Txs} {ms : List (List Int)} {cs : List Ck} (h : Laid base sides ms cs) {c : Ck} (hc : c ∈ cs) : partErr c base sides = 0 ∧ partBase c base sides = cutB c base ∧ partSides c base sides = cutsP c sides := by
  obtain ⟨h1, h2, h3, h4⟩ := h.lies hc
  have he : partErr c base sides = 0 := err_none h4 ⟨by unfold inB; simp; omega, fun i s l hi a b => by
    obtain ⟨sp, p1, p2, p3, p4, _⟩ := h.side hc b
    rw [a] at p1
    injection p1 with p1
    subst p1
    unfold inB
    simp
    omega⟩
  refine ⟨he, ?_, ?_⟩
  · unfold partBase; rw [if_pos he]; rfl
  · unfold partSides; rw [if_pos he]; rfl
theorem cutL_le {α : Type} (l : List α) (f t : Int) : (cutL l f t).length ≤ l.length := by
  unfold cutL
  simp
  omega
theorem cutL_mem {α : Type} {l : List α} {f t : Int} {x : α} (h : x ∈ cutL l f t) : x ∈ l := by
  unfold cutL at h
  exact List.mem_of_mem_drop (List.mem_of_mem_take h)
/-- Texts of pieces, each no longer than so many. -/
theorem sumT_most {ps : List Pc} {m : Nat} (h : ∀ p ∈ ps, p.2.1.length ≤ m) : sumT ps ≤ ps.length * m := by
  induction ps with
  | nil => simp [sumT]
  | cons p ps ih =>
    rw [sumT_cons, List.length_cons, Nat.succ_mul]
    have h1 := h p (List.mem_cons_self ..)
    have h2 := ih fun q hq => h q (List.mem_cons_of_mem _ hq)
    omega
/-- There are no more chunks than twice the places, and one. -/
theorem cov_few {m : Int} {sizes : List Int} : ∀ {cs : List Ck} {prev : Option Bool} {b : Int} {a : List Int}, Cov m sizes cs prev b a → (cs.length : Int) ≤ 2 * (m - b) + (if prev = some false then 0 else 1)
  | [], prev, b, a, h => by
    have := h.2
    subst this
    simp
    split <;> omega
  | c :: cs, prev, b, a, h => by
    obtain ⟨h1, h2⟩ := h
    have ih := cov_few h2
    have hle := h1.le
    have halt := h1.alt
    rw [List.length_cons]
    cases hc : c.1
    · rw [hc] at ih halt
      rw [if_pos rfl] at ih
      rw [if_neg halt]
      push_cast
      omega
    · have ho := h1.one hc
      rw [hc] at ih
      rw [if_neg (by simp)] at ih
      push_cast
      split <;> omega
end Go.Proofs.YtoephlkfejcadaaGreat
