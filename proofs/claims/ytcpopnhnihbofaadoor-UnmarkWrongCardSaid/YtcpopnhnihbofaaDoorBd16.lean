/- Proved here: texts joined: Push, TxO, MkPlA, Last, Open, SlcT. -/
import Derived.Test.YtcpopnhnihbofaaDoorBd02
import Derived.Test.YtcpopnhnihbofaaDoorBd03
import Derived.Test.YtcpopnhnihbofaaDoorBd04
import Derived.Test.YtcpopnhnihbofaaDoorBd09
import Derived.Test.YtcpopnhnihbofaaDoorBd11
import Derived.Test.YtcpopnhnihbofaaDoorChecked
import Derived.WalkLawsBesides
import Derived.IntWalk
import Derived.OwnWalk
import Derived.Maps.AppendAt
import Derived.Laws.OwnMore
import Derived.RangeFuncBox
import Derived.Deep.QuietTactic
import Derived.BigQuiet
import Derived.Lib.Hide
/- Proved here, without conditions on the program: what lies in a world behind allocs; new blocks that read as texts, as lists of texts. -/
namespace Go.Proofs.YtcpopnhnihbofaaDoor
open Go.RowKit
set_option linter.unusedVariables false

theorem push_at (w : World) (o : Obj) (k : Nat) : (w.alloc o).heap[k]? = if k = w.heap.size then some o else w.heap[k]? := by
  show (w.heap.push o)[k]? = _
  rw [Array.getElem?_push]
theorem push_size (w : World) (o : Obj) : (w.alloc o).heap.size = w.heap.size + 1 := by simp
theorem below_alloc {a w : World} (h : Below a.heap.size a w) (o : Obj) : Below a.heap.size a (w.alloc o) := h.alloc h.size o
theorem below_drew {a w : World} (h : Below a.heap.size a w) : Below a.heap.size a w.drew := below_drewN h 1
theorem two_a (w : World) (o1 o2 : Obj) : ((w.alloc o1).alloc o2).heap[w.heap.size]? = some o1 ∧ ((w.alloc o1).alloc o2).heap[w.heap.size + 1]? = some o2 := by
  constructor
  · rw [push_at, if_neg (by simp), push_at, if_pos rfl]
  · rw [push_at, push_size, if_pos rfl]
theorem one_a (w : World) (o1 : Obj) : (w.alloc o1).heap[w.heap.size]? = some o1 := by rw [push_at, if_pos rfl]
theorem TxR.but {F : Nat → Prop} {w w' : World} {r : Slc} {ss : Txs} (h : TxR w w.heap.size r ss) (hb : But F w w') (hF : 0 < r.2.1 → ∀ q o, r.1 = some ⟨q, o, none⟩ → ¬ F q) : TxR w' w'.heap.size r ss := by
  refine ⟨h.1, h.2.1, h.2.2.1, fun hn => ?_⟩
  obtain ⟨b, o, e, hlt, hc⟩ := h.2.2.2 hn
  exact ⟨b, o, e, Nat.lt_of_lt_of_le hlt hb.size, fun j u hu => (World.cell?_of_block (w := w) (hb.block b hlt (hF hn b o e))).trans (hc j u hu)⟩
theorem txr_of {W : World} {g n : Nat} {ss : Txs} {C : Array Value} {t : TypeId} (h : W.heap[g]? = some (.cells C t (0, 0))) (hC : C = (ss.map fun s => Value.string (str s)).toArray) (hn : ss.length = n) (hm : n ≤ maxLen) : TxR W W.heap.size (some ⟨g, 0, none⟩, n, n) ss := by
  refine ⟨Nat.le_refl _, hm, by simpa using hn, fun _ => ⟨g, 0, rfl, (Array.getElem?_eq_some_iff.1 h).1, fun j u hu => ?_⟩⟩
  rw [Nat.zero_add, cells_of h, hC]
  simpa using hu
theorem rowsT_of {W : World} {g n : Nat} {rows : List Slc} {sss : List Txs} {C : Array Value} {t : TypeId} (h : W.heap[g]? = some (.cells C t (0, 0))) (hC : C = (rows.map slcV).toArray) (hn : rows.length = n) (hl : rows.length = sss.length)
    (each : ∀ (k : Nat) (r : Slc) (ss : Txs), rows[k]? = some r → sss[k]? = some ss → TxR W W.heap.size r ss) : RowsT W W.heap.size (some ⟨g, 0, none⟩) n rows sss := by
  refine ⟨⟨by simpa using hn, fun _ => ⟨g, 0, rfl, (Array.getElem?_eq_some_iff.1 h).1, fun j u hu => ?_⟩⟩, hl, each⟩
  rw [Nat.zero_add, cells_of h, hC]
  simpa using hu
end Go.Proofs.YtcpopnhnihbofaaDoor
/- Proved here: texts of the call's own; numbers that an int may hold. -/
namespace Go.Proofs.YtcpopnhnihbofaaDoor
open Go.RowKit
set_option linter.unusedVariables false

theorem infoStr : (Tryd.prog.info? 9).map (fun i => (i.zero, i.size, i.bytes)) = some (some (.string ByteArray.empty), 1, 16) := by kernel_rfl
/-- Texts of the call's own. -/
structure TxO (w wr : World) (v : Value) (xs : Txs) : Prop where
  own : wr.ownsRow w.heap.size 9 1 v xs.length (xs.map fun s => .string (str s))
  below : Below w.heap.size w wr
theorem TxO.out {w wr : World} {v : Value} {xs : Txs} (h : TxO w wr v xs) : TxsOut w wr (.returned v) xs := by
  obtain ⟨A, c, rfl, h1, h2, h3⟩ := own_slice h.own
  exact ⟨A, _, c, rfl, ⟨h1, h2, h3⟩, h.below⟩
theorem TxO.put {w wr w2 : World} {v v' : Value} {xs ys : Txs} {m : Nat} (h : TxO w wr v xs) (hl : ys.length = m) (hown : w2.ownsRow w.heap.size 9 1 v' (xs.length + m) ((xs.map fun s => .string (str s)) ++ ys.map fun s => .string (str s))) (hg : wr.grownBy w2 v.ownBlock) : TxO w w2 v' (xs ++ ys) := by
  refine ⟨?_, h.below.grown hg h.below.size fun j e => (h.own.lt j e).1⟩
  rw [List.length_append, hl, List.map_append]
  exact hown

/-- A number that an int may hold. -/
def inR64 (v : Int) : Prop := -9223372036854775808 ≤ v ∧ v ≤ 9223372036854775807
theorem wrap_pred {n : Int} {k m : Nat} (hn : inR64 n) (hk : k < m) (hm : m ≤ 9223372036854775807) : ((k : Int) == IntKind.i64.wrap (n - 1)) = decide ((k : Int) = n - 1) := by
  unfold inR64 at hn
  by_cases h : -9223372036854775808 ≤ n - 1
  · rw [IntWalk.i64_in _ (by omega)]
    rfl
  · have e : n = -9223372036854775808 := by omega
    subst e
    have : IntKind.i64.wrap (-9223372036854775808 - 1) = 9223372036854775807 := by decide
    rw [this]
    have h1 : ¬ (k : Int) = 9223372036854775807 := by omega
    have h2 : ¬ (k : Int) = -9223372036854775808 - 1 := by omega
    rw [decide_eq_false h2]
    simpa using h1

theorem strs_app (a b : Tx) : str a ++ str b = str (a ++ b) := by
  apply ByteArray.ext
  simp [str]
theorem str_feed (s : Tx) : str s ++ ⟨#[10]⟩ = str (s ++ [10]) := by
  apply ByteArray.ext
  simp [str]
theorem TxO.push {w wr w2 : World} {v v' : Value} {xs : Txs} {s : Tx} {o : Obj} (h : TxO w wr v xs) (hown : w2.ownsRow w.heap.size 9 1 v' (xs.length + 1) ((xs.map fun s => .string (str s)) ++ [.string (str s)])) (hg : (wr.alloc o).grownBy w2 v.ownBlock) : TxO w w2 v' (xs ++ [s]) := by
  have hs := h.below.size
  refine ⟨?_, (h.below.alloc hs o).grown hg (by simp; omega) fun j e => (h.own.lt j e).1⟩
  rw [List.length_append, List.map_append]
  exact hown

end Go.Proofs.YtcpopnhnihbofaaDoor
/- Proved here, without conditions on the program: texts put together; how many lines a conflict makes. -/
namespace Go.Proofs.YtcpopnhnihbofaaDoor
open Go.RowKit
set_option linter.unusedVariables false
set_option maxRecDepth 100000

theorem rep_app (c : UInt8) (i : Nat) : str (List.replicate i c) ++ str [c] = str (List.replicate (i + 1) c) := by
  rw [strs_app, ← List.replicate_succ']

theorem closed_setO {ss : Txs} {n : Nat} {t : Tx} (hl : ss.length = n + 1) (ht : ss[n]? = some t) (ho : openB ss = true) : closed ss = ss.set n (t ++ [10]) := by
  have hg : ss.getLast? = some t := by rw [List.getLast?_eq_getElem?, hl]; exact ht
  unfold closed openB at *
  rw [hg] at ho ⊢
  dsimp only at ho ⊢
  rw [if_neg (by simpa using ho)]
  apply List.ext_getElem?
  intro i
  rw [List.getElem?_set]
  rcases Nat.lt_trichotomy i n with h | h | h
  · rw [List.getElem?_append_left (by rw [List.length_dropLast]; omega), List.getElem?_dropLast, if_pos (by omega), if_neg (by omega)]
  · subst h
    rw [List.getElem?_append_right (by rw [List.length_dropLast]; omega), List.length_dropLast, if_pos rfl, if_pos (by omega)]
    rw [hl, Nat.add_sub_cancel, Nat.sub_self]
    rfl
  · rw [List.getElem?_eq_none (by rw [List.length_append, List.length_dropLast, List.length_singleton]; omega), if_neg (by omega), List.getElem?_eq_none (by omega)]

theorem TxO.call {w wr w1 : World} {v : Value} {xs : Txs} (h : TxO w wr v xs) (hb : Below wr.heap.size wr w1) : TxO w w1 v xs :=
  ⟨ownsRow_kept h.own fun k e => hb.block k (h.own.lt k e).2, h.below.trans (hb.mono h.below.size)⟩
theorem own_lower {w : World} {b1 b2 n : Nat} {e : TypeId} {size : Nat} {v : Value} {xs : List Value} (h : w.ownsRow b1 e size v n xs) (hb : b2 ≤ b1) : w.ownsRow b2 e size v n xs := by
  refine ⟨h.1, ?_⟩
  rcases h.2 with h | ⟨g, cap, cur, e1, h2, r⟩
  · exact .inl h
  · exact .inr ⟨g, cap, cur, e1, Nat.le_trans hb h2, r⟩
theorem TxO.lit (w : World) (s : Tx) : TxO w (w.alloc (.cells #[.string (str s)] 9)) (.slice (some ⟨w.heap.size, 0, none⟩) 1 1) [s] :=
  ⟨World.ownsRow_lit w #[.string (str s)] 1 (Nat.le_refl _) (by decide) rfl, below_alloc (Below.refl _ _) _⟩
theorem sides_len : ∀ (ds : List Txs) (long : Nat) (ahead : Txs) (n : Nat), (sidesM long ahead n ds).length = ds.flatten.length + ds.length + 1
  | [], _, _, _ => rfl
  | d :: ds, long, ahead, n => by
    unfold sidesM
    rw [List.length_cons, List.length_append, closed_len, sides_len ds, List.flatten_cons, List.length_append, List.length_cons]; omega
theorem flatM_len {ds : List Txs} (h : ∀ d ∈ ds, d.length ≤ 10000) : ds.flatten.length ≤ ds.length * 10000 := by
  induction ds with
  | nil => simp
  | cons d ds ih =>
    have := ih fun e he => h e (List.mem_cons_of_mem _ he)
    have := h d (List.mem_cons_self ..)
    rw [List.flatten_cons, List.length_append, List.length_cons]
    omega
theorem conf_len {style : Int} {long : Nat} {bs : Txs} {ds : List Txs} (h : ∀ d ∈ bs :: ds, d.length ≤ 10000) : (confM style long bs ds).length ≤ (ds.length + 2) * 10001 := by
  cases ds with
  | nil => simp [confM]
  | cons f ds =>
    have h1 := flatM_len (ds := ds) fun d hd => h d (List.mem_cons_of_mem _ (List.mem_cons_of_mem _ hd))
    have h2 := h bs (List.mem_cons_self ..)
    have h3 := h f (by simp)
    unfold confM
    rw [List.length_cons, List.length_append, closed_len]
    split
    · rw [sides_len, List.length_cons]; omega
    · rw [List.length_cons, List.length_append, closed_len, sides_len, List.length_cons]; omega
theorem conf_split (style : Int) (long : Nat) (bs f : Txs) (ds : List Txs) : confM style long bs (f :: ds) = if style = 1 then ([markT 60 long [] [32, 49]] ++ closed f) ++ sidesM long f 2 ds else (([markT 60 long [] [32, 49]] ++ closed f) ++ [markT 124 long f [32, 98, 97, 115, 101]] ++ closed bs) ++ sidesM long bs 2 ds := by
  by_cases h : style = 1
  · rw [if_pos h]; unfold confM; simp [h]
  · rw [if_neg h]; unfold confM; simp [h]
end Go.Proofs.YtcpopnhnihbofaaDoor
/- Proved here, without conditions on the program: the last byte of a string. (NOT beside stage 1's Lines, which has the same name.) -/
namespace Go.Proofs.YtcpopnhnihbofaaDoor
open Go.RowKit
set_option linter.unusedVariables false

theorem last_byte (s : ByteArray) (h : 1 ≤ s.size) (k : Nat) (hk : k = s.size - 1) (h' : k < s.size) : endedB s.data.toList = (((s[k]'h').toNat : Int) == 10) := by
  subst hk
  have e : s.data.toList.getLast? = some (s[s.size - 1]'h') := by
    rw [List.getLast?_eq_getElem?]
    have hz : s.data.toList.length = s.size := (Lib.size_eq s).symm
    rw [hz, List.getElem?_eq_getElem (by omega)]
    rfl
  unfold endedB
  rw [e, Bool.eq_iff_iff]
  simp only [beq_iff_eq, Option.some.injEq]
  constructor
  · intro h; rw [h]; rfl
  · intro h; exact UInt8.toNat_inj.1 (by simpa using (by exact_mod_cast h : (s[s.size - 1]'h').toNat = 10))
end Go.Proofs.YtcpopnhnihbofaaDoor
/- Proved here: the contract of the document's own answer Open of layer 1 (for strings of at most maxLen bytes); for stages behind the first: NOT beside stage 1's Lines and Ref, which have the same names. -/
namespace Go.Proofs.YtcpopnhnihbofaaDoor
open Go.RowKit
set_option linter.unusedVariables false

set_option maxHeartbeats 400000 in
theorem rOpen_any (A : Option Addr) (n c B : Nat) (ss : List (List UInt8)) (w : World) (hn : n ≤ maxLen) (hs : ∀ s ∈ ss, s.length ≤ maxLen) (hA : Strs w B A n ss) :
    Calls Tryd.prog 15 #[.slice A n c] w fun e w' => e = .returned (.bool (openB ss)) ∧ w = w' := by
  unfold maxLen at hn
  have hl := hA.len
  by_cases h0 : n = 0
  · subst h0
    go_enter Tryd.func15, Tryd.ntmps15
    go_wp2
    go_ret
    obtain rfl : ss = [] := List.eq_nil_of_length_eq_zero hl
    exact ⟨rfl, rfl⟩
  · obtain ⟨b, o, t, rfl, _, ht, hc⟩ := hA.at_ (k := n - 1) (by omega)
    have htl : t.length ≤ maxLen := hs t (List.mem_of_getElem? ht)
    unfold maxLen at htl
    have hres : Hid ((!endedB t) = openB ss) := Lib.hid <| by
      unfold openB; rw [List.getLast?_eq_getElem?, hl, ht]
    have h1 : (1 : Int) ≤ n := by omega
    have hd : (((n : Int)) == 0) = false := by simp; omega
    by_cases hz : (str t).size = 0
    · have hzz : ((((str t).size : Nat) : Int) == 0) = true := by rw [hz]; rfl
      have hz' := Lib.hid hz
      clear hz
      go_enter Tryd.func15, Tryd.ntmps15
      go_wp2
      go_ret
      refine ⟨ret_bool ?_, rfl⟩
      rw [← hres.out]
      have := hz'.out
      rw [str_size] at this
      rw [List.eq_nil_of_length_eq_zero this]; rfl
    · have hzz : ((((str t).size : Nat) : Int) == 0) = false := by rw [beq_eq_false_iff_ne]; omega
      have hp : 1 ≤ (str t).size := by omega
      have hsl : (str t).size ≤ 9223372036854775807 := by rw [str_size]; omega
      have hlb := Lib.hid (last_byte (str t) hp _ rfl (by omega))
      go_enter Tryd.func15, Tryd.ntmps15
      go_wp2
      go_ret
      refine ⟨ret_bool ?_, rfl⟩
      have h2 := hlb.out
      rw [str_data] at h2
      rw [← hres.out, h2]
      rfl
end Go.Proofs.YtcpopnhnihbofaaDoor
/- Proved here: a slice of texts cut by one bound alone, ahead or behind. -/
namespace Go.Proofs.YtcpopnhnihbofaaDoor
open Go.RowKit
set_option linter.unusedVariables false
set_option maxRecDepth 100000

/-- 's[:k]'. -/
theorem slice_to {w : World} {B n c : Nat} {A : Option Addr} {ss : List (List UInt8)} {k : Nat} (h : TxR w B (A, n, c) ss) (hk : k ≤ n) :
    ∃ A' m q, (∀ W : World, (Instr.slice 22 (.slice A n c) none (some (.int .i64 (k : Int))) none).run Tryd.prog W = .ok (.slice A' m q) W) ∧ TxR w B (A', m, q) (ss.take k) ∧ m = k := by
  obtain ⟨e1, e2, e3⟩ := h
  dsimp only at e1 e2 e3
  have hl := e3.len
  refine ⟨(if c = 0 then A else A.map (·.add 0)), k, c, fun W => ?_, ⟨by show k ≤ c; omega, e2, by rw [List.length_map, List.length_take]; show min k ss.length = k; omega, fun hn => ?_⟩, rfl⟩
  · rw [run_slice_h (P := Tryd.prog) W 22 A n c Tryd.underlying22 .i64 (k : Int) (by omega) (by omega)]
    go_simp
  · obtain ⟨b, o, rfl, hb, hcell⟩ := e3.2 (by have : 0 < k := hn; omega)
    have hc0 : c ≠ 0 := by have : 0 < k := hn; omega
    refine ⟨b, o, by show (if c = 0 then some ⟨b, o, none⟩ else (some (⟨b, o, none⟩ : Addr)).map (·.add 0)) = _; rw [if_neg hc0]; rfl, hb, fun j u hu => ?_⟩
    refine hcell j u ?_
    rw [← hu, List.map_take, List.getElem?_take]
    have hj := (List.getElem?_eq_some_iff.1 hu).1
    simp at hj
    rw [if_pos (by omega)]
/-- 's[k:]'. -/
theorem slice_from {w : World} {B n c : Nat} {A : Option Addr} {ss : List (List UInt8)} {k : Nat} (h : TxR w B (A, n, c) ss) (hk : k ≤ n) :
    ∃ A' m q, (∀ W : World, (Instr.slice 22 (.slice A n c) (some (.int .i64 (k : Int))) none none).run Tryd.prog W = .ok (.slice A' m q) W) ∧ TxR w B (A', m, q) (ss.drop k) ∧ m + k = n := by
  obtain ⟨e1, e2, e3⟩ := h
  dsimp only at e1 e2 e3
  have hl := e3.len
  refine ⟨(if c = k then A else A.map (·.add k)), n - k, c - k, fun W => ?_, ⟨by show n - k ≤ c - k; omega, by show c - k ≤ maxLen; omega, by rw [List.length_map, List.length_drop]; show ss.length - k = n - k; omega, fun hn => ?_⟩, by omega⟩
  · rw [run_slice_l (P := Tryd.prog) W 22 A n c Tryd.underlying22 .i64 (k : Int) (by omega) (by omega)]
    go_simp
  · have hn' : 0 < n - k := hn
    obtain ⟨b, o, rfl, hb, hcell⟩ := e3.2 (by omega)
    refine ⟨b, o + k, by show (if c = k then some ⟨b, o, none⟩ else (some (⟨b, o, none⟩ : Addr)).map (·.add k)) = _; rw [if_neg (by omega)]; simp only [Option.map_some]; unfold Addr.add; split <;> simp_all, hb, fun j u hu => ?_⟩
    rw [Nat.add_assoc]
    refine hcell (k + j) u ?_
    rw [← hu, List.map_drop, List.getElem?_drop]
/-- A slice lies where another one does. -/
def Near (A : Option Addr) (r : Slc) : Prop := 0 < r.2.1 → ∀ q o, r.1 = some ⟨q, o, none⟩ → ∃ o', A = some ⟨q, o', none⟩
/-- 's[i:k]'. -/
theorem slice_mid {w : World} {B n c : Nat} {A : Option Addr} {ss : List (List UInt8)} {i k : Nat} (h : TxR w B (A, n, c) ss) (hi : i ≤ k) (hk : k ≤ n) :
    ∃ A' m q, (∀ W : World, (Instr.slice 22 (.slice A n c) (some (.int .i64 (i : Int))) (some (.int .i64 (k : Int))) none).run Tryd.prog W = .ok (.slice A' m q) W) ∧ TxR w B (A', m, q) ((ss.drop i).take (k - i)) ∧ m + i = k ∧ Near A (A', m, q) := by
  obtain ⟨e1, e2, e3⟩ := h
  dsimp only at e1 e2 e3
  have hl := e3.len
  refine ⟨(if c = i then A else A.map (·.add i)), k - i, c - i, fun W => ?_, ⟨by show k - i ≤ c - i; omega, by show c - i ≤ maxLen; omega, by rw [List.length_map, List.length_take, List.length_drop]; show min (k - i) (ss.length - i) = k - i; omega, fun hn => ?_⟩, by omega, fun hn q o e => ?_⟩
  · rw [run_slice_lh (P := Tryd.prog) W 22 A n c Tryd.underlying22 .i64 .i64 (i : Int) (k : Int) (by omega) (by omega) (by omega)]
    go_simp
  · have hn' : 0 < k - i := hn
    obtain ⟨b, o, rfl, hb, hcell⟩ := e3.2 (by omega)
    refine ⟨b, o + i, by show (if c = i then some ⟨b, o, none⟩ else (some (⟨b, o, none⟩ : Addr)).map (·.add i)) = _; rw [if_neg (by omega)]; simp only [Option.map_some]; unfold Addr.add; split <;> simp_all, hb, fun j u hu => ?_⟩
    rw [Nat.add_assoc]
    refine hcell (i + j) u ?_
    have hj := (List.getElem?_eq_some_iff.1 hu).1
    simp at hj
    rw [← hu, List.map_take, List.getElem?_take, if_pos (by omega), List.map_drop, List.getElem?_drop]
  · have hn' : 0 < k - i := hn
    obtain ⟨b, o', rfl, hb, hcell⟩ := e3.2 (by omega)
    dsimp only at e
    rw [if_neg (by omega), Option.map_some] at e
    injection e with e
    refine ⟨o', ?_⟩
    have hb2 : ((⟨b, o', none⟩ : Addr).add i).block = b := by unfold Addr.add; split <;> rfl
    rw [e] at hb2
    dsimp only at hb2
    rw [hb2]
end Go.Proofs.YtcpopnhnihbofaaDoor
