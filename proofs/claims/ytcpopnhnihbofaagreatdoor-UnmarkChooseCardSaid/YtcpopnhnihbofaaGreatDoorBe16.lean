/- Proved here: texts joined: MkPlB, MkList, Last, Byte, May, Open, ContFew. -/
import Derived.Test.YtcpopnhnihbofaaGreatDoorBe01
import Derived.Test.YtcpopnhnihbofaaGreatDoorBe02
import Derived.Test.YtcpopnhnihbofaaGreatDoorBe03
import Derived.Test.YtcpopnhnihbofaaGreatDoorBe07
import Derived.Test.YtcpopnhnihbofaaGreatDoorBe09
import Derived.Test.YtcpopnhnihbofaaGreatDoorBe13
import Derived.Test.YtcpopnhnihbofaaGreatDoorBe15
import Derived.Test.YtcpopnhnihbofaaGreatDoorChecked
import Derived.WalkLawsBesides
import Derived.Deep.QuietTactic
import Derived.BigQuiet
import Derived.Lib.Hide
/- Proved here, without conditions on the program: what is printed of pieces, and how many lines that are. -/
namespace Go.Proofs.YtcpopnhnihbofaaGreatDoor
open Go.RowKit
set_option linter.unusedVariables false
set_option maxRecDepth 100000

/-- Texts that a call tells, and a number. -/
def PrintOut (w w' : World) (e : Ending) (xs : Txs) (no : Int) : Prop := ∃ v, e = .returned (.tuple #[v, .int .i64 no]) ∧ TxO w w' v xs
theorem TxO.nil (w w' : World) (hb : Below w.heap.size w w') : TxO w w' (.slice none 0 0) [] := ⟨World.ownsRow_nil _ _ _ _, hb⟩
/-- What is printed of pieces, one way or the other. -/
def printM (ps : List Pc) (style long : Int) : Txs := if wrongM ps style long = 0 then linesM style long.toNat (if style = 3 then zealD ps else ps) else []
theorem lines_take {style : Int} {long : Nat} {ps : List Pc} {i : Nat} {p : Pc} (h : ps[i]? = some p) : linesM style long (ps.take (i + 1)) = linesM style long (ps.take i) ++ pieceM style long p := by
  unfold linesM
  rw [take_at h, List.flatMap_append]
  simp
theorem piece_len {style : Int} {long : Nat} {p : Pc} (h : smallP p) (hn : p.1 = true → p.2.2.2.length ≤ 16) : (pieceM style long p).length ≤ 180018 := by
  obtain ⟨h1, h2, h3, h4⟩ := h
  unfold pieceM
  split
  · rename_i hc
    have := conf_len (style := style) (long := long) (bs := p.2.2.1) (ds := p.2.2.2) fun d hd => by
      rcases List.mem_cons.1 hd with rfl | hd
      · exact h4
      · have := h3 d hd; omega
    have := hn hc
    omega
  · omega
theorem lines_sum {style : Int} {long : Nat} : ∀ {ps : List Pc}, (∀ p ∈ ps, smallP p ∧ (p.1 = true → p.2.2.2.length ≤ 16)) → (linesM style long ps).length ≤ ps.length * 180018
  | [], _ => by simp [linesM]
  | p :: ps, h => by
    have h1 := lines_sum (style := style) (long := long) (ps := ps) fun q hq => h q (List.mem_cons_of_mem _ hq)
    have h2 := piece_len (style := style) (long := long) (h p (List.mem_cons_self ..)).1 (h p (List.mem_cons_self ..)).2
    unfold linesM at h1 ⊢
    rw [List.flatMap_cons, List.length_append, List.length_cons]
    omega
end Go.Proofs.YtcpopnhnihbofaaGreatDoor
/- Proved here: the contract of the document's own answer of layer 12: Lists. -/
namespace Go.Proofs.YtcpopnhnihbofaaGreatDoor
open Go.RowKit
set_option linter.unusedVariables false
set_option maxRecDepth 100000

theorem ZRow.puts {w wr w2 : World} {lo Bz m : Nat} {v v' : Value} {rs rr : List Slc} {xs ds : List Txs} {A : Option Addr} (h : ZRow w lo Bz wr v rs xs) (hown : w2.ownsRow Bz 25 1 v' (rs.length + m) (rs.map slcV ++ rr.map slcV)) (hT : RowsT w lo A m rr ds) : ZRow w lo Bz w2 v' (rs ++ rr) (xs ++ ds) := by
  have hl := hT.rlen
  refine ⟨by rw [List.length_append, List.map_append, hl]; exact hown, by rw [List.length_append, List.length_append, h.2.1, hT.2.1], fun i r' d' a b => ?_⟩
  rcases Nat.lt_or_ge i rs.length with hi | hi
  · rw [List.getElem?_append_left hi] at a
    rw [List.getElem?_append_left (by rw [← h.2.1]; exact hi)] at b
    exact h.2.2 i r' d' a b
  · rw [List.getElem?_append_right hi] at a
    rw [List.getElem?_append_right (by rw [← h.2.1]; exact hi), ← h.2.1] at b
    exact hT.2.2 _ r' d' a b
theorem lists_take {ps : List Pc} {i : Nat} {p : Pc} (h : ps[i]? = some p) : listsP (ps.take (i + 1)) = listsP (ps.take i) ++ [p.2.1] ++ [p.2.2.1] ++ p.2.2.2 := by
  unfold listsP
  rw [take_at h, List.flatMap_append]
  simp
theorem lists_le (ps : List Pc) (i : Nat) : (listsP (ps.take i)).length ≤ (listsP ps).length := by
  conv => rhs; rw [← List.take_append_drop i ps]
  unfold listsP
  rw [List.flatMap_append, List.length_append]
  omega

set_option maxHeartbeats 4000000 in
theorem rLists_any (A : Option Addr) (n c : Nat) (vs : List PcV) (ps : List Pc) (w : World) (hn : n ≤ maxLen) (hcnt : (listsP ps).length ≤ 1000000) (hA : Pcs w w.heap.size A n vs ps) :
    Calls Tryz.prog 40 #[.slice A n c] w fun e w' => RowsOut w w' e (listsP ps) := by
  have hl := hA.len
  obtain ⟨i0, hi, hz⟩ := Option.map_eq_some_iff.1 infoTxs
  simp only [Prod.mk.injEq] at hz
  obtain ⟨hz1, hz2, hz3⟩ := hz
  have hAh := Lib.hid hA
  have hlh := Lib.hid hl
  have hcnth := Lib.hid hcnt
  unfold maxLen at hn
  clear hA hl hcnt
  go_enter Tryz.func40, Tryz.ntmps40
  go_wp2
  go_loopw [3, 4] (fun s3 s4 wr => ∃ (i : Nat) (v : Value) (rs : List Slc), i ≤ n ∧ s4 = .int .i64 i ∧ v = s3 ∧ Hid (ZRow w w.heap.size w.heap.size wr v rs (listsP (ps.take i))) ∧ Hid (Below w.heap.size w wr)) (fun _ s4 _ => n - (intOf s4).toNat)
  case atStart => exact ⟨0, _, [], Nat.zero_le _, rfl, rfl, Lib.hid (ZRow.start _ _ _ _), Lib.hid (Below.refl _ _)⟩
  case round =>
    obtain ⟨i, v, rs, hi2, rfl, rfl, hZ, hB⟩ := hrel
    obtain ⟨wo, rfl⟩ : ∃ wo : World, wo = wr := ⟨_, rfl⟩
    by_cases hlt : i < n
    · obtain ⟨b, o, cf, At, nt, ct, Ab, nb, cb, As, ns, cs, t, bs, ss, rfl, hb, hv, hp, k1, k2, k3, k4, j1, j2, ⟨j3, j4, rr, j5⟩⟩ := hAh.out.at_ (k := i) hlt
      have i1 : (0 : Int) ≤ (i : Int) := by omega
      have i2 : (i : Int) < (n : Int) := by omega
      have hcs : Hid (∀ W, Below w.heap.size w W → W.cell? ⟨b, o + i * 4 + 1, none⟩ = some (.slice At nt ct) ∧ W.cell? ⟨b, o + i * 4 + 2, none⟩ = some (.slice Ab nb cb) ∧ W.cell? ⟨b, o + i * 4 + 3, none⟩ = some (.slice As ns cs)) := Lib.hid (fun W hW => ⟨(hW.cell (p := ⟨b, o + i * 4 + 1, none⟩) hb).trans k2, (hW.cell (p := ⟨b, o + i * 4 + 2, none⟩) hb).trans k3, (hW.cell (p := ⟨b, o + i * 4 + 3, none⟩) hb).trans k4⟩)
      have hst := Lib.hid (lists_take hp)
      have hle1 := lists_le ps (i + 1)
      rw [hst.out] at hle1
      simp only [List.length_append, List.length_singleton] at hle1
      have hrl := hZ.out.2.1
      have hsl := j5.len
      have hmax : Hid (rs.length + 1 ≤ maxLen ∧ (rs.length + 1) * 24 ≤ 140737488355328 ∧ (rs.length + 1) + 1 ≤ maxLen ∧ ((rs.length + 1) + 1) * 24 ≤ 140737488355328 ∧ (rs.length + 1 + 1) + ns ≤ maxLen ∧ (rs.length + 1 + 1 + ns) * 24 ≤ 140737488355328) := Lib.hid (by have := hcnth.out; dsimp only at hle1 hsl; unfold maxLen; omega)
      have hown := hZ.out.1
      have hsz := hB.out.size
      obtain ⟨y1, y2, y3⟩ := hcs.out wo hB.out
      have hj1 := Lib.hid j1
      have hj2 := Lib.hid j2
      have hj5 := Lib.hid j5
      have hbo : b < wo.heap.size := by omega
      clear hv hp k1 k2 k3 k4 j1 j2 j5 hle1 hrl hsl
      go_wp2_with (first
        | (at_builtin; refine wpList_append_own_at _ rfl (.tmp 11) (.tmp 17) 38 rfl w.heap.size 25 i0 (.slice none 0 0) 1 24 Tryz.underlying38 hi hz1 hz2 hz3 rfl (by decide) v rs.length _ rfl (hown.alloc _) ⟨wo.heap.size, 0, none⟩ 1 1 [.slice At nt ct] rfl rfl (cell_one_new _ _ _) (by simp [Value.oneCell']) hmax.out.1 hmax.out.2.1 (by simp; omega) ?_; intro v1 w1 hown1 hg1 hnil1 hloc1; have hB1 := Lib.hid ((hB.out.alloc hsz _).grown hg1 (by simp; omega) (fun g e => (hown.lt g e).1)); have hZ1 := Lib.hid (hZ.out.put (v' := v1) (w2 := w1) (r := (At, nt, ct)) (d := t) hown1 hj1.out); obtain ⟨-, z2, -⟩ := hcs.out w1 hB1.out; have hsz1 := hB1.out.size; clear hnil1 hloc1 hg1)
        | (at_builtin; refine wpList_append_own_at _ rfl (.tmp 19) (.tmp 25) 38 rfl w.heap.size 25 i0 (.slice none 0 0) 1 24 Tryz.underlying38 hi hz1 hz2 hz3 rfl (by decide) v1 (rs.length + 1) _ rfl (hown1.alloc _) ⟨w1.heap.size, 0, none⟩ 1 1 [.slice Ab nb cb] rfl rfl (cell_one_new _ _ _) (by simp [Value.oneCell']) hmax.out.2.2.1 hmax.out.2.2.2.1 (by simp; omega) ?_; intro v2 w2 hown2 hg2 hnil2 hloc2; have hB2 := Lib.hid ((hB1.out.alloc hsz1 _).grown hg2 (by simp; omega) (fun g e => (hown1.lt g e).1)); have hZ2 := Lib.hid (hZ1.out.put (v' := v2) (w2 := w2) (r := (Ab, nb, cb)) (d := bs) (by rw [List.length_append, List.map_append]; exact hown2) hj2.out); obtain ⟨-, -, z3⟩ := hcs.out w2 hB2.out; have hR2 := Lib.hid (hj5.out.up hB2.out).1; clear hnil2 hloc2 hg2)
        | (at_builtin; refine wpList_append_reads _ rfl (.tmp 27) (.tmp 32) 38 rfl w.heap.size 25 i0 (.slice none 0 0) 24 Tryz.underlying38 hi hz1 hz2 hz3 rfl v2 (rs.length + 1 + 1) _ rfl hown2 _ As ns cs _ rfl hR2.out (slcV_one _) hmax.out.2.2.2.2.1 hmax.out.2.2.2.2.2 hB2.out.size ?_; intro v3 w3 hown3 hg3; have hB3 := Lib.hid (hB2.out.grown hg3 hB2.out.size (fun g e => (hown2.lt g e).1)); have hZ3 := Lib.hid (hZ2.out.puts (v' := v3) (w2 := w3) (m := ns) (by rw [List.length_append, List.length_append, List.map_append, List.map_append]; exact hown3) hj5.out); clear hg3))
      clear hown1 hown2 hown3
      go_roundw
      case rel => exact ⟨i + 1, v3, _, by omega, by go_num, rfl, Lib.hid (by rw [hst.out]; exact hZ3.out), hB3⟩
      case measure => simp [intOf]; omega
    · obtain rfl : i = n := by omega
      have hZf : ZRow w w.heap.size w.heap.size wo v rs (listsP ps) := by have := hZ.out; rw [List.take_of_length_le (by rw [hlh.out]; exact Nat.le_refl _)] at this; exact this
      obtain ⟨A5, c5, hv, l1, l2, hR5⟩ := hZf.rows (Nat.le_refl _) hB.out
      subst hv
      have hfin := Lib.hid (And.intro l1 (And.intro l2 hR5))
      clear hZf l1 l2 hR5
      go_wp2
      go_ret
      exact ⟨A5, _, c5, rs, rfl, hfin.out.1, hfin.out.2.1, hfin.out.2.2, hB.out⟩
end Go.Proofs.YtcpopnhnihbofaaGreatDoor
/- Proved here, without conditions on the program: the last byte of a string. (NOT beside stage 1's Lines, which has the same name.) -/
namespace Go.Proofs.YtcpopnhnihbofaaGreatDoor
open Go.RowKit
set_option linter.unusedVariables false

theorem last_byte (s : ByteArray) (h : 1 ≤ s.size) (k : Nat) (hk : k = s.size - 1) (h' : k < s.size) : endedB s.data.toList = (((s[k]'h').toNat : Int) == 10) := by
  subst hk
  have e : s.data.toList.getLast? = some (s[s.size - 1]'h') := by
    rw [List.getLast?_eq_getElem?]
    have hz : s.data.toList.length = s.size := (Lib.size_eq s).symm
    rw [hz, List.getElem?_eq_getElem (by omega)]
    rfl
  unfold endedB
  rw [e, Bool.eq_iff_iff]
  simp only [beq_iff_eq, Option.some.injEq]
  constructor
  · intro h; rw [h]; rfl
  · intro h; exact UInt8.toNat_inj.1 (by simpa using (by exact_mod_cast h : (s[s.size - 1]'h').toNat = 10))
end Go.Proofs.YtcpopnhnihbofaaGreatDoor
/- Proved here, without a word of the program: a byte held against a number. -/
namespace Go.Proofs.YtcpopnhnihbofaaGreatDoor
set_option linter.unusedVariables false

theorem byte_is {c : UInt8} {n : Nat} (hn : n < 256) : ((c.toNat : Int) == (n : Int)) = (c == UInt8.ofNat n) := by
  rw [Bool.eq_iff_iff, beq_iff_eq, beq_iff_eq]
  constructor
  · intro h
    have h' : c.toNat = n := by exact_mod_cast h
    exact UInt8.toNat_inj.1 (by rw [h', UInt8.toNat_ofNat']; omega)
  · intro h
    subst h
    rw [UInt8.toNat_ofNat']
    congr 1
    omega
theorem byte_at (s : ByteArray) (k : Nat) (h : k < s.size) : s.data.toList[k]? = some s[k] := by
  rw [List.getElem?_eq_getElem (by simpa using h)]
  rfl
end Go.Proofs.YtcpopnhnihbofaaGreatDoor
/- Proved here: the contract of the document's own answer May of layer 1 (for strings of at most maxLen bytes); for stages behind the first: NOT beside stage 1's Lines, Ref and Laws, which have the same names. -/
namespace Go.Proofs.YtcpopnhnihbofaaGreatDoor
open Go.RowKit
set_option linter.unusedVariables false

theorem take_byte (s : ByteArray) (k : Nat) (h : k < s.size) : s.data.toList.take (k + 1) = s.data.toList.take k ++ [s[k]] := by
  rw [List.take_succ_eq_append_getElem (by simpa using h)]; rfl
def nlN (l : List UInt8) : Nat := l.count 10
theorem nlN_le (l : List UInt8) (k : Nat) : nlN (l.take k) ≤ l.length := by
  unfold nlN
  have := List.count_le_length (a := (10 : UInt8)) (l := l.take k)
  have := List.length_take_le k l
  have := List.length_take_le' k l
  omega
theorem is10 (c : UInt8) : ((c.toNat : Int) == 10) = (c == 10) := byte_is (c := c) (n := 10) (by omega)
theorem nlN_hit (l : List UInt8) (c : UInt8) (h : ((c.toNat : Int) == 10) = true) : nlN (l ++ [c]) = nlN l + 1 := by
  rw [is10] at h
  unfold nlN
  rw [List.count_append, List.count_singleton, h]; rfl
theorem nlN_miss (l : List UInt8) (c : UInt8) (h : ((c.toNat : Int) == 10) = false) : nlN (l ++ [c]) = nlN l := by
  rw [is10] at h
  unfold nlN
  rw [List.count_append, List.count_singleton, h]; rfl

set_option maxHeartbeats 400000 in
theorem feeds_any (s : ByteArray) (w : World) (hs : s.size ≤ maxLen) :
    Calls Tryz.prog 89 #[.string s] w fun e w' => e = .returned (.int .i64 (nlN s.data.toList)) ∧ w = w' := by
  unfold maxLen at hs
  go_enter Tryz.func89, Tryz.ntmps89
  go_wp2
  go_loop [3, 4] (fun n i => ∃ k : Nat, k ≤ s.size ∧ i = .int .i64 k ∧ n = .int .i64 (nlN (s.data.toList.take k))) (fun _ i => s.size - (intOf i).toNat)
  case atStart => exact ⟨0, Nat.zero_le _, rfl, rfl⟩
  case round =>
    obtain ⟨k, hk, rfl, rfl⟩ := hrel
    have hl := nlN_le s.data.toList k
    rw [← Lib.size_eq] at hl
    by_cases hlt : k < s.size
    · have hts := Lib.hid (take_byte s k hlt)
      have hl3 : nlN (s.data.toList.take k) + 1 ≤ 9223372036854775807 := by
        have := List.count_le_length (a := (10 : UInt8)) (l := s.data.toList.take k)
        have := List.length_take_le k s.data.toList
        unfold nlN; omega
      go_wp2
      · have h : ((s[k].toNat : Int) == 10) = true := by assumption
        go_round
        case rel => exact ⟨k + 1, by omega, by go_num, by rw [hts.out, nlN_hit _ _ h]; go_num⟩
        case measure => simp [intOf]; omega
      · have h : ((s[k].toNat : Int) == 10) = false := by assumption
        go_round
        case rel => exact ⟨k + 1, by omega, by go_num, by rw [hts.out, nlN_miss _ _ h]⟩
        case measure => simp [intOf]; omega
    · go_wp2
      go_ret
      obtain rfl : k = s.size := by omega
      exact ⟨ret_int (by rw [Lib.size_eq, List.take_length]), rfl⟩

def lineB (l : List UInt8) : Bool := nlN l == 1 && endedB l
set_option maxHeartbeats 400000 in
theorem Line_any (s : ByteArray) (w : World) (hs : s.size ≤ maxLen) :
    Calls Tryz.prog 90 #[.string s] w fun e w' => e = .returned (.bool (lineB s.data.toList)) ∧ w = w' := by
  have hs' := hs
  unfold maxLen at hs
  obtain ⟨N, hN⟩ : ∃ N, N = nlN s.data.toList := ⟨_, rfl⟩
  have hN' := Lib.hid hN
  by_cases h1 : N = 1
  · have hpos : 1 ≤ s.size := by
      rw [Lib.size_eq]
      have := List.count_le_length (a := (10 : UInt8)) (l := s.data.toList)
      unfold nlN at hN
      omega
    have hb : (((N : Nat) : Int) == 1) = true := by rw [h1]; rfl
    have hlb := Lib.hid (last_byte s hpos _ rfl (by omega))
    have h1' := Lib.hid h1
    have hi : (s.size : Int) - 1 < s.size := by omega
    clear h1 hN
    go_enter Tryz.func90, Tryz.ntmps90
    go_wp2_with (go_at_call 89; refine (feeds_any s _ hs').mono ?_; rintro e w' ⟨rfl, rfl⟩; rw [show nlN s.data.toList = N from hN'.out.symm])
    go_ret
    exact ⟨ret_bool (by unfold lineB; rw [← hN'.out, h1'.out, hlb.out]; rfl), rfl⟩
  · have hb : (((N : Nat) : Int) == 1) = false := by simp; omega
    have h1' := Lib.hid h1
    clear h1 hN
    go_enter Tryz.func90, Tryz.ntmps90
    go_wp2_with (go_at_call 89; refine (feeds_any s _ hs').mono ?_; rintro e w' ⟨rfl, rfl⟩; rw [show nlN s.data.toList = N from hN'.out.symm])
    go_ret
    exact ⟨ret_bool (by unfold lineB; rw [← hN'.out]; simp [h1'.out]), rfl⟩

def rmay : List (List UInt8) → Bool
  | [] => true
  | s :: r => ((r.isEmpty && decide (0 < s.length) && nlN s == 0) || lineB s) && rmay r

section
variable {ss : List (List UInt8)} {k n : Nat} {t : List UInt8}
theorem rmay_no (hl : ss.length = n) (hm : rmay ss = rmay (ss.drop k)) (hd : ss.drop k = t :: ss.drop (k + 1)) (h2 : ¬ k + 1 = n) (h : (!lineB (str t).data.toList) = true) : false = rmay ss := by
  rw [str_data] at h
  have h' : lineB t = false := by simpa using h
  have hk : k < ss.length := by
    have := congrArg List.length hd
    simp at this; omega
  have hne : (ss.drop (k + 1)).isEmpty = false := by
    rw [Bool.eq_false_iff, ne_eq, List.isEmpty_iff]
    intro e
    have := congrArg List.length e
    rw [List.length_drop] at this
    simp at this
    omega
  rw [hm, hd, rmay, h', hne]
  simp
theorem rmay_last_nil (hl : ss.length = n) (h2 : k + 1 = n) : ss.drop (k + 1) = [] := List.drop_of_length_le (by omega)
theorem rmay_last (hl : ss.length = n) (hm : rmay ss = rmay (ss.drop k)) (hd : ss.drop k = t :: ss.drop (k + 1)) (h2 : k + 1 = n) : rmay ss = ((decide (0 < t.length) && nlN t == 0) || lineB t) := by
  rw [hm, hd, rmay_last_nil hl h2, rmay]
  simp [rmay]
theorem rmay_go (hm : rmay ss = rmay (ss.drop k)) (hd : ss.drop k = t :: ss.drop (k + 1)) (h : (!lineB (str t).data.toList) = false) : rmay ss = rmay (ss.drop (k + 1)) := by
  rw [str_data] at h
  have h' : lineB t = true := by simpa using h
  rw [hm, hd, rmay, h']
  simp
end

set_option maxHeartbeats 400000 in
theorem rMay_any (A : Option Addr) (n c B : Nat) (ss : List (List UInt8)) (w : World) (hn : n ≤ maxLen) (hs : ∀ s ∈ ss, s.length ≤ maxLen) (hA : Strs w B A n ss) :
    Calls Tryz.prog 64 #[.slice A n c] w fun e w' => e = .returned (.bool (rmay ss)) ∧ w = w' := by
  unfold maxLen at hn
  have hl := hA.len
  go_enter Tryz.func64, Tryz.ntmps64
  go_wp2
  go_loop [3] (fun i => ∃ k : Nat, k ≤ n ∧ i = .int .i64 k ∧ Hid (rmay ss = rmay (ss.drop k))) (fun i => n - (intOf i).toNat)
  case atStart => exact ⟨0, Nat.zero_le _, rfl, Lib.hid rfl⟩
  case round =>
    obtain ⟨k, hk, rfl, hm⟩ := hrel
    by_cases hlt : k < n
    · obtain ⟨b, o, t, rfl, _, ht, hc⟩ := hA.at_ (k := k) hlt
      have htl : t.length ≤ maxLen := hs t (List.mem_of_getElem? ht)
      have htl' : (str t).size ≤ maxLen := by rw [str_size]; exact htl
      unfold maxLen at htl
      have hd := Lib.hid (drop_at ht)
      by_cases hlast : k + 1 = n
      · have hb : ((k : Int) == (n : Int) - 1) = true := by simp; omega
        have hlast' := Lib.hid hlast
        clear hlast
        go_wp2_with (first
          | (go_at_call 89; refine (feeds_any (str t) _ htl').mono ?_; rintro e w' ⟨rfl, rfl⟩)
          | (go_at_call 90; refine (Line_any (str t) _ htl').mono ?_; rintro e w' ⟨rfl, rfl⟩))
        · have h1 : 0 < (str t).size := by assumption
          have h2 : nlN (str t).data.toList = 0 := by assumption
          go_round
          case rel => exact ⟨k + 1, by have := hlast'.out; omega, by go_num, Lib.hid (by rw [rmay_last hl hm.out hd.out hlast'.out, (rmay_last_nil hl hlast'.out)]; rw [str_data] at h2; rw [str_size] at h1; simp [h2, h1, rmay])⟩
          case measure => have := hlast'.out; simp [intOf]; omega
        · have h1 : ¬ nlN (str t).data.toList = 0 := by assumption
          have h2 : (!((nlN (str t).data.toList : Int)) == 0) = true ∧ (!lineB (str t).data.toList) = true := by assumption
          go_ret
          exact ⟨ret_bool (by rw [rmay_last hl hm.out hd.out hlast'.out]; rw [str_data] at h1 h2; simp at h2; simp [h1, h2.2]), rfl⟩
        · have h1 : ¬ nlN (str t).data.toList = 0 := by assumption
          have h2 : (!((nlN (str t).data.toList : Int)) == 0) = false ∨ (!lineB (str t).data.toList) = false := by assumption
          go_round
          case rel => exact ⟨k + 1, by have := hlast'.out; omega, by go_num, Lib.hid (rmay_go hm.out hd.out (by rcases h2 with h2 | h2; { exfalso; apply h1; simpa using h2 }; exact h2))⟩
          case measure => have := hlast'.out; simp [intOf]; omega
        · have h1 : ¬ 0 < (str t).size := by assumption
          have h2 : (!lineB (str t).data.toList) = true := by assumption
          go_ret
          exact ⟨ret_bool (by rw [rmay_last hl hm.out hd.out hlast'.out]; rw [str_data] at h2; rw [str_size] at h1; simp at h2; simp [h1, h2]), rfl⟩
        · have h2 : (!lineB (str t).data.toList) = false := by assumption
          go_round
          case rel => exact ⟨k + 1, by have := hlast'.out; omega, by go_num, Lib.hid (rmay_go hm.out hd.out h2)⟩
          case measure => have := hlast'.out; simp [intOf]; omega
      · have hb : ((k : Int) == (n : Int) - 1) = false := by simp; omega
        have hlast' := Lib.hid hlast
        clear hlast
        go_wp2_with (go_at_call 90; refine (Line_any (str t) _ htl').mono ?_; rintro e w' ⟨rfl, rfl⟩)
        · have h : (!lineB (str t).data.toList) = true := by assumption
          go_ret
          exact ⟨ret_bool (rmay_no hl hm.out hd.out hlast'.out h), rfl⟩
        · have h : (!lineB (str t).data.toList) = false := by assumption
          go_round
          case rel => exact ⟨k + 1, by omega, by go_num, Lib.hid (rmay_go hm.out hd.out h)⟩
          case measure => simp [intOf]; omega
    · go_wp2
      go_ret
      have : k = n := by omega
      subst this
      exact ⟨ret_bool (by rw [hm.out, List.drop_of_length_le (by omega)]; rfl), rfl⟩

theorem fe_all (s : List UInt8) (h : s ≠ []) : fe s = s.length ↔ (nlN s = 0 ∨ (nlN s = 1 ∧ s.getLast? = some 10)) := by
  induction s with
  | nil => exact absurd rfl h
  | cons c r ih =>
    by_cases hc : c = 10
    · subst hc
      have hf : fe (10 :: r) = 1 := by simp [fe]
      have hn : nlN (10 :: r) = nlN r + 1 := by simp [nlN]
      rw [hf, hn]
      cases r with
      | nil => simp [nlN]
      | cons d t =>
        constructor
        · intro h; simp at h
        · rintro (h | ⟨h1, h2⟩)
          · omega
          · exfalso
            rw [List.getLast?_cons_cons] at h2
            have : (10 : UInt8) ∈ d :: t := List.mem_of_getLast? h2
            have := List.count_pos_iff.2 this
            unfold nlN at h1
            omega
    · have hf : fe (c :: r) = fe r + 1 := by simp [fe, hc]
      have hn : nlN (c :: r) = nlN r := by simp [nlN, hc]
      rw [hf, hn]
      cases r with
      | nil => simp [fe, nlN]
      | cons d t =>
        rw [List.getLast?_cons_cons, ← ih (by simp)]
        simp

theorem may_eq (ss : List (List UInt8)) : mayB ss = rmay ss := by
  induction ss with
  | nil => rfl
  | cons s r ih =>
    rw [mayB, rmay, ih]
    congr 1
    cases s with
    | nil => simp [lineB, nlN]
    | cons c t =>
      have hk := fe_all (c :: t) (by simp)
      have hle := fe_le (c :: t)
      have hd : (!decide (fe (c :: t) < (c :: t).length)) = decide (fe (c :: t) = (c :: t).length) := by
        rw [Bool.eq_iff_iff]; simp only [Bool.not_eq_true', decide_eq_false_iff_not, decide_eq_true_iff]; omega
      rw [hd]
      rw [Bool.eq_iff_iff]
      simp only [lineB, endedB, Bool.and_eq_true, Bool.or_eq_true, decide_eq_true_iff, beq_iff_eq, hk]
      by_cases h0 : nlN (c :: t) = 0
      · have hno : ¬ (c :: t).getLast? = some 10 := by
          intro h
          have := List.count_pos_iff.2 (List.mem_of_getLast? h)
          unfold nlN at h0
          omega
        simp [h0, hno]
      · simp [h0]
        exact fun _ h => .inr h

/-- May, by the plain word. -/
theorem rMayB_any (A : Option Addr) (n c B : Nat) (ss : List (List UInt8)) (w : World) (hn : n ≤ maxLen) (hs : ∀ s ∈ ss, s.length ≤ maxLen) (hA : Strs w B A n ss) :
    Calls Tryz.prog 64 #[.slice A n c] w fun e w' => e = .returned (.bool (mayB ss)) ∧ w = w' := by
  rw [may_eq]
  exact rMay_any A n c B ss w hn hs hA
end Go.Proofs.YtcpopnhnihbofaaGreatDoor
/- Proved here: the contract of the document's own answer Open of layer 1 (for strings of at most maxLen bytes); for stages behind the first: NOT beside stage 1's Lines and Ref, which have the same names. -/
namespace Go.Proofs.YtcpopnhnihbofaaGreatDoor
open Go.RowKit
set_option linter.unusedVariables false

set_option maxHeartbeats 400000 in
theorem rOpen_any (A : Option Addr) (n c B : Nat) (ss : List (List UInt8)) (w : World) (hn : n ≤ maxLen) (hs : ∀ s ∈ ss, s.length ≤ maxLen) (hA : Strs w B A n ss) :
    Calls Tryz.prog 65 #[.slice A n c] w fun e w' => e = .returned (.bool (openB ss)) ∧ w = w' := by
  unfold maxLen at hn
  have hl := hA.len
  by_cases h0 : n = 0
  · subst h0
    go_enter Tryz.func65, Tryz.ntmps65
    go_wp2
    go_ret
    obtain rfl : ss = [] := List.eq_nil_of_length_eq_zero hl
    exact ⟨rfl, rfl⟩
  · obtain ⟨b, o, t, rfl, _, ht, hc⟩ := hA.at_ (k := n - 1) (by omega)
    have htl : t.length ≤ maxLen := hs t (List.mem_of_getElem? ht)
    unfold maxLen at htl
    have hres : Hid ((!endedB t) = openB ss) := Lib.hid <| by
      unfold openB; rw [List.getLast?_eq_getElem?, hl, ht]
    have h1 : (1 : Int) ≤ n := by omega
    have hd : (((n : Int)) == 0) = false := by simp; omega
    by_cases hz : (str t).size = 0
    · have hzz : ((((str t).size : Nat) : Int) == 0) = true := by rw [hz]; rfl
      have hz' := Lib.hid hz
      clear hz
      go_enter Tryz.func65, Tryz.ntmps65
      go_wp2
      go_ret
      refine ⟨ret_bool ?_, rfl⟩
      rw [← hres.out]
      have := hz'.out
      rw [str_size] at this
      rw [List.eq_nil_of_length_eq_zero this]; rfl
    · have hzz : ((((str t).size : Nat) : Int) == 0) = false := by rw [beq_eq_false_iff_ne]; omega
      have hp : 1 ≤ (str t).size := by omega
      have hsl : (str t).size ≤ 9223372036854775807 := by rw [str_size]; omega
      have hlb := Lib.hid (last_byte (str t) hp _ rfl (by omega))
      go_enter Tryz.func65, Tryz.ntmps65
      go_wp2
      go_ret
      refine ⟨ret_bool ?_, rfl⟩
      have h2 := hlb.out
      rw [str_data] at h2
      rw [← hres.out, h2]
      rfl
end Go.Proofs.YtcpopnhnihbofaaGreatDoor
/- Proved here, without conditions on the program: few texts. -/
namespace Go.Proofs.YtcpopnhnihbofaaGreatDoor
open Go.RowKit
set_option linter.unusedVariables false

/-- A base, and 6 parts, of 20 texts of 100 bytes, at most. -/
def fewT (base : Txs) (parts : List Txs) : Bool := fewB base 20 && decide (parts.length ≤ 6) && (parts.take 7).all fun f => fewB f 20
theorem fewB_len {ss : Txs} {m : Nat} (h : fewB ss m = true) : ss.length ≤ m := by
  unfold fewB at h
  simp at h
  exact h.1
theorem fewT_parts {base : Txs} {parts : List Txs} (h : fewT base parts = true) : base.length ≤ 20 ∧ parts.length ≤ 6 ∧ ∀ f ∈ parts, f.length ≤ 20 := by
  unfold fewT at h
  rw [Bool.and_eq_true, Bool.and_eq_true, decide_eq_true_eq] at h
  obtain ⟨⟨h1, h2⟩, h3⟩ := h
  refine ⟨fewB_len h1, h2, fun f hf => ?_⟩
  rw [List.take_of_length_le (by omega), List.all_eq_true] at h3
  exact fewB_len (h3 f hf)
theorem fewB_txs {ss : Txs} {m : Nat} (h : fewB ss m = true) : ∀ s ∈ ss, s.length ≤ 100 := by
  have hl := fewB_len h
  unfold fewB at h
  rw [Bool.and_eq_true, List.all_eq_true] at h
  intro s hs
  have := h.2 s (by rw [List.take_of_length_le (by omega)]; exact hs)
  simpa using this
theorem fewT_txs {base : Txs} {parts : List Txs} (h : fewT base parts = true) : (∀ s ∈ base, s.length ≤ 100) ∧ ∀ f ∈ parts, ∀ s ∈ f, s.length ≤ 100 := by
  unfold fewT at h
  rw [Bool.and_eq_true, Bool.and_eq_true, decide_eq_true_eq] at h
  obtain ⟨⟨h1, h2⟩, h3⟩ := h
  refine ⟨fewB_txs h1, fun f hf => ?_⟩
  rw [List.take_of_length_le (by omega), List.all_eq_true] at h3
  exact fewB_txs (h3 f hf)
theorem fewT_step {files : List Txs} {k : Nat} {f : Txs} (hq : (files.take k).all (fun f => fewB f 20) = true) (ht : files[k]? = some f) (h : fewB f 20 = true) : (files.take (k + 1)).all (fun f => fewB f 20) = true := by
  rw [take_at ht, List.all_append, hq]
  simp [h]
theorem fewT_no {base : Txs} {files : List Txs} {k : Nat} {f : Txs} (hk : k < 7) (ht : files[k]? = some f) (h : fewB f 20 = false) : false = fewT base files := by
  unfold fewT
  have hm : f ∈ files.take 7 := List.mem_of_getElem? (i := k) (by rw [List.getElem?_take]; rw [if_pos hk]; exact ht)
  rw [eq_comm, Bool.and_eq_false_iff]
  right
  rw [Bool.eq_false_iff, ne_eq, List.all_eq_true]
  intro ha
  rw [ha f hm] at h
  cases h
theorem fewT_end {base : Txs} {files : List Txs} {k n : Nat} (hl : files.length = n) (h : k = n ∨ 7 ≤ k ∧ k < n) (hq : (files.take k).all (fun f => fewB f 20) = true) : (fewB base 20 && decide (n ≤ 6)) = fewT base files := by
  unfold fewT
  rw [hl]
  by_cases hm : n ≤ 6
  · have : k = n := by omega
    subst this
    rw [List.take_of_length_le (by omega)] at hq
    rw [List.take_of_length_le (by omega), hq]
    simp
  · simp [hm]

end Go.Proofs.YtcpopnhnihbofaaGreatDoor
