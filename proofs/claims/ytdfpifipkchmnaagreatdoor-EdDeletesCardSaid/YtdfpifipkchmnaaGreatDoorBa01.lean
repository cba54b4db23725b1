/- Proved here: texts joined: Words, Frame. -/
import Derived.WalkKit
import Derived.WalkSpells
import Derived.WalkSmall
import Derived.Below
import Derived.Laws.Strings
import Derived.Lib.Strings
import Derived.Laws.BytesArg
import Derived.Laws.IdiomStrings
import Derived.Laws.OwnMore
import Derived.Deep.AppendLies
import Derived.Deep.Draws
import Derived.Test.YtdfpifipkchmnaaGreatDoorRows
import Derived.ProofKit
import Derived.OpenShut
import Derived.ShutString
import Derived.ChangeOld
/- Proved here, without conditions: when a slice of strings, or of bytes, reads as a list in a world, and what keeps it so. -/
namespace Go.Proofs.YtdfpifipkchmnaaGreatDoor
open Go.RowKit
set_option linter.unusedVariables false

/-- A list of bytes as a string. -/
def str (l : List UInt8) : ByteArray := ⟨l.toArray⟩
theorem str_size (l : List UInt8) : (str l).size = l.length := by simp [str, ByteArray.size]
theorem str_data (l : List UInt8) : (str l).data.toList = l := by simp [str]

theorem ret_bool {a b : Bool} (h : a = b) : Ending.returned (.bool a) = .returned (.bool b) := by rw [h]
theorem ret_int {k : IntKind} {a b : Int} (h : a = b) : Ending.returned (.int k a) = .returned (.int k b) := by rw [h]
theorem ret_string {a b : ByteArray} (h : a = b) : Ending.returned (.string a) = .returned (.string b) := by rw [h]
theorem size_pos {s : ByteArray} (h : s.toList ≠ []) : 1 ≤ s.size := by
  rw [ByteArray.toList_eq] at h
  have := List.length_pos_iff.2 h
  rw [Array.length_toList] at this
  exact this
theorem data_nil {s : ByteArray} (h : s.toList = []) : s.data.toList = [] := by rw [← ByteArray.toList_eq]; exact h

/-- The slice value '.slice A n c' holds the cells xs, below block B. -/
def Reads (w : World) (B : Nat) (A : Option Addr) (n : Nat) (xs : List Value) : Prop :=
  xs.length = n ∧ (0 < n → ∃ b o : Nat, A = some ⟨b, o, none⟩ ∧ b < B ∧ ∀ j u, xs[j]? = some u → w.cell? ⟨b, o + j, none⟩ = some u)

section
variable {w w' : World} {B B' n : Nat} {A : Option Addr} {xs : List Value}
theorem Reads.at_ {k : Nat} (h : Reads w B A n xs) (hk : k < n) : ∃ b o u, A = some ⟨b, o, none⟩ ∧ b < B ∧ xs[k]? = some u ∧ w.cell? ⟨b, o + k, none⟩ = some u := by
  obtain ⟨b, o, e, hb, hc⟩ := h.2 (by omega)
  have hl : k < xs.length := by have := h.1; omega
  exact ⟨b, o, xs[k], e, hb, List.getElem?_eq_getElem hl, hc k _ (List.getElem?_eq_getElem hl)⟩
theorem Reads.keep (h : Reads w B A n xs) (hk : ∀ p : Addr, p.block < B → w'.cell? p = w.cell? p) : Reads w' B A n xs :=
  ⟨h.1, fun hn => by
    obtain ⟨b, o, e, hb, hc⟩ := h.2 hn
    exact ⟨b, o, e, hb, fun j u hu => (hk _ hb).trans (hc j u hu)⟩⟩
theorem Reads.more (h : Reads w B A n xs) (hB : B ≤ B') : Reads w B' A n xs :=
  ⟨h.1, fun hn => by
    obtain ⟨b, o, e, hb, hc⟩ := h.2 hn
    exact ⟨b, o, e, by omega, hc⟩⟩
theorem Reads.below (h : Reads w B A n xs) (hb : Below B w w') : Reads w' B A n xs := h.keep fun _ hp => hb.cell hp
theorem Reads.of_own {base : Nat} {e : TypeId} {c : Nat} (h : w.ownsRow base e 1 (.slice A n c) n xs) : Reads w w.heap.size A n xs := by
  refine ⟨by simpa using h.1, fun hn => ?_⟩
  obtain ⟨g, cap, hv, _, hlt⟩ := h.form hn
  have hA : A = some ⟨g, 0, none⟩ := by injection hv
  subst hA
  refine ⟨g, 0, rfl, hlt, fun j u hu => ?_⟩
  have := h.cells (g := g) rfl j u hu
  rw [show (⟨g, 0 + j, none⟩ : Addr) = (⟨g, 0, none⟩ : Addr).add j from by unfold Addr.add; split <;> simp_all]
  exact this
end

/-- A slice of strings that reads as ss. -/
def Strs (w : World) (B : Nat) (A : Option Addr) (n : Nat) (ss : List (List UInt8)) : Prop := Reads w B A n (ss.map fun s => .string (str s))
theorem Strs.len {w : World} {B n : Nat} {A : Option Addr} {ss : List (List UInt8)} (h : Strs w B A n ss) : ss.length = n := by have := h.1; simpa using this
theorem Strs.at_ {w : World} {B n : Nat} {A : Option Addr} {ss : List (List UInt8)} {k : Nat} (h : Strs w B A n ss) (hk : k < n) :
    ∃ b o t, A = some ⟨b, o, none⟩ ∧ b < B ∧ ss[k]? = some t ∧ w.cell? ⟨b, o + k, none⟩ = some (.string (str t)) := by
  obtain ⟨b, o, u, e, hb, hu, hc⟩ := Reads.at_ h hk
  rw [List.getElem?_map] at hu
  cases h : ss[k]? with
  | none => rw [h] at hu; cases hu
  | some t => rw [h] at hu; exact ⟨b, o, t, e, hb, rfl, by rw [hc]; simpa using hu.symm⟩
/-- A slice of bytes that reads as bs. -/
def Byts (w : World) (B : Nat) (A : Option Addr) (n : Nat) (bs : List UInt8) : Prop := Reads w B A n (bs.map fun b => .int .u8 b.toNat)

/-- A slice of slices of strings: the row of the slice values 'rows', each of which reads as its list. -/
def Rows2 (w : World) (B : Nat) (A : Option Addr) (n : Nat) (rows : List (Option Addr × Nat × Nat)) (sss : List (List (List UInt8))) : Prop :=
  Reads w B A n (rows.map fun r => .slice r.1 r.2.1 r.2.2) ∧ rows.length = sss.length ∧ ∀ (k : Nat) (r : Option Addr × Nat × Nat) (ss : List (List UInt8)), rows[k]? = some r → sss[k]? = some ss → Strs w B r.1 r.2.1 ss
theorem Rows2.at_ {w : World} {B n k : Nat} {A : Option Addr} {rows : List (Option Addr × Nat × Nat)} {sss : List (List (List UInt8))} (h : Rows2 w B A n rows sss) (hk : k < n) :
    ∃ b o A' n' c' ss, A = some ⟨b, o, none⟩ ∧ b < B ∧ sss[k]? = some ss ∧ w.cell? ⟨b, o + k, none⟩ = some (.slice A' n' c') ∧ Strs w B A' n' ss := by
  obtain ⟨b, o, u, e, hb, hu, hc⟩ := Reads.at_ h.1 hk
  rw [List.getElem?_map] at hu
  cases hr : rows[k]? with
  | none => rw [hr] at hu; cases hu
  | some r =>
    rw [hr] at hu
    have hlt : k < sss.length := by have := (List.getElem?_eq_some_iff.1 hr).1; have := h.2.1; omega
    exact ⟨b, o, r.1, r.2.1, r.2.2, sss[k], e, hb, List.getElem?_eq_getElem hlt, by rw [hc]; simpa using hu.symm, h.2.2 k r _ hr (List.getElem?_eq_getElem hlt)⟩
theorem Rows2.below {w w' : World} {B n : Nat} {A : Option Addr} {rows : List (Option Addr × Nat × Nat)} {sss : List (List (List UInt8))} (h : Rows2 w B A n rows sss) (hb : Below B w w') : Rows2 w' B A n rows sss :=
  ⟨h.1.below hb, h.2.1, fun k r ss h1 h2 => Reads.below (h.2.2 k r ss h1 h2) hb⟩
theorem Strs.below {w w' : World} {B n : Nat} {A : Option Addr} {ss : List (List UInt8)} (h : Strs w B A n ss) (hb : Below B w w') : Strs w' B A n ss := Reads.below h hb
theorem Byts.below {w w' : World} {B n : Nat} {A : Option Addr} {ss : List UInt8} (h : Byts w B A n ss) (hb : Below B w w') : Byts w' B A n ss := Reads.below h hb
theorem Strs.drew {w : World} {B n : Nat} {A : Option Addr} {ss : List (List UInt8)} (h : Strs w B A n ss) : Strs w.drew B A n ss := Reads.keep h fun _ _ => rfl
theorem Rows2.drew {w : World} {B n : Nat} {A : Option Addr} {rows : List (Option Addr × Nat × Nat)} {sss : List (List (List UInt8))} (h : Rows2 w B A n rows sss) : Rows2 w.drew B A n rows sss :=
  ⟨Reads.keep h.1 fun _ _ => rfl, h.2.1, fun k r ss h1 h2 => Reads.keep (h.2.2 k r ss h1 h2) fun _ _ => rfl⟩
theorem Byts.drew {w : World} {B n : Nat} {A : Option Addr} {ss : List UInt8} (h : Byts w B A n ss) : Byts w.drew B A n ss := Reads.keep h fun _ _ => rfl
theorem Strs.drewN {w : World} {B n : Nat} {A : Option Addr} {ss : List (List UInt8)} (h : Strs w B A n ss) (k : Nat) : Strs (w.drewN k) B A n ss := Reads.keep h fun _ _ => rfl
theorem Byts.drewN {w : World} {B n : Nat} {A : Option Addr} {ss : List UInt8} (h : Byts w B A n ss) (k : Nat) : Byts (w.drewN k) B A n ss := Reads.keep h fun _ _ => rfl
theorem Strs.more {w : World} {B B' n : Nat} {A : Option Addr} {ss : List (List UInt8)} (h : Strs w B A n ss) (hb : B ≤ B') : Strs w B' A n ss := Reads.more h hb
theorem Byts.more {w : World} {B B' n : Nat} {A : Option Addr} {ss : List UInt8} (h : Byts w B A n ss) (hb : B ≤ B') : Byts w B' A n ss := Reads.more h hb
/-- The cells of bytes. -/
def bcs (l : List UInt8) : List Value := l.map fun b => .int .u8 b.toNat

theorem Byts.len {w : World} {B n : Nat} {A : Option Addr} {bs : List UInt8} (h : Byts w B A n bs) : bs.length = n := by have := h.1; simpa using this
theorem Byts.cells {w : World} {B n b o : Nat} {bs : List UInt8} (h : Byts w B (some ⟨b, o, none⟩) n bs) : ∀ j (hj : j < bs.length), w.cell? ⟨b, o + j, none⟩ = some (.int .u8 (bs[j].toNat : Int)) := by
  intro j hj
  obtain ⟨b', o', e, _, hc⟩ := h.2 (by have := h.len; omega)
  injection e with e; injection e with e1 e2; subst e1; subst e2
  exact hc j _ (by simp [hj])

theorem Byts.cut {w : World} {B n b o : Nat} {bs : List UInt8} (h : Byts w B (some ⟨b, o, none⟩) n bs) {a m : Nat} (ham : a + m ≤ n) : Byts w B (some ⟨b, o + a, none⟩) m ((bs.drop a).take m) := by
  have hl := h.len
  refine ⟨by simp; omega, fun hm => ?_⟩
  obtain ⟨b', o', e, hb, hc⟩ := h.2 (by omega)
  injection e with e; injection e with e1 e2; subst e1; subst e2
  refine ⟨b, o + a, rfl, hb, fun j u hu => ?_⟩
  rw [Nat.add_assoc]
  refine hc (a + j) u ?_
  rw [← hu, List.getElem?_map, List.getElem?_map, List.getElem?_take]
  have hj : j < m := by
    have := (List.getElem?_eq_some_iff.1 hu).1
    simp at this; omega
  rw [if_pos hj, List.getElem?_drop]

/-- 'string(b)' of bytes that read as bs. -/
theorem conv_bytes {P : Program} {w : World} {B n : Nat} {A : Option Addr} {bs : List UInt8} (h : Byts w B A n bs) {src dst e : TypeId} (c : Nat) (hs : P.underlying src = some (.slice e)) (he : P.underlying e = some (.int .u8)) (hd : P.underlying dst = some .string) :
    (convert src dst (.slice A n c)).run P w = .ok (.string (str bs)) w := by
  have hl := h.len
  cases A with
  | none =>
    have hn : n = 0 := by
      rcases Nat.eq_zero_or_pos n with h0 | h0
      · exact h0
      · obtain ⟨_, _, e, _⟩ := h.2 h0; cases e
    subst hn
    obtain rfl : bs = [] := List.eq_nil_of_length_eq_zero hl
    rw [run_convert_bytes_nil w src e hs he 0 c dst hd]; rfl
  | some a =>
    subst hl
    refine run_convert_bytes_back w src dst e a c bs hs he hd fun j hj => ?_
    obtain ⟨b, o, e, _, hc⟩ := h.2 (by omega)
    injection e with e
    subst e
    rw [show (⟨b, o, none⟩ : Addr).add j = ⟨b, o + j, none⟩ from by unfold Addr.add; split <;> simp_all]
    exact hc j _ (by simp [hj])

end Go.Proofs.YtdfpifipkchmnaaGreatDoor
/- Proved here: what comes in as a slice of strings, or of bytes, reads as a list. -/
namespace Go.Proofs.YtdfpifipkchmnaaGreatDoor
open Go.ChangeShapes Go.WideShapes Go.ChangeAt Go.RowKit
open Go.ChangeMaps (open_string shut_string)
set_option linter.unusedVariables false

theorem Tryz.own : ownKnob Tryz.prog.godebug = none := by kernel_rfl
theorem Tryz.laidOut : laidOutB Tryz.prog = true := by kernel_rfl

/-- A slice of strings that came in. -/
def ArgStrs (w : World) (A : Option Addr) (n c : Nat) (ss : List (List UInt8)) : Prop := n ≤ c ∧ c ≤ maxLen ∧ (∀ s ∈ ss, s.length ≤ maxLen) ∧ Strs w w.heap.size A n ss
/-- A slice of bytes that came in. -/
def ArgByts (w : World) (A : Option Addr) (n c : Nat) (bs : List UInt8) : Prop := n ≤ c ∧ c ≤ maxLen ∧ Byts w w.heap.size A n bs

theorem str_of (s : ByteArray) : str s.data.toList = s := by cases s; simp [str]

theorem argStrs {H : Type} {enc : TypeId × Value → H} {P : Program} {W : World} {base : Nat} {spare : Nat → Bool} {held : Bool} {t e : TypeId} {fuel : Nat} {A : Option Addr} {n c : Nat} {x : DataW H × List MemPlace}
    (ht : P.underlying t = some (.slice e)) (he : P.underlying e = some .string) (hc : P.cellsOf e = 1) (h : DataW.trod enc P W base spare held fuel t [.slice A n c] = some x) : ∃ ss, ArgStrs W A n c ss := by
  rcases open_strings ht he hc h with ⟨hcs, _⟩ | ⟨a, len, cap, ss, hcs, _, hl, hm, hz, _, hcell, hws⟩
  · simp at hcs
    obtain ⟨rfl, rfl, rfl⟩ := hcs
    exact ⟨[], Nat.le_refl _, Nat.zero_le _, by simp, rfl, fun h => absurd h (by omega)⟩
  · simp at hcs
    obtain ⟨rfl, rfl, rfl⟩ := hcs
    have hlen : n ≤ ss.length := by rw [hz]; split <;> omega
    refine ⟨(ss.take n).map fun s => s.data.toList, hl, hm, ?_, ?_, fun hn => ?_⟩
    · intro s hs
      obtain ⟨s', hs', rfl⟩ := List.mem_map.1 hs
      have := hws s' (List.mem_of_mem_take hs')
      rw [Lib.size_eq] at this
      exact this
    · simp; omega
    · obtain ⟨b, off, spot⟩ := a
      have h0 := hcell 0 (by omega)
      have hspot : spot = none := by simpa [Addr.add] using World.cell?_spot h0
      subst hspot
      refine ⟨b, off, rfl, by simpa [Addr.add] using World.block_lt_of_cell? _ _ h0, fun j u hu => ?_⟩
      have hj : j < n := by
        have := (List.getElem?_eq_some_iff.1 hu).1
        simp at this; omega
      have hcj := hcell j (by omega)
      rw [show (⟨b, off, none⟩ : Addr).add j = ⟨b, off + j, none⟩ from by unfold Addr.add; split <;> simp_all] at hcj
      rw [hcj, ← hu]
      simp [hj, show j < ss.length from by omega, str_of]

theorem argByts {H : Type} {enc : TypeId × Value → H} {P : Program} {W : World} {base : Nat} {spare : Nat → Bool} {held : Bool} {t e : TypeId} {fuel : Nat} {A : Option Addr} {n c : Nat} {x : DataW H × List MemPlace}
    (ht : P.underlying t = some (.slice e)) (he : P.underlying e = some (.int .u8)) (hc : P.cellsOf e = 1) (h : DataW.trod enc P W base spare held fuel t [.slice A n c] = some x) : ∃ bs, ArgByts W A n c bs := by
  rcases open_ints ht he hc h with ⟨hcs, _⟩ | ⟨a, len, cap, zs, hcs, _, hl, hm, hz, _, hcell, hwz⟩
  · simp at hcs
    obtain ⟨rfl, rfl, rfl⟩ := hcs
    exact ⟨[], Nat.le_refl _, Nat.zero_le _, rfl, fun h => absurd h (by omega)⟩
  · simp at hcs
    obtain ⟨rfl, rfl, rfl⟩ := hcs
    have hlen : n ≤ zs.length := by rw [hz]; split <;> omega
    refine ⟨(zs.take n).map fun z => UInt8.ofNat z.toNat, hl, hm, ?_, fun hn => ?_⟩
    · simp; omega
    · obtain ⟨b, off, spot⟩ := a
      have h0 := hcell 0 (by omega)
      have hspot : spot = none := by simpa [Addr.add] using World.cell?_spot h0
      subst hspot
      refine ⟨b, off, rfl, by simpa [Addr.add] using World.block_lt_of_cell? _ _ h0, fun j u hu => ?_⟩
      have hj : j < n := by
        have := (List.getElem?_eq_some_iff.1 hu).1
        simp at this; omega
      have hcj := hcell j (by omega)
      rw [show (⟨b, off, none⟩ : Addr).add j = ⟨b, off + j, none⟩ from by unfold Addr.add; split <;> simp_all] at hcj
      have hjz : j < zs.length := by omega
      have hw := hwz zs[j] (List.getElem_mem hjz)
      have hb : 0 ≤ zs[j] ∧ zs[j] ≤ 255 := by
        have := bounds_u8 hw
        omega
      rw [hcj, ← hu]
      simp [hj, hjz]
      omega
end Go.Proofs.YtdfpifipkchmnaaGreatDoor
