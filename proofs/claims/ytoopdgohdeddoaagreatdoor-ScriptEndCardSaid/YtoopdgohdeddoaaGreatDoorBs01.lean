/- Proved here: texts joined: Words, Frame, FrameV, More, Append. -/
import Derived.WalkKit
import Derived.WalkSpells
import Derived.WalkSmall
import Derived.Below
import Derived.Laws.Strings
import Derived.Lib.Strings
import Derived.Laws.BytesArg
import Derived.Laws.IdiomStrings
import Derived.Laws.OwnMore
import Derived.Deep.AppendLies
import Derived.Deep.Draws
import Derived.Test.YtoopdgohdeddoaaGreatDoorRows
import Derived.ProofKit
import Derived.OpenShut
import Derived.ShutString
import Derived.ChangeOld
import Derived.Deep.Slices
import Derived.Deep.OwnRows
import Derived.Maps.AppendAt
import Derived.OwnWalk
import Derived.IntWalk
import Derived.Lib.Hide
import Derived.RegionTactic
/- Proved here, without conditions: when a slice of strings, or of bytes, reads as a list in a world, and what keeps it so. -/
namespace Go.Proofs.YtoopdgohdeddoaaGreatDoor
open Go.RowKit
set_option linter.unusedVariables false

/-- A list of bytes as a string. -/
def str (l : List UInt8) : ByteArray := ⟨l.toArray⟩
theorem str_size (l : List UInt8) : (str l).size = l.length := by simp [str, ByteArray.size]
theorem str_data (l : List UInt8) : (str l).data.toList = l := by simp [str]

theorem ret_bool {a b : Bool} (h : a = b) : Ending.returned (.bool a) = .returned (.bool b) := by rw [h]
theorem ret_int {k : IntKind} {a b : Int} (h : a = b) : Ending.returned (.int k a) = .returned (.int k b) := by rw [h]
theorem ret_string {a b : ByteArray} (h : a = b) : Ending.returned (.string a) = .returned (.string b) := by rw [h]
theorem size_pos {s : ByteArray} (h : s.toList ≠ []) : 1 ≤ s.size := by
  rw [ByteArray.toList_eq] at h
  have := List.length_pos_iff.2 h
  rw [Array.length_toList] at this
  exact this
theorem data_nil {s : ByteArray} (h : s.toList = []) : s.data.toList = [] := by rw [← ByteArray.toList_eq]; exact h

/-- The slice value '.slice A n c' holds the cells xs, below block B. -/
def Reads (w : World) (B : Nat) (A : Option Addr) (n : Nat) (xs : List Value) : Prop :=
  xs.length = n ∧ (0 < n → ∃ b o : Nat, A = some ⟨b, o, none⟩ ∧ b < B ∧ ∀ j u, xs[j]? = some u → w.cell? ⟨b, o + j, none⟩ = some u)

section
variable {w w' : World} {B B' n : Nat} {A : Option Addr} {xs : List Value}
theorem Reads.at_ {k : Nat} (h : Reads w B A n xs) (hk : k < n) : ∃ b o u, A = some ⟨b, o, none⟩ ∧ b < B ∧ xs[k]? = some u ∧ w.cell? ⟨b, o + k, none⟩ = some u := by
  obtain ⟨b, o, e, hb, hc⟩ := h.2 (by omega)
  have hl : k < xs.length := by have := h.1; omega
  exact ⟨b, o, xs[k], e, hb, List.getElem?_eq_getElem hl, hc k _ (List.getElem?_eq_getElem hl)⟩
theorem Reads.keep (h : Reads w B A n xs) (hk : ∀ p : Addr, p.block < B → w'.cell? p = w.cell? p) : Reads w' B A n xs :=
  ⟨h.1, fun hn => by
    obtain ⟨b, o, e, hb, hc⟩ := h.2 hn
    exact ⟨b, o, e, hb, fun j u hu => (hk _ hb).trans (hc j u hu)⟩⟩
theorem Reads.more (h : Reads w B A n xs) (hB : B ≤ B') : Reads w B' A n xs :=
  ⟨h.1, fun hn => by
    obtain ⟨b, o, e, hb, hc⟩ := h.2 hn
    exact ⟨b, o, e, by omega, hc⟩⟩
theorem Reads.below (h : Reads w B A n xs) (hb : Below B w w') : Reads w' B A n xs := h.keep fun _ hp => hb.cell hp
theorem Reads.of_own {base : Nat} {e : TypeId} {c : Nat} (h : w.ownsRow base e 1 (.slice A n c) n xs) : Reads w w.heap.size A n xs := by
  refine ⟨by simpa using h.1, fun hn => ?_⟩
  obtain ⟨g, cap, hv, _, hlt⟩ := h.form hn
  have hA : A = some ⟨g, 0, none⟩ := by injection hv
  subst hA
  refine ⟨g, 0, rfl, hlt, fun j u hu => ?_⟩
  have := h.cells (g := g) rfl j u hu
  rw [show (⟨g, 0 + j, none⟩ : Addr) = (⟨g, 0, none⟩ : Addr).add j from by unfold Addr.add; split <;> simp_all]
  exact this
end

/-- A slice of strings that reads as ss. -/
def Strs (w : World) (B : Nat) (A : Option Addr) (n : Nat) (ss : List (List UInt8)) : Prop := Reads w B A n (ss.map fun s => .string (str s))
theorem Strs.len {w : World} {B n : Nat} {A : Option Addr} {ss : List (List UInt8)} (h : Strs w B A n ss) : ss.length = n := by have := h.1; simpa using this
theorem Strs.at_ {w : World} {B n : Nat} {A : Option Addr} {ss : List (List UInt8)} {k : Nat} (h : Strs w B A n ss) (hk : k < n) :
    ∃ b o t, A = some ⟨b, o, none⟩ ∧ b < B ∧ ss[k]? = some t ∧ w.cell? ⟨b, o + k, none⟩ = some (.string (str t)) := by
  obtain ⟨b, o, u, e, hb, hu, hc⟩ := Reads.at_ h hk
  rw [List.getElem?_map] at hu
  cases h : ss[k]? with
  | none => rw [h] at hu; cases hu
  | some t => rw [h] at hu; exact ⟨b, o, t, e, hb, rfl, by rw [hc]; simpa using hu.symm⟩
/-- A slice of bytes that reads as bs. -/
def Byts (w : World) (B : Nat) (A : Option Addr) (n : Nat) (bs : List UInt8) : Prop := Reads w B A n (bs.map fun b => .int .u8 b.toNat)

/-- A slice of slices of strings: the row of the slice values 'rows', each of which reads as its list. -/
def Rows2 (w : World) (B : Nat) (A : Option Addr) (n : Nat) (rows : List (Option Addr × Nat × Nat)) (sss : List (List (List UInt8))) : Prop :=
  Reads w B A n (rows.map fun r => .slice r.1 r.2.1 r.2.2) ∧ rows.length = sss.length ∧ ∀ (k : Nat) (r : Option Addr × Nat × Nat) (ss : List (List UInt8)), rows[k]? = some r → sss[k]? = some ss → Strs w B r.1 r.2.1 ss
theorem Rows2.at_ {w : World} {B n k : Nat} {A : Option Addr} {rows : List (Option Addr × Nat × Nat)} {sss : List (List (List UInt8))} (h : Rows2 w B A n rows sss) (hk : k < n) :
    ∃ b o A' n' c' ss, A = some ⟨b, o, none⟩ ∧ b < B ∧ sss[k]? = some ss ∧ w.cell? ⟨b, o + k, none⟩ = some (.slice A' n' c') ∧ Strs w B A' n' ss := by
  obtain ⟨b, o, u, e, hb, hu, hc⟩ := Reads.at_ h.1 hk
  rw [List.getElem?_map] at hu
  cases hr : rows[k]? with
  | none => rw [hr] at hu; cases hu
  | some r =>
    rw [hr] at hu
    have hlt : k < sss.length := by have := (List.getElem?_eq_some_iff.1 hr).1; have := h.2.1; omega
    exact ⟨b, o, r.1, r.2.1, r.2.2, sss[k], e, hb, List.getElem?_eq_getElem hlt, by rw [hc]; simpa using hu.symm, h.2.2 k r _ hr (List.getElem?_eq_getElem hlt)⟩
theorem Rows2.below {w w' : World} {B n : Nat} {A : Option Addr} {rows : List (Option Addr × Nat × Nat)} {sss : List (List (List UInt8))} (h : Rows2 w B A n rows sss) (hb : Below B w w') : Rows2 w' B A n rows sss :=
  ⟨h.1.below hb, h.2.1, fun k r ss h1 h2 => Reads.below (h.2.2 k r ss h1 h2) hb⟩
theorem Strs.below {w w' : World} {B n : Nat} {A : Option Addr} {ss : List (List UInt8)} (h : Strs w B A n ss) (hb : Below B w w') : Strs w' B A n ss := Reads.below h hb
theorem Byts.below {w w' : World} {B n : Nat} {A : Option Addr} {ss : List UInt8} (h : Byts w B A n ss) (hb : Below B w w') : Byts w' B A n ss := Reads.below h hb
theorem Strs.drew {w : World} {B n : Nat} {A : Option Addr} {ss : List (List UInt8)} (h : Strs w B A n ss) : Strs w.drew B A n ss := Reads.keep h fun _ _ => rfl
theorem Rows2.drew {w : World} {B n : Nat} {A : Option Addr} {rows : List (Option Addr × Nat × Nat)} {sss : List (List (List UInt8))} (h : Rows2 w B A n rows sss) : Rows2 w.drew B A n rows sss :=
  ⟨Reads.keep h.1 fun _ _ => rfl, h.2.1, fun k r ss h1 h2 => Reads.keep (h.2.2 k r ss h1 h2) fun _ _ => rfl⟩
theorem Byts.drew {w : World} {B n : Nat} {A : Option Addr} {ss : List UInt8} (h : Byts w B A n ss) : Byts w.drew B A n ss := Reads.keep h fun _ _ => rfl
theorem Strs.drewN {w : World} {B n : Nat} {A : Option Addr} {ss : List (List UInt8)} (h : Strs w B A n ss) (k : Nat) : Strs (w.drewN k) B A n ss := Reads.keep h fun _ _ => rfl
theorem Byts.drewN {w : World} {B n : Nat} {A : Option Addr} {ss : List UInt8} (h : Byts w B A n ss) (k : Nat) : Byts (w.drewN k) B A n ss := Reads.keep h fun _ _ => rfl
theorem Strs.more {w : World} {B B' n : Nat} {A : Option Addr} {ss : List (List UInt8)} (h : Strs w B A n ss) (hb : B ≤ B') : Strs w B' A n ss := Reads.more h hb
theorem Byts.more {w : World} {B B' n : Nat} {A : Option Addr} {ss : List UInt8} (h : Byts w B A n ss) (hb : B ≤ B') : Byts w B' A n ss := Reads.more h hb
/-- The cells of bytes. -/
def bcs (l : List UInt8) : List Value := l.map fun b => .int .u8 b.toNat

theorem Byts.len {w : World} {B n : Nat} {A : Option Addr} {bs : List UInt8} (h : Byts w B A n bs) : bs.length = n := by have := h.1; simpa using this
theorem Byts.cells {w : World} {B n b o : Nat} {bs : List UInt8} (h : Byts w B (some ⟨b, o, none⟩) n bs) : ∀ j (hj : j < bs.length), w.cell? ⟨b, o + j, none⟩ = some (.int .u8 (bs[j].toNat : Int)) := by
  intro j hj
  obtain ⟨b', o', e, _, hc⟩ := h.2 (by have := h.len; omega)
  injection e with e; injection e with e1 e2; subst e1; subst e2
  exact hc j _ (by simp [hj])

theorem Byts.cut {w : World} {B n b o : Nat} {bs : List UInt8} (h : Byts w B (some ⟨b, o, none⟩) n bs) {a m : Nat} (ham : a + m ≤ n) : Byts w B (some ⟨b, o + a, none⟩) m ((bs.drop a).take m) := by
  have hl := h.len
  refine ⟨by simp; omega, fun hm => ?_⟩
  obtain ⟨b', o', e, hb, hc⟩ := h.2 (by omega)
  injection e with e; injection e with e1 e2; subst e1; subst e2
  refine ⟨b, o + a, rfl, hb, fun j u hu => ?_⟩
  rw [Nat.add_assoc]
  refine hc (a + j) u ?_
  rw [← hu, List.getElem?_map, List.getElem?_map, List.getElem?_take]
  have hj : j < m := by
    have := (List.getElem?_eq_some_iff.1 hu).1
    simp at this; omega
  rw [if_pos hj, List.getElem?_drop]

/-- 'string(b)' of bytes that read as bs. -/
theorem conv_bytes {P : Program} {w : World} {B n : Nat} {A : Option Addr} {bs : List UInt8} (h : Byts w B A n bs) {src dst e : TypeId} (c : Nat) (hs : P.underlying src = some (.slice e)) (he : P.underlying e = some (.int .u8)) (hd : P.underlying dst = some .string) :
    (convert src dst (.slice A n c)).run P w = .ok (.string (str bs)) w := by
  have hl := h.len
  cases A with
  | none =>
    have hn : n = 0 := by
      rcases Nat.eq_zero_or_pos n with h0 | h0
      · exact h0
      · obtain ⟨_, _, e, _⟩ := h.2 h0; cases e
    subst hn
    obtain rfl : bs = [] := List.eq_nil_of_length_eq_zero hl
    rw [run_convert_bytes_nil w src e hs he 0 c dst hd]; rfl
  | some a =>
    subst hl
    refine run_convert_bytes_back w src dst e a c bs hs he hd fun j hj => ?_
    obtain ⟨b, o, e, _, hc⟩ := h.2 (by omega)
    injection e with e
    subst e
    rw [show (⟨b, o, none⟩ : Addr).add j = ⟨b, o + j, none⟩ from by unfold Addr.add; split <;> simp_all]
    exact hc j _ (by simp [hj])

end Go.Proofs.YtoopdgohdeddoaaGreatDoor
/- Proved here: what comes in as a slice of strings, or of bytes, reads as a list. -/
namespace Go.Proofs.YtoopdgohdeddoaaGreatDoor
open Go.ChangeShapes Go.WideShapes Go.ChangeAt Go.RowKit
open Go.ChangeMaps (open_string shut_string)
set_option linter.unusedVariables false

theorem Tryz.own : ownKnob Tryz.prog.godebug = none := by kernel_rfl
theorem Tryz.laidOut : laidOutB Tryz.prog = true := by kernel_rfl

/-- A slice of strings that came in. -/
def ArgStrs (w : World) (A : Option Addr) (n c : Nat) (ss : List (List UInt8)) : Prop := n ≤ c ∧ c ≤ maxLen ∧ (∀ s ∈ ss, s.length ≤ maxLen) ∧ Strs w w.heap.size A n ss
/-- A slice of bytes that came in. -/
def ArgByts (w : World) (A : Option Addr) (n c : Nat) (bs : List UInt8) : Prop := n ≤ c ∧ c ≤ maxLen ∧ Byts w w.heap.size A n bs

theorem str_of (s : ByteArray) : str s.data.toList = s := by cases s; simp [str]

theorem argStrs {H : Type} {enc : TypeId × Value → H} {P : Program} {W : World} {base : Nat} {spare : Nat → Bool} {held : Bool} {t e : TypeId} {fuel : Nat} {A : Option Addr} {n c : Nat} {x : DataW H × List MemPlace}
    (ht : P.underlying t = some (.slice e)) (he : P.underlying e = some .string) (hc : P.cellsOf e = 1) (h : DataW.trod enc P W base spare held fuel t [.slice A n c] = some x) : ∃ ss, ArgStrs W A n c ss := by
  rcases open_strings ht he hc h with ⟨hcs, _⟩ | ⟨a, len, cap, ss, hcs, _, hl, hm, hz, _, hcell, hws⟩
  · simp at hcs
    obtain ⟨rfl, rfl, rfl⟩ := hcs
    exact ⟨[], Nat.le_refl _, Nat.zero_le _, by simp, rfl, fun h => absurd h (by omega)⟩
  · simp at hcs
    obtain ⟨rfl, rfl, rfl⟩ := hcs
    have hlen : n ≤ ss.length := by rw [hz]; split <;> omega
    refine ⟨(ss.take n).map fun s => s.data.toList, hl, hm, ?_, ?_, fun hn => ?_⟩
    · intro s hs
      obtain ⟨s', hs', rfl⟩ := List.mem_map.1 hs
      have := hws s' (List.mem_of_mem_take hs')
      rw [Lib.size_eq] at this
      exact this
    · simp; omega
    · obtain ⟨b, off, spot⟩ := a
      have h0 := hcell 0 (by omega)
      have hspot : spot = none := by simpa [Addr.add] using World.cell?_spot h0
      subst hspot
      refine ⟨b, off, rfl, by simpa [Addr.add] using World.block_lt_of_cell? _ _ h0, fun j u hu => ?_⟩
      have hj : j < n := by
        have := (List.getElem?_eq_some_iff.1 hu).1
        simp at this; omega
      have hcj := hcell j (by omega)
      rw [show (⟨b, off, none⟩ : Addr).add j = ⟨b, off + j, none⟩ from by unfold Addr.add; split <;> simp_all] at hcj
      rw [hcj, ← hu]
      simp [hj, show j < ss.length from by omega, str_of]

theorem argByts {H : Type} {enc : TypeId × Value → H} {P : Program} {W : World} {base : Nat} {spare : Nat → Bool} {held : Bool} {t e : TypeId} {fuel : Nat} {A : Option Addr} {n c : Nat} {x : DataW H × List MemPlace}
    (ht : P.underlying t = some (.slice e)) (he : P.underlying e = some (.int .u8)) (hc : P.cellsOf e = 1) (h : DataW.trod enc P W base spare held fuel t [.slice A n c] = some x) : ∃ bs, ArgByts W A n c bs := by
  rcases open_ints ht he hc h with ⟨hcs, _⟩ | ⟨a, len, cap, zs, hcs, _, hl, hm, hz, _, hcell, hwz⟩
  · simp at hcs
    obtain ⟨rfl, rfl, rfl⟩ := hcs
    exact ⟨[], Nat.le_refl _, Nat.zero_le _, rfl, fun h => absurd h (by omega)⟩
  · simp at hcs
    obtain ⟨rfl, rfl, rfl⟩ := hcs
    have hlen : n ≤ zs.length := by rw [hz]; split <;> omega
    refine ⟨(zs.take n).map fun z => UInt8.ofNat z.toNat, hl, hm, ?_, fun hn => ?_⟩
    · simp; omega
    · obtain ⟨b, off, spot⟩ := a
      have h0 := hcell 0 (by omega)
      have hspot : spot = none := by simpa [Addr.add] using World.cell?_spot h0
      subst hspot
      refine ⟨b, off, rfl, by simpa [Addr.add] using World.block_lt_of_cell? _ _ h0, fun j u hu => ?_⟩
      have hj : j < n := by
        have := (List.getElem?_eq_some_iff.1 hu).1
        simp at this; omega
      have hcj := hcell j (by omega)
      rw [show (⟨b, off, none⟩ : Addr).add j = ⟨b, off + j, none⟩ from by unfold Addr.add; split <;> simp_all] at hcj
      have hjz : j < zs.length := by omega
      have hw := hwz zs[j] (List.getElem_mem hjz)
      have hb : 0 ≤ zs[j] ∧ zs[j] ≤ 255 := by
        have := bounds_u8 hw
        omega
      rw [hcj, ← hu]
      simp [hj, hjz]
      omega
end Go.Proofs.YtoopdgohdeddoaaGreatDoor
/- Proved here: what comes in as an array of three slices of texts reads as three lists. -/
namespace Go.Proofs.YtoopdgohdeddoaaGreatDoor
open Go.ChangeShapes Go.WideShapes Go.ChangeAt Go.RowKit
open Go.ChangeMaps (open_string shut_string)
set_option linter.unusedVariables false

theorem list3 {α : Type} (l : List α) (h : (⟨l⟩ : Array α).size = 3) : ∃ a b c, l = [a, b, c] := by
  match l, h with
  | [a, b, c], _ => exact ⟨a, b, c, rfl⟩
theorem argTri {H : Type} {enc : TypeId × Value → H} {P : Program} {W : World} {r : Reach} {base b0 : Nat} {spare : Nat → Bool} {held : Bool} {t e q : TypeId} {v : Value} {d : DataW H} {p : List MemPlace}
    (ht : P.underlying t = some (.array 3 e)) (he : P.underlying e = some (.slice q)) (hq : P.underlying q = some .string) (ct : P.cellsOf t = 3) (ce : P.cellsOf e = 1) (cq : P.cellsOf q = 1) (hv : Value.okWide P W r b0 t v) (h : DataW.Trod enc P W base spare held t v d p) :
    ∃ E0 m0 k0 xs E1 m1 k1 ys E2 m2 k2 zs, v = .agg #[.slice E0 m0 k0, .slice E1 m1 k1, .slice E2 m2 k2] ∧ ArgStrs W E0 m0 k0 xs ∧ ArgStrs W E1 m1 k1 ys ∧ ArgStrs W E2 m2 k2 zs := by
  obtain ⟨cs, rfl, hsz, _⟩ : ∃ cs, v = .agg cs ∧ cs.size = P.cellsOf t ∧ Row.okWide P W r b0 t cs := by
    simpa [Value.okWide, ht] using hv
  rw [ct] at hsz
  obtain ⟨l⟩ := cs
  obtain ⟨c0, c1, c2, rfl⟩ := list3 l hsz
  obtain ⟨fuel, hf⟩ := h
  obtain ⟨xs, m, _, _, _, hxl, hel⟩ := DataW.trod_array ht hf
  have h0 := hel 0 (by omega)
  have h1 := hel 1 (by omega)
  have h2 := hel 2 (by omega)
  rw [ce] at h0 h1 h2
  simp [Value.cells] at h0 h1 h2
  have g : ∀ i, i < 3 → ∃ z, xs[i]? = some z := fun i hi => ⟨xs[i]'(by omega), List.getElem?_eq_getElem (by omega)⟩
  obtain ⟨z0, g0⟩ := g 0 (by omega)
  obtain ⟨z1, g1⟩ := g 1 (by omega)
  obtain ⟨z2, g2⟩ := g 2 (by omega)
  simp [g0] at h0
  simp [g1] at h1
  simp [g2] at h2
  have shape : ∀ {c : Value} {z : DataW H × List MemPlace}, DataW.trod enc P W base spare held m e [c] = some z → ∃ A n k, c = .slice A n k := by
    intro c z hc
    rcases open_strings he hq cq hc with ⟨h3, _⟩ | ⟨a', l', c', _, h3, _⟩
    · exact ⟨_, _, _, by simpa using h3⟩
    · exact ⟨_, _, _, by simpa using h3⟩
  obtain ⟨E0, m0, k0, rfl⟩ := shape h0
  obtain ⟨E1, m1, k1, rfl⟩ := shape h1
  obtain ⟨E2, m2, k2, rfl⟩ := shape h2
  obtain ⟨us, hus⟩ := argStrs he hq cq h0
  obtain ⟨vs, hvs⟩ := argStrs he hq cq h1
  obtain ⟨ws, hws⟩ := argStrs he hq cq h2
  exact ⟨E0, m0, k0, us, E1, m1, k1, vs, E2, m2, k2, ws, rfl, hus, hvs, hws⟩
end Go.Proofs.YtoopdgohdeddoaaGreatDoor
/- Proved here, without conditions on the program: a world that is another one but for some blocks; slices of numbers, and of slices of these, that read as lists; rows of the call's own. (What all stages share.) -/
namespace Go.Proofs.YtoopdgohdeddoaaGreatDoor
open Go.RowKit
set_option linter.unusedVariables false

/-- w' is w, but for the blocks of F and those that are new. -/
structure But (F : Nat → Prop) (w w' : World) : Prop where
  os : w'.os = w.os
  tape : w'.tape = w.tape
  output : w'.output = w.output
  size : w.heap.size ≤ w'.heap.size
  block : ∀ k, k < w.heap.size → ¬ F k → w'.heap[k]? = w.heap[k]?

section
variable {F F' : Nat → Prop} {w w' w'' : World}
theorem But.refl (F : Nat → Prop) (w : World) : But F w w := ⟨rfl, rfl, rfl, Nat.le_refl _, fun _ _ _ => rfl⟩
theorem But.trans (h : But F w w') (h' : But F' w' w'') (hF : ∀ k, F' k → F k ∨ w.heap.size ≤ k) : But F w w'' :=
  ⟨h'.os.trans h.os, h'.tape.trans h.tape, h'.output.trans h.output, Nat.le_trans h.size h'.size, fun k hk hn =>
    (h'.block k (Nat.lt_of_lt_of_le hk h.size) (fun hf => (hF k hf).elim hn (fun h => by omega))).trans (h.block k hk hn)⟩
theorem But.of_grown {row : Option Nat} (h : w.grownBy w' row) (hr : ∀ k, row = some k → F k) : But F w w' :=
  ⟨h.os, h.tape, h.output, h.size, fun k hk hn => h.block k hk (fun e => hn (hr k e.symm))⟩
theorem But.of_below {B : Nat} (h : Below B w w') (hB : ∀ k, k < w.heap.size → ¬ F k → k < B) : But F w w' :=
  ⟨h.os, h.tape, h.output, h.size, fun k hk hn => h.block k (hB k hk hn)⟩
theorem But.below {B : Nat} (h : But F w w') (hB : B ≤ w.heap.size) (hF : ∀ k, F k → B ≤ k) : Below B w w' :=
  ⟨h.os, h.tape, h.output, h.size, fun k hk => h.block k (by omega) (fun hf => by have := hF k hf; omega)⟩
theorem But.alloc (w : World) (o : Obj) : But F w (w.alloc o) := .of_grown (World.grownBy_alloc w o none) (by simp)
theorem But.setCell (w : World) {p : Addr} (hp : F p.block) (u : Value) : But F w (w.setCell p u) :=
  ⟨rfl, rfl, rfl, by simp [World.setCell], fun k hk hn => Below.heap_setCell _ _ _ _ (fun e => hn (e ▸ hp))⟩
theorem But.more (h : But F w w') (hF : ∀ k, F k → F' k) : But F' w w' :=
  ⟨h.os, h.tape, h.output, h.size, fun k hk hn => h.block k hk (fun hf => hn (hF k hf))⟩
end

theorem cells_of {w : World} {T : Nat} {C : Array Value} {t : TypeId} (h : w.heap[T]? = some (.cells C t (0, 0))) (k : Nat) : w.cell? ⟨T, k, none⟩ = C[k]? := by
  simp [World.cell?, h]
theorem unfrozen_of {w : World} {T : Nat} {C : Array Value} {t : TypeId} (h : w.heap[T]? = some (.cells C t (0, 0))) (k : Nat) : w.frozen? ⟨T, k, none⟩ = false := by
  simp [World.frozen?, h]

theorem own_slice {w : World} {base n : Nat} {e : TypeId} {v : Value} {xs : List Value} (h : w.ownsRow base e 1 v n xs) : ∃ A c, v = .slice A n c ∧ n ≤ c ∧ c ≤ maxLen ∧ Reads w w.heap.size A n xs := by
  rcases h.2 with ⟨rfl, rfl⟩ | ⟨g, cap, cur, rfl, _, _, hnc, hcm, _⟩
  · exact ⟨none, 0, rfl, Nat.le_refl _, Nat.zero_le _, Reads.of_own h⟩
  · exact ⟨_, cap, rfl, hnc, hcm, Reads.of_own h⟩

theorem ownsRow_kept {w w' : World} {base : Nat} {e : TypeId} {size n : Nat} {v : Value} {xs : List Value} (h : w.ownsRow base e size v n xs) (hk : ∀ k, v.ownBlock = some k → w'.heap[k]? = w.heap[k]?) : w'.ownsRow base e size v n xs := by
  refine ⟨h.1, ?_⟩
  rcases h.2 with h | ⟨g, cap, cur, rfl, hb, hg, r⟩
  · exact .inl h
  · exact .inr ⟨g, cap, cur, rfl, hb, (hk g rfl).trans hg, r⟩
theorem take_at {α : Type} {ss : List α} {k : Nat} {s : α} (h : ss[k]? = some s) : ss.take (k + 1) = ss.take k ++ [s] := by
  obtain ⟨hk, rfl⟩ := List.getElem?_eq_some_iff.1 h
  rw [List.take_succ_eq_append_getElem hk]
theorem drop_at {α : Type} {ss : List α} {k : Nat} {s : α} (h : ss[k]? = some s) : ss.drop k = s :: ss.drop (k + 1) := by
  obtain ⟨hk, rfl⟩ := List.getElem?_eq_some_iff.1 h
  exact (List.drop_eq_getElem_cons hk)

/-- A slice of numbers that reads as xs. -/
def Nums (w : World) (B : Nat) (A : Option Addr) (n : Nat) (xs : List Int) : Prop := Reads w B A n (xs.map fun x => .int .i64 x)
/-- A slice of slices of numbers. -/
def RowsN (w : World) (B : Nat) (A : Option Addr) (n : Nat) (rows : List (Option Addr × Nat × Nat)) (xss : List (List Int)) : Prop :=
  Reads w B A n (rows.map fun r => .slice r.1 r.2.1 r.2.2) ∧ rows.length = xss.length ∧ ∀ (k : Nat) (r : Option Addr × Nat × Nat) (xs : List Int), rows[k]? = some r → xss[k]? = some xs → Nums w B r.1 r.2.1 xs

theorem Nums.len {w : World} {B n : Nat} {A : Option Addr} {xs : List Int} (h : Nums w B A n xs) : xs.length = n := by have := h.1; simpa using this
theorem Nums.at_ {w : World} {B n : Nat} {A : Option Addr} {xs : List Int} {k : Nat} (h : Nums w B A n xs) (hk : k < n) :
    ∃ b o x, A = some ⟨b, o, none⟩ ∧ b < B ∧ xs[k]? = some x ∧ w.cell? ⟨b, o + k, none⟩ = some (.int .i64 x) := by
  obtain ⟨b, o, u, e, hb, hu, hc⟩ := Reads.at_ h hk
  rw [List.getElem?_map] at hu
  cases h : xs[k]? with
  | none => rw [h] at hu; cases hu
  | some t => rw [h] at hu; exact ⟨b, o, t, e, hb, rfl, by rw [hc]; simpa using hu.symm⟩
theorem RowsN.at_ {w : World} {B n k : Nat} {A : Option Addr} {rows : List (Option Addr × Nat × Nat)} {xss : List (List Int)} (h : RowsN w B A n rows xss) (hk : k < n) :
    ∃ b o A' n' c' xs, A = some ⟨b, o, none⟩ ∧ b < B ∧ xss[k]? = some xs ∧ w.cell? ⟨b, o + k, none⟩ = some (.slice A' n' c') ∧ Nums w B A' n' xs := by
  obtain ⟨b, o, u, e, hb, hu, hc⟩ := Reads.at_ h.1 hk
  rw [List.getElem?_map] at hu
  cases hr : rows[k]? with
  | none => rw [hr] at hu; cases hu
  | some r =>
    rw [hr] at hu
    have hlt : k < xss.length := by have := (List.getElem?_eq_some_iff.1 hr).1; have := h.2.1; omega
    exact ⟨b, o, r.1, r.2.1, r.2.2, xss[k], e, hb, List.getElem?_eq_getElem hlt, by rw [hc]; simpa using hu.symm, h.2.2 k r _ hr (List.getElem?_eq_getElem hlt)⟩
theorem RowsN.len {w : World} {B n : Nat} {A : Option Addr} {rows : List (Option Addr × Nat × Nat)} {xss : List (List Int)} (h : RowsN w B A n rows xss) : xss.length = n := by
  have := h.1.1; have := h.2.1; simp at *; omega
theorem Nums.below {w w' : World} {B n : Nat} {A : Option Addr} {xs : List Int} (h : Nums w B A n xs) (hb : Below B w w') : Nums w' B A n xs := Reads.below h hb
theorem Nums.more {w : World} {B B' n : Nat} {A : Option Addr} {xs : List Int} (h : Nums w B A n xs) (hb : B ≤ B') : Nums w B' A n xs := Reads.more h hb
theorem RowsN.below {w w' : World} {B n : Nat} {A : Option Addr} {rows : List (Option Addr × Nat × Nat)} {xss : List (List Int)} (h : RowsN w B A n rows xss) (hb : Below B w w') : RowsN w' B A n rows xss :=
  ⟨h.1.below hb, h.2.1, fun k r ss h1 h2 => Reads.below (h.2.2 k r ss h1 h2) hb⟩
theorem RowsN.more {w : World} {B B' n : Nat} {A : Option Addr} {rows : List (Option Addr × Nat × Nat)} {xss : List (List Int)} (h : RowsN w B A n rows xss) (hb : B ≤ B') : RowsN w B' A n rows xss :=
  ⟨Reads.more h.1 hb, h.2.1, fun k r ss h1 h2 => Reads.more (h.2.2 k r ss h1 h2) hb⟩
theorem RowsN.drewN {w : World} {B n : Nat} {A : Option Addr} {rows : List (Option Addr × Nat × Nat)} {xss : List (List Int)} (h : RowsN w B A n rows xss) (q : Nat) : RowsN (w.drewN q) B A n rows xss :=
  ⟨Reads.keep h.1 fun _ _ => rfl, h.2.1, fun k r ss h1 h2 => Reads.keep (h.2.2 k r ss h1 h2) fun _ _ => rfl⟩
theorem reads_of_row {w : World} {b n : Nat} {t : TypeId} {f : Nat → Value} (h : w.rowIs b t n f) (xs : List Value) (hl : xs.length = n) (hx : ∀ i u, xs[i]? = some u → f i = u) : Reads w w.heap.size (some ⟨b, 0, none⟩) n xs :=
  ⟨hl, fun _ => ⟨b, 0, rfl, h.lt, fun j u hu => by
    have hj : j < n := by have := (List.getElem?_eq_some_iff.1 hu).1; omega
    rw [Nat.zero_add, h.cell hj, hx j u hu]⟩⟩

/-- A new block of slice values, each of which reads as its list. -/
theorem Rows2.new {w : World} {rows : List (Option Addr × Nat × Nat)} {sss : List (List (List UInt8))} (t : TypeId) (n : Nat) (C : Array Value) (hC : C = (rows.map fun r => Value.slice r.1 r.2.1 r.2.2).toArray) (hn : rows.length = n) (hl : rows.length = sss.length) (h : ∀ (k : Nat) (r : Option Addr × Nat × Nat) (ss : List (List UInt8)), rows[k]? = some r → sss[k]? = some ss → Strs w w.heap.size r.1 r.2.1 ss) :
    Rows2 (w.alloc (.cells C t)) (w.alloc (.cells C t)).heap.size (some ⟨w.heap.size, 0, none⟩) n rows sss := by
  subst hC
  refine ⟨⟨by simpa using hn, fun _ => ⟨w.heap.size, 0, rfl, by simp, fun j u hu => ?_⟩⟩, hl, fun k r ss h1 h2 => ?_⟩
  · rw [World.cell?_alloc_mark]
    simpa using hu
  · exact Reads.more (Reads.keep (h k r ss h1 h2) fun p hp => World.cell?_alloc_lt _ _ p hp) (by simp)
theorem Strs.new {w : World} (ss : List (List UInt8)) (t : TypeId) (n : Nat) (C : Array Value) (hC : C = (ss.map fun s => Value.string (str s)).toArray) (hn : ss.length = n) :
    Strs (w.alloc (.cells C t)) (w.alloc (.cells C t)).heap.size (some ⟨w.heap.size, 0, none⟩) n ss := by
  subst hC
  refine ⟨by simpa using hn, fun _ => ⟨w.heap.size, 0, rfl, by simp, fun j u hu => ?_⟩⟩
  rw [World.cell?_alloc_mark]
  simpa using hu

theorem own_apart {w : World} {b1 b2 n m : Nat} {e1 e2 : TypeId} {v u : Value} {xs ys : List Value} (h : w.ownsRow b1 e1 1 v n xs) (k : w.ownsRow b2 e2 1 u m ys) (hne : e1 ≠ e2) : v.ownBlock = none ∨ v.ownBlock ≠ u.ownBlock := by
  rcases h.2 with ⟨rfl, _⟩ | ⟨g, cap, cur, rfl, _, hg, _⟩
  · exact .inl rfl
  · refine .inr fun e => ?_
    rcases k.2 with ⟨rfl, _⟩ | ⟨g', cap', cur', rfl, _, hg', _⟩
    · simp [Value.ownBlock] at e
    · simp only [Value.ownBlock, Option.some.injEq] at e
      subst e
      rw [hg] at hg'
      injection hg' with hg'
      simp at hg'
      exact hne hg'.2

theorem below_drewN {B : Nat} {a w : World} (h : Below B a w) (q : Nat) : Below B a (w.drewN q) := ⟨h.os, h.tape, h.output, h.size, h.block⟩
theorem Strs.grown {w1 w2 : World} {B n : Nat} {A : Option Addr} {ss : List (List UInt8)} {row : Option Nat} (h : Strs w1 B A n ss) (hB : B ≤ w1.heap.size) (hg : w1.grownBy w2 row) (hr : ∀ b o, A = some ⟨b, o, none⟩ → row ≠ some b) : Strs w2 B A n ss := by
  refine ⟨h.1, fun hn => ?_⟩
  obtain ⟨b, o, rfl, hlt, hc⟩ := h.2 hn
  exact ⟨b, o, rfl, hlt, fun i u hu => (World.cell?_of_block (w := w1) (hg.block b (by omega) (fun e => hr b o rfl e.symm))).trans (hc i u hu)⟩
theorem Strs.but {w w' : World} {B n : Nat} {A : Option Addr} {F : Nat → Prop} {ss : List (List UInt8)} (h : Strs w B A n ss) (hB : B ≤ w.heap.size) (hb : But F w w') (hF : ∀ b o, A = some ⟨b, o, none⟩ → ¬ F b) : Strs w' B A n ss := by
  refine ⟨h.1, fun hn => ?_⟩
  obtain ⟨b, o, rfl, hlt, hc⟩ := h.2 hn
  exact ⟨b, o, rfl, hlt, fun j u hu => (World.cell?_of_block (w := w) (hb.block b (by omega) (hF b o rfl))).trans (hc j u hu)⟩
theorem Nums.grown {w1 w2 : World} {B n : Nat} {A : Option Addr} {xs : List Int} {row : Option Nat} (h : Nums w1 B A n xs) (hB : B ≤ w1.heap.size) (hg : w1.grownBy w2 row) (hr : ∀ b o, A = some ⟨b, o, none⟩ → row ≠ some b) : Nums w2 B A n xs := by
  refine ⟨h.1, fun hn => ?_⟩
  obtain ⟨b, o, rfl, hlt, hc⟩ := h.2 hn
  exact ⟨b, o, rfl, hlt, fun i u hu => (World.cell?_of_block (w := w1) (hg.block b (by omega) (fun e => hr b o rfl e.symm))).trans (hc i u hu)⟩
theorem Nums.drewN {w : World} {B n : Nat} {A : Option Addr} {xs : List Int} (h : Nums w B A n xs) (k : Nat) : Nums (w.drewN k) B A n xs := Reads.keep h fun _ _ => rfl
theorem Nums.drew {w : World} {B n : Nat} {A : Option Addr} {xs : List Int} (h : Nums w B A n xs) : Nums w.drew B A n xs := Reads.keep h fun _ _ => rfl
theorem nums_one (xs : List Int) : ∀ u ∈ xs.map (fun x => Value.int .i64 x), u.oneCell' = true := by
  intro u hu
  obtain ⟨b, _, rfl⟩ := List.mem_map.1 hu
  rfl
theorem Nums.new {w : World} (xs : List Int) (t : TypeId) (n : Nat) (C : Array Value) (hC : C = (xs.map fun x => Value.int .i64 x).toArray) (hn : xs.length = n) :
    Nums (w.alloc (.cells C t)) (w.alloc (.cells C t)).heap.size (some ⟨w.heap.size, 0, none⟩) n xs := by
  subst hC
  refine ⟨by simpa using hn, fun _ => ⟨w.heap.size, 0, rfl, by simp, fun j u hu => ?_⟩⟩
  rw [World.cell?_alloc_mark]
  simpa using hu
/-- A row of numbers of the call's own reads as them. -/
theorem nums_of_own {w : World} {base n : Nat} {e : TypeId} {v : Value} {xs : List Int} (h : w.ownsRow base e 1 v n (xs.map fun x => .int .i64 x)) : ∃ A c, v = .slice A n c ∧ n ≤ c ∧ c ≤ maxLen ∧ Nums w w.heap.size A n xs := own_slice h
end Go.Proofs.YtoopdgohdeddoaaGreatDoor
/- Proved here, without conditions on the program: append of a slice that reads as a list onto a row of the call's own. -/
namespace Go.Proofs.YtoopdgohdeddoaaGreatDoor
open Go.RowKit
set_option linter.unusedVariables false

section
variable {P : Program} (w : World)

theorem run_append_of_nil (base : Nat) (t ty e : TypeId) (i : TypeInfo) (ht : P.underlying t = some (.slice e)) (hi : P.info? e = some i)
    (v : Value) (n : Nat) (xs : List Value) (hown : w.ownsRow base e 1 v n xs) (c : Nat) : (Builtin.append_ #[t, t] ty #[v, .slice none 0 c]).run P w = .ok v w := by
  rcases hown.2 with ⟨rfl, rfl⟩ | ⟨g, cap, cur, rfl, _, _, hnc, _⟩
  · simp [Builtin.append_, run_underlying ht, sizeOf, typeInfo, hi, Builtin.lenOf, Builtin.firstCells]
  · simp [Builtin.append_, run_underlying ht, sizeOf, typeInfo, hi, Builtin.lenOf, Builtin.firstCells, hnc, storeCells]

theorem run_append_reads (base : Nat) (t ty e : TypeId) (i : TypeInfo) (z : Value) (bytes : Nat) (ht : P.underlying t = some (.slice e)) (hi : P.info? e = some i) (hz : i.zero = some z)
    (hsize : i.size = 1) (hby : i.bytes = bytes) (hzs : z.cells.size = 1)
    (v : Value) (n : Nat) (xs : List Value) (hown : w.ownsRow base e 1 v n xs)
    (B : Nat) (A : Option Addr) (m c : Nat) (news : List Value) (hr : Reads w B A m news) (h1 : ∀ u ∈ news, u.oneCell' = true)
    (h63 : n + m ≤ maxLen) (hbytes : (n + m) * bytes ≤ 140737488355328) (hbase : base ≤ w.heap.size) :
    ∃ v' w', (Builtin.append_ #[t, t] ty #[v, .slice A m c]).run P w = .ok v' w' ∧ w'.ownsRow base e 1 v' (n + m) (xs ++ news) ∧ w.grownBy w' v.ownBlock := by
  rcases A with _ | ad
  · have hm : m = 0 := by
      rcases Nat.eq_zero_or_pos m with h0 | h0
      · exact h0
      · obtain ⟨_, _, h, _⟩ := hr.2 h0
        cases h
    subst hm
    have hn : news = [] := List.eq_nil_of_length_eq_zero hr.1
    subst hn
    exact ⟨v, w, run_append_of_nil w base t ty e i ht hi v n xs hown c, by simpa using hown, World.grownBy.refl w _⟩
  · have hcells : ∀ j u, news[j]? = some u → w.cell? (ad.add j) = some u := by
      intro j u hu
      rcases Nat.eq_zero_or_pos m with h0 | h0
      · subst h0
        have hn : news = [] := List.eq_nil_of_length_eq_zero hr.1
        subst hn
        simp at hu
      · obtain ⟨b, o, h, _, hc⟩ := hr.2 h0
        injection h with h
        subst h
        rw [show (⟨b, o, none⟩ : Addr).add j = ⟨b, o + j, none⟩ from by unfold Addr.add; split <;> simp_all]
        exact hc j u hu
    obtain ⟨v', w', hrun, h2, h3, _⟩ := run_append_own_at (P := P) w base t ty e i z 1 bytes ht hi hz hsize hby hzs (by decide) v n xs hown ad m c news (by rw [hr.1, Nat.mul_one]) hcells h1 h63 hbytes hbase
    exact ⟨v', w', hrun, h2, h3⟩

theorem wp_append_reads {o : Oper} {a : Act} {K : Act → World → Prop} {Q : Exit → Act → World → Prop} (s x : Operand) (t : TypeId)
    (ho : o.op = .call { callee := .builtin .append, args := #[s, x], argTypes := #[t, t] })
    (base : Nat) (e : TypeId) (i : TypeInfo) (z : Value) (bytes : Nat) (ht : P.underlying t = some (.slice e)) (hi : P.info? e = some i) (hz : i.zero = some z)
    (hsize : i.size = 1) (hby : i.bytes = bytes) (hzs : z.cells.size = 1)
    (v : Value) (n : Nat) (xs : List Value) (hs : a.eval s = v) (hown : w.ownsRow base e 1 v n xs)
    (B : Nat) (A : Option Addr) (m c : Nat) (news : List Value) (hx : a.eval x = .slice A m c) (hr : Reads w B A m news) (h1 : ∀ u ∈ news, u.oneCell' = true)
    (h63 : n + m ≤ maxLen) (hbytes : (n + m) * bytes ≤ 140737488355328) (hbase : base ≤ w.heap.size)
    (h : ∀ v' w', w'.ownsRow base e 1 v' (n + m) (xs ++ news) → w.grownBy w' v.ownBlock → K (a.put o.dst v') w') : o.wp P a w K Q := by
  obtain ⟨v', w', hrun, h2, h3⟩ := run_append_reads (P := P) w base t o.type e i z bytes ht hi hz hsize hby hzs v n xs hown B A m c news hr h1 h63 hbytes hbase
  unfold Oper.wp execOp
  simp only [ho, resolve, invoke, builtin, Sem.run_bind, Sem.run_pure, Result.andThen_ok, List.map_toArray, List.map_cons, List.map_nil, hs, hx, hrun]
  exact h v' w' h2 h3

theorem wpList_append_reads {ops : Array Oper} {rest : List Oper} {o : Oper} {a : Act} {Q : Exit → Act → World → Prop} (hgd : o.guard = none) (s x : Operand) (t : TypeId)
    (ho : o.op = .call { callee := .builtin .append, args := #[s, x], argTypes := #[t, t] })
    (base : Nat) (e : TypeId) (i : TypeInfo) (z : Value) (bytes : Nat) (ht : P.underlying t = some (.slice e)) (hi : P.info? e = some i) (hz : i.zero = some z)
    (hsize : i.size = 1) (hby : i.bytes = bytes) (hzs : z.cells.size = 1)
    (v : Value) (n : Nat) (xs : List Value) (hs : a.eval s = v) (hown : w.ownsRow base e 1 v n xs)
    (B : Nat) (A : Option Addr) (m c : Nat) (news : List Value) (hx : a.eval x = .slice A m c) (hr : Reads w B A m news) (h1 : ∀ u ∈ news, u.oneCell' = true)
    (h63 : n + m ≤ maxLen) (hbytes : (n + m) * bytes ≤ 140737488355328) (hbase : base ≤ w.heap.size)
    (h : ∀ v' w', w'.ownsRow base e 1 v' (n + m) (xs ++ news) → w.grownBy w' v.ownBlock → wpList P ops Q rest (a.put o.dst v') w') : wpList P ops Q (o :: rest) a w :=
  wpList_plain hgd fun _ hK => wp_append_reads w s x t ho base e i z bytes ht hi hz hsize hby hzs v n xs hs hown B A m c news hx hr h1 h63 hbytes hbase fun v' w' h2 h3 => hK _ _ (h v' w' h2 h3)

/-- The same where the operation is guarded, and the guard is met. -/
theorem wpList_append_readsG {ops : Array Oper} {rest : List Oper} {o : Oper} {a : Act} {Q : Exit → Act → World → Prop} (hw : Region.wanted o (yielded ops a.tmps) = true) (s x : Operand) (t : TypeId)
    (ho : o.op = .call { callee := .builtin .append, args := #[s, x], argTypes := #[t, t] })
    (base : Nat) (e : TypeId) (i : TypeInfo) (z : Value) (bytes : Nat) (ht : P.underlying t = some (.slice e)) (hi : P.info? e = some i) (hz : i.zero = some z)
    (hsize : i.size = 1) (hby : i.bytes = bytes) (hzs : z.cells.size = 1)
    (v : Value) (n : Nat) (xs : List Value) (hs : a.eval s = v) (hown : w.ownsRow base e 1 v n xs)
    (B : Nat) (A : Option Addr) (m c : Nat) (news : List Value) (hx : a.eval x = .slice A m c) (hr : Reads w B A m news) (h1 : ∀ u ∈ news, u.oneCell' = true)
    (h63 : n + m ≤ maxLen) (hbytes : (n + m) * bytes ≤ 140737488355328) (hbase : base ≤ w.heap.size)
    (h : ∀ v' w', w'.ownsRow base e 1 v' (n + m) (xs ++ news) → w.grownBy w' v.ownBlock → wpList P ops Q rest (a.put o.dst v') w') : wpList P ops Q (o :: rest) a w :=
  wpList_step fun K hK => by
    rw [if_pos hw]
    exact wp_append_reads w s x t ho base e i z bytes ht hi hz hsize hby hzs v n xs hs hown B A m c news hx hr h1 h63 hbytes hbase fun v' w' h2 h3 => hK _ _ (h v' w' h2 h3)
end

theorem bcs_one (l : List UInt8) : ∀ u ∈ bcs l, u.oneCell' = true := by
  intro u hu
  obtain ⟨b, _, rfl⟩ := List.mem_map.1 hu
  rfl
theorem strs_one (l : List (List UInt8)) : ∀ u ∈ l.map (fun s => Value.string (str s)), u.oneCell' = true := by
  intro u hu
  obtain ⟨b, _, rfl⟩ := List.mem_map.1 hu
  rfl
/-- The empty literal's row. -/
theorem own_empty (w : World) (base : Nat) (e : TypeId) (h : base ≤ w.heap.size) : (w.alloc (.cells #[] e)).ownsRow base e 1 (.slice (some ⟨w.heap.size, 0, none⟩) 0 0) 0 [] :=
  ⟨rfl, .inr ⟨w.heap.size, 0, #[], rfl, h, heap_alloc_new w _, Nat.le_refl _, Nat.zero_le _, rfl, rfl⟩⟩
end Go.Proofs.YtoopdgohdeddoaaGreatDoor
