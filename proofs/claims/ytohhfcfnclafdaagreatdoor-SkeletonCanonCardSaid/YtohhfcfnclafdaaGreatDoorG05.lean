/-
  The program's reader of texts: its state, the byte that comes, what is wrong, a byte that must come; a text's copy.
  The library's texts in this program are those that the library's contracts were proved of.
  Words for tags in memory: a tag's ten cells, what lies at an address; loads, stores and comparisons of whole tags, and of ten bytes.
-/
import Derived.Test.YtohhfcfnclafdaaGreatDoorGow
import Derived.Test.YtohhfcfnclafdaaGreatDoorG04
import Derived.Shelf.Pu.Clone
import Derived.BigQuiet
import Derived.Shelf.Strings.Builder1
import Derived.Shelf.Strings.Builder2
import Derived.Shelf.Strings.OnBuilder
import Derived.Shelf.Small.Utf8
import Derived.Shelf.Small.Strs
import Derived.Shelf.Strconv.Itoa0
import Derived.Shelf.Strconv.Itoa1
import Derived.Shelf.LaysM
import Derived.Shelf.Strconv.Itoa2
import Derived.Shelf.Strings.Search1
import Derived.Shelf.Strings.Search2
import Derived.Shelf.Strings.Search3
import Derived.Shelf.Strings.Count
import Derived.Shelf.Strings.Shaped
import Derived.Shelf.Strings.Split
import Derived.Shelf.Unicode.Latin
import Derived.Shelf.Unicode.DecodeSlow
import Derived.Shelf.Unicode.CaseLookup
import Derived.Shelf.Unicode.CaseConvert
import Derived.Shelf.Unicode.CaseTo
import Derived.Shelf.Unicode.CaseLaid
import Derived.Shelf.Bytes.SlIndexSmall
import Derived.Shelf.Bytes.SlIndexAt
import Derived.Shelf.Bytes.SlSearch0
import Derived.Shelf.Bytes.SlSearch1
import Derived.Shelf.Bytes.SlSearch2
import Derived.Shelf.Bytes.SlIndexWhole
import Derived.Shelf.Bytes.SlCut
import Derived.Shelf.Bytes.Small
import Derived.Shelf.Bytes.IndexByte
import Derived.Test.YtohhfcfnclafdaaGreatDoorProg
import Derived.Test.YtohhfcfnclafdaaGreatDoorMem
import Derived.Deep.MidRow
import Derived.Deep.WholeRow
import Derived.Laws.StructEq
import Derived.DeepKeys4
import Derived.Maps.OwnSet
import Derived.KernelRfl
set_option linter.unusedVariables false
set_option linter.unusedSimpArgs false
set_option maxRecDepth 100000
namespace Go.Proofs.YtohhfcfnclafdaaGreatDoor
open Go.RowKit
attribute [local go_sem ↓] Go.wp_at_zero Go.wp_at_succ

/-- What was there stays, but for these blocks. -/
structure Fr (S : Nat → Prop) (w w' : World) : Prop where
  os : w'.os = w.os
  tape : w'.tape = w.tape
  output : w'.output = w.output
  size : w.heap.size ≤ w'.heap.size
  same : ∀ i, i < w.heap.size → ¬ S i → w'.heap[i]? = w.heap[i]?
section
variable {S S' : Nat → Prop} {w w' w2 : World}
theorem Fr.refl (S : Nat → Prop) (w : World) : Fr S w w := ⟨rfl, rfl, rfl, Nat.le_refl _, fun _ _ _ => rfl⟩
theorem Fr.of_below {B : Nat} (hb : Below B w w') (hB : w.heap.size ≤ B) : Fr S w w' := ⟨hb.os, hb.tape, hb.output, hb.size, fun i hi _ => hb.block i (Nat.lt_of_lt_of_le hi hB)⟩
theorem Fr.trans (h : Fr S w w') (k : Fr S' w' w2) (hs : ∀ i, i < w.heap.size → S' i → S i) : Fr S w w2 :=
  ⟨k.os.trans h.os, k.tape.trans h.tape, k.output.trans h.output, Nat.le_trans h.size k.size, fun i hi hn => (k.same i (Nat.lt_of_lt_of_le hi h.size) fun hq => hn (hs i hi hq)).trans (h.same i hi hn)⟩
theorem Fr.step (h : Fr S w w') (k : Fr S w' w2) : Fr S w w2 := h.trans k fun _ _ h => h
theorem Fr.mono (h : Fr S w w') (hs : ∀ i, i < w.heap.size → S i → S' i) : Fr S' w w' := ⟨h.os, h.tape, h.output, h.size, fun i hi hn => h.same i hi fun hq => hn (hs i hi hq)⟩
theorem Fr.below (h : Fr S w w') {B : Nat} (hB : B ≤ w.heap.size) (hs : ∀ i, i < B → ¬ S i) : Below B w w' := ⟨h.os, h.tape, h.output, h.size, fun i hi => h.same i (Nat.lt_of_lt_of_le hi hB) (hs i hi)⟩
theorem Fr.alloc (h : Fr S w w') (o : Obj) : Fr S w (w'.alloc o) := h.trans (S' := S) (Fr.of_below ((Below.refl _ _).alloc (Nat.le_refl _) o) (Nat.le_refl _)) fun _ _ h => h
theorem Fr.setCell (h : Fr S w w') (p : Addr) (u : Value) (hp : p.block < w.heap.size → S p.block) : Fr S w (w'.setCell p u) :=
  ⟨h.os, h.tape, h.output, by simpa using h.size, fun i hi hn => (Below.heap_setCell w' p u i (fun e => hn (e ▸ hp (e ▸ hi)))).trans (h.same i hi hn)⟩
theorem Fr.blk (h : Fr S w w') {g : Nat} {t : TypeId} {cs : Array Value} (hb : Blk w g t cs) (hg : ¬ S g) : Blk w' g t cs := ⟨(h.same g hb.lt hg).trans hb.out⟩
theorem Fr.cell (h : Fr S w w') {p : Addr} {v : Value} (hc : w.cell? p = some v) (hg : ¬ S p.block) : w'.cell? p = some v := (World.cell?_of_block (w := w) (h.same _ (World.block_lt_of_cell? w _ hc) hg)).trans hc
theorem Fr.keeps {F : Nat → Prop} (h : Fr S w w') (hF : ∀ i, F i → ¬ S i) : (w.heap.size ≤ w'.heap.size) ∧ ∀ b, F b → b < w.heap.size → w'.heap[b]? = w.heap[b]? := ⟨h.size, fun b hb hl => h.same b hl (hF b hb)⟩
end
theorem Blk.c_ {w : World} {g : Nat} {t : TypeId} {cs : Array Value} (h : Blk w g t cs) (i : Nat) : w.cell? ⟨g, i, none⟩ = cs[i]? := cell_of_row w g i cs t (0, 0) h.out
theorem Blk.f_ {w : World} {g : Nat} {t : TypeId} {cs : Array Value} (h : Blk w g t cs) (i : Nat) : w.frozen? ⟨g, i, none⟩ = false := by
  have := h.out
  simp [World.frozen?, this]
theorem Blk.put_ {w : World} {g : Nat} {t : TypeId} {cs : Array Value} (h : Blk w g t cs) (i : Nat) (u : Value) : Blk (w.setCell ⟨g, i, none⟩ u) g t (cs.setIfInBounds i u) := by
  have := h.out
  exact ⟨by simp [World.setCell, Array.getElem?_modify, this]⟩
/-- A reader: its text, where it is, what is wrong. -/
def Rdr (w : World) (g : Nat) (s : ByteArray) (a e : Nat) : Prop := Blk w g 96 #[.string s, .int .i64 (a : Nat), .int .i64 (e : Nat)]
section
variable {w w' : World} {g a e : Nat} {s : ByteArray}
theorem Rdr.lt (h : Rdr w g s a e) : g < w.heap.size := Blk.lt h
theorem Rdr.c0 (h : Rdr w g s a e) : w.cell? ⟨g, 0, none⟩ = some (.string s) := Blk.c_ h 0
theorem Rdr.c1 (h : Rdr w g s a e) : w.cell? ⟨g, 1, none⟩ = some (.int .i64 (a : Nat)) := Blk.c_ h 1
theorem Rdr.c2 (h : Rdr w g s a e) : w.cell? ⟨g, 2, none⟩ = some (.int .i64 (e : Nat)) := Blk.c_ h 2
theorem Rdr.f (h : Rdr w g s a e) (i : Nat) : w.frozen? ⟨g, i, none⟩ = false := Blk.f_ h i
theorem Rdr.on (h : Rdr w g s a e) (hb : Below w.heap.size w w') : Rdr w' g s a e := Blk.on h hb
theorem Rdr.fr {S : Nat → Prop} (h : Rdr w g s a e) (k : Fr S w w') (hg : ¬ S g) : Rdr w' g s a e := k.blk h hg
theorem Rdr.put1 (h : Rdr w g s a e) (b : Nat) : Rdr (w.setCell ⟨g, 1, none⟩ (.int .i64 (b : Nat))) g s b e := Blk.put_ h 1 _
theorem Rdr.put2 (h : Rdr w g s a e) (b : Nat) : Rdr (w.setCell ⟨g, 2, none⟩ (.int .i64 (b : Nat))) g s a b := Blk.put_ h 2 _
end
abbrev vr (g : Nat) : Value := .pointer (some ⟨g, 0, none⟩)
/-- The byte that comes: 0 at the end, and where something is wrong. -/
def D.nb (l : List Nat) (a e : Nat) : Nat := if e = 0 then l.getD a 0 else 0
theorem D.nb_dead {l : List Nat} {a e : Nat} (h : e ≠ 0) : D.nb l a e = 0 := if_neg h
theorem D.nb_live {l : List Nat} {a : Nat} : D.nb l a 0 = l.getD a 0 := if_pos rfl
theorem next_any (s : ByteArray) (g a e : Nat) (w : World) (h : Rdr w g s a e) (ha : a ≤ s.size) : Calls Tryz.prog 80 #[vr g] w fun x w' => x = .returned (.int .u8 (D.nb (D.ns s) a e : Nat)) ∧ Below w.heap.size w w' := by
  have c0 := h.c0
  have c1 := h.c1
  have c2 := h.c2
  have hlen := D.ns_len s
  by_cases he : e = 0
  · subst he
    by_cases hlt : a < s.size
    · have hx : D.nb (D.ns s) a 0 = s[a].toNat := by
        rw [D.nb_live, List.getD, ns_get hlt]; rfl
      have hI : (a : Int) < s.size := by omega
      have hne : ((a : Int) == (s.size : Int)) = false := by simp; omega
      rw [hx]
      clear hx h
      go_enter Tryz.func80, Tryz.ntmps80
      go_wp2
      go_quiet (fail)
      go_wp2
      go_quiet (fail)
      go_wp2
      go_ret
      exact ⟨rfl, ⟨rfl, rfl, rfl, Nat.le_refl _, fun _ _ => rfl⟩⟩
    · have hx : D.nb (D.ns s) a 0 = 0 := by
        rw [D.nb_live, List.getD, List.getElem?_eq_none (by omega)]; rfl
      have hne : ((a : Int) == (s.size : Int)) = true := by simp; omega
      rw [hx]
      clear hx h
      go_enter Tryz.func80, Tryz.ntmps80
      go_wp2
      go_quiet (fail)
      go_wp2
      go_ret
      exact ⟨rfl, ⟨rfl, rfl, rfl, Nat.le_refl _, fun _ _ => rfl⟩⟩
  · rw [D.nb_dead he]
    have hne : ((e : Int) != 0) = true := by simp; omega
    clear h
    go_enter Tryz.func80, Tryz.ntmps80
    go_wp2
    go_quiet (fail)
    go_wp2
    go_ret
    exact ⟨rfl, ⟨rfl, rfl, rfl, Nat.le_refl _, fun _ _ => rfl⟩⟩
/-- What stands behind a fault that is told. -/
def D.fl (a e b f : Nat) : Nat × Nat := if e = 0 then (b, f) else (a, e)
theorem fail_any (s : ByteArray) (g a e b f : Nat) (w : World) (h : Rdr w g s a e) (z : Int) (hz : z = f) : Calls Tryz.prog 39 #[vr g, .int .i64 (b : Nat), .int .i64 z] w fun x w' => x = .returned (.tuple #[]) ∧ Rdr w' g s (D.fl a e b f).1 (D.fl a e b f).2 ∧ Fr (· = g) w w' := by
  subst hz
  have c2 := h.c2
  have c1 := h.c1
  have ff := h.f
  have hl := h.lt
  by_cases he : e = 0
  · subst he
    have h1 := (h.put1 b).put2 f
    have H1 := Lib.hid h1
    clear h1 h
    go_enter Tryz.func39, Tryz.ntmps39
    go_wp2
    go_end0
    exact ⟨rfl, H1.out, ((Fr.refl (· = g) w).setCell _ _ fun _ => rfl).setCell _ _ fun _ => rfl⟩
  · have hne : ((e : Int) == 0) = false := by simp; omega
    have H1 : Hid (Rdr w g s (D.fl a e b f).1 (D.fl a e b f).2) := Lib.hid (by unfold D.fl; rw [if_neg he]; exact h)
    clear h
    go_enter Tryz.func39, Tryz.ntmps39
    go_wp2
    go_end0
    exact ⟨rfl, H1.out, Fr.refl _ _⟩
/-- Behind a byte that must come. -/
def D.tk (l : List Nat) (c a e : Nat) : Nat × Nat := if D.nb l a e = c then (a + 1, e) else D.fl a e a 3
theorem take_any (s : ByteArray) (g a e c : Nat) (w : World) (h : Rdr w g s a e) (ha : a ≤ s.size) (hs : s.size ≤ 1000) (hc : c < 256) (z : Int) (hz : z = c) : Calls Tryz.prog 82 #[vr g, .int .u8 z] w fun x w' => x = .returned (.tuple #[]) ∧ Rdr w' g s (D.tk (D.ns s) c a e).1 (D.tk (D.ns s) c a e).2 ∧ Fr (· = g) w w' := by
  subst hz
  have cN := Lib.hid (next_any s g a e w h ha)
  have cF := Lib.hid (fun W (hW : Rdr W g s a e) => fail_any s g a e a 3 W hW 3 rfl)
  obtain ⟨l, hl⟩ : ∃ l, D.ns s = l := ⟨_, rfl⟩
  rw [hl] at cN ⊢
  obtain ⟨x, hx⟩ : ∃ x, D.nb l a e = x := ⟨_, rfl⟩
  have HH := Lib.hid h
  unfold D.tk
  rw [hx] at cN ⊢
  clear h hl hx
  by_cases hq : x = c
  · subst hq
    rw [if_pos rfl]
    have t : ((x : Int) != (x : Int)) = false := by simp
    go_enter Tryz.func82, Tryz.ntmps82
    go_wp2_with (go_at_call 80; (with_reducible refine cN.out.mono ?_); rintro y w1 ⟨rfl, b1⟩; have H1 := Lib.hid (HH.out.on b1); have c1 := H1.out.c1; have c2 := H1.out.c2; have ff := H1.out.f; have hl := H1.out.lt; have B1 := Lib.hid b1; clear b1)
    go_end0
    refine ⟨rfl, ?_, (Fr.of_below (S := (· = g)) B1.out (Nat.le_refl _)).setCell _ _ fun _ => rfl⟩
    have h2 := H1.out.put1 (a + 1)
    have e1 : ((a + 1 : Nat) : Int) = (a : Int) + 1 := by omega
    rw [e1] at h2
    simpa using h2
  · rw [if_neg hq]
    have t : ((x : Int) != (c : Int)) = true := by simp; omega
    go_enter Tryz.func82, Tryz.ntmps82
    go_wp2_with (first
      | (go_at_call 80; (with_reducible refine cN.out.mono ?_); rintro y w1 ⟨rfl, b1⟩; have H1 := Lib.hid (HH.out.on b1); have c1 := H1.out.c1; have c2 := H1.out.c2; have ff := H1.out.f; have hl := H1.out.lt; have B1 := Lib.hid b1; clear b1)
      | (go_at_call 39; (with_reducible refine (cF.out _ H1.out).mono ?_); rintro y w2 ⟨rfl, h2, f2⟩))
    refine bodyPost_ret (v := .tuple #[]) (by simp [results, Tryz.results82, go_sem]) rfl ?_
    exact ⟨rfl, h2, (Fr.of_below (S := (· = g)) B1.out (Nat.le_refl _)).step f2⟩
def cln_ren : Go.Shelf.Ren := ⟨fun | 25 => 139 | n => n, fun | 37 => 103 | 47 => 181 | 9 => 9 | 4 => 4 | 3 => 3 | 5 => 5 | 0 => 0 | n => n, fun n => n⟩
theorem cln_lays : Go.Proofs.LaysPu.n25 Tryz.prog cln_ren := {
  mixed := by kernel_rfl
  f25 := Tryz.func139.trans (congrArg some (by kernel_rfl))
  t0 := by kernel_rfl
  a0 := fun _ => by kernel_rfl
  z0 := fun _ => by kernel_rfl
  v0 := fun _ => by kernel_rfl
  i0 := by kernel_rfl
  t3 := Tryz.underlying3
  a3 := Tryz.isAgg3
  z3 := Tryz.sizeOf3
  v3 := Tryz.zeroValue3
  i3 := by kernel_rfl
  t4 := Tryz.underlying4
  a4 := Tryz.isAgg4
  z4 := Tryz.sizeOf4
  v4 := Tryz.zeroValue4
  i4 := by kernel_rfl
  t5 := Tryz.underlying5
  a5 := Tryz.isAgg5
  z5 := Tryz.sizeOf5
  v5 := Tryz.zeroValue5
  i5 := by kernel_rfl
  t9 := Tryz.underlying9
  a9 := Tryz.isAgg9
  z9 := Tryz.sizeOf9
  v9 := Tryz.zeroValue9
  i9 := by kernel_rfl
  t37 := Tryz.underlying103
  a37 := Tryz.isAgg103
  z37 := Tryz.sizeOf103
  v37 := Tryz.zeroValue103
  i37 := by kernel_rfl
  t47 := Tryz.underlying181
  a47 := Tryz.isAgg181
  z47 := Tryz.sizeOf181
  v47 := Tryz.zeroValue181
  i47 := by kernel_rfl }
theorem clone_any (s : ByteArray) (w : World) (hs : s.size ≤ 1000000) : Calls Tryz.prog 94 #[.string s] w fun e w' => e = .returned (.string s) ∧ Below w.heap.size w w' := by
  have cI : Hid (Calls Tryz.prog 139 #[.string s] w fun e w' => e = .returned (.string s) ∧ Below w.heap.size w w') := Lib.hid (AnyPu.stringslite_Clone cln_lays s w (by omega))
  go_enter Tryz.func94, Tryz.ntmps94
  go_wp2_with (go_at_call 139; (with_reducible refine cI.out.mono ?_); rintro y w1 ⟨rfl, b1⟩)
  go_ret
  exact ⟨rfl, b1⟩
end Go.Proofs.YtohhfcfnclafdaaGreatDoor
namespace Go.Proofs.YtohhfcfnclafdaaGreatDoor
open Go.Shelf Go.RowKit
def lays158_ren : Go.Shelf.Ren := ⟨fun | 158 => 62 | 165 => 106 | 166 => 86 | 167 => 87 | 169 => 43 | 230 => 107 | 203 => 109 | 240 => 134 | 241 => 149 | 197 => 150 | 118 => 151 | 168 => 152 | 270 => 153 | 262 => 154 | 276 => 181 | 277 => 196 | 260 => 197 | 242 => 198 | 313 => 199 | 278 => 224 | 274 => 225 | 275 => 226 | n => n, fun | 9 => 9 | 4 => 4 | 3 => 3 | 5 => 5 | 72 => 105 | 0 => 0 | 76 => 177 | 75 => 176 | 107 => 198 | 70 => 102 | 20 => 20 | 37 => 103 | 127 => 181 | 21 => 21 | 105 => 231 | 164 => 257 | 162 => 275 | 203 => 273 | 119 => 291 | 46 => 166 | 139 => 294 | 138 => 293 | 51 => 268 | 160 => 295 | 208 => 320 | 206 => 318 | 80 => 108 | n => n, fun | 13 => 2 | 3 => 4 | 4 => 5 | n => n⟩
theorem lays158 : Go.Proofs.Lays.n158 Tryz.prog lays158_ren := {
  mixed := by kernel_rfl
  f118 := Tryz.func151.trans (congrArg some (by kernel_rfl))
  f158 := Tryz.func62.trans (congrArg some (by kernel_rfl))
  f165 := Tryz.func106.trans (congrArg some (by kernel_rfl))
  f166 := Tryz.func86.trans (congrArg some (by kernel_rfl))
  f167 := Tryz.func87.trans (congrArg some (by kernel_rfl))
  f168 := Tryz.func152.trans (congrArg some (by kernel_rfl))
  f169 := Tryz.func43.trans (congrArg some (by kernel_rfl))
  f197 := Tryz.func150.trans (congrArg some (by kernel_rfl))
  f203 := Tryz.func109.trans (congrArg some (by kernel_rfl))
  f230 := Tryz.func107.trans (congrArg some (by kernel_rfl))
  f240 := Tryz.func134.trans (congrArg some (by kernel_rfl))
  f241 := Tryz.func149.trans (congrArg some (by kernel_rfl))
  f242 := Tryz.func198.trans (congrArg some (by kernel_rfl))
  f260 := Tryz.func197.trans (congrArg some (by kernel_rfl))
  f262 := Tryz.func154.trans (congrArg some (by kernel_rfl))
  f270 := Tryz.func153.trans (congrArg some (by kernel_rfl))
  f274 := Tryz.func225.trans (congrArg some (by kernel_rfl))
  f275 := Tryz.func226.trans (congrArg some (by kernel_rfl))
  f276 := Tryz.func181.trans (congrArg some (by kernel_rfl))
  f277 := Tryz.func196.trans (congrArg some (by kernel_rfl))
  f278 := Tryz.func224.trans (congrArg some (by kernel_rfl))
  f313 := Tryz.func199.trans (congrArg some (by kernel_rfl))
  t0 := Tryz.underlying0
  a0 := Tryz.isAgg0
  z0 := Tryz.sizeOf0
  v0 := Tryz.zeroValue0
  t3 := Tryz.underlying3
  a3 := Tryz.isAgg3
  z3 := Tryz.sizeOf3
  v3 := Tryz.zeroValue3
  t4 := Tryz.underlying4
  a4 := Tryz.isAgg4
  z4 := Tryz.sizeOf4
  v4 := Tryz.zeroValue4
  t5 := Tryz.underlying5
  a5 := Tryz.isAgg5
  z5 := Tryz.sizeOf5
  v5 := Tryz.zeroValue5
  t9 := Tryz.underlying9
  a9 := Tryz.isAgg9
  z9 := Tryz.sizeOf9
  v9 := Tryz.zeroValue9
  t20 := Tryz.underlying20
  a20 := Tryz.isAgg20
  z20 := Tryz.sizeOf20
  v20 := Tryz.zeroValue20
  t21 := Tryz.underlying21
  a21 := Tryz.isAgg21
  z21 := Tryz.sizeOf21
  v21 := Tryz.zeroValue21
  t37 := Tryz.underlying103
  a37 := Tryz.isAgg103
  z37 := Tryz.sizeOf103
  v37 := Tryz.zeroValue103
  t46 := Tryz.underlying166
  a46 := Tryz.isAgg166
  z46 := Tryz.sizeOf166
  v46 := Tryz.zeroValue166
  t51 := Tryz.underlying268
  a51 := Tryz.isAgg268
  z51 := Tryz.sizeOf268
  v51 := Tryz.zeroValue268
  t70 := Tryz.underlying102
  a70 := Tryz.isAgg102
  z70 := Tryz.sizeOf102
  v70 := Tryz.zeroValue102
  t72 := Tryz.underlying105
  a72 := Tryz.isAgg105
  z72 := Tryz.sizeOf105
  v72 := Tryz.zeroValue105
  t75 := Tryz.underlying176
  a75 := Tryz.isAgg176
  z75 := Tryz.sizeOf176
  v75 := Tryz.zeroValue176
  t76 := Tryz.underlying177
  a76 := Tryz.isAgg177
  z76 := Tryz.sizeOf177
  v76 := Tryz.zeroValue177
  t105 := Tryz.underlying231
  a105 := Tryz.isAgg231
  z105 := Tryz.sizeOf231
  v105 := Tryz.zeroValue231
  t107 := Tryz.underlying198
  a107 := Tryz.isAgg198
  z107 := Tryz.sizeOf198
  v107 := Tryz.zeroValue198
  t119 := Tryz.underlying291
  a119 := Tryz.isAgg291
  z119 := Tryz.sizeOf291
  t127 := Tryz.underlying181
  a127 := Tryz.isAgg181
  z127 := Tryz.sizeOf181
  v127 := Tryz.zeroValue181
  t138 := Tryz.underlying293
  a138 := Tryz.isAgg293
  z138 := Tryz.sizeOf293
  v138 := Tryz.zeroValue293
  t139 := Tryz.underlying294
  a139 := Tryz.isAgg294
  z139 := Tryz.sizeOf294
  v139 := Tryz.zeroValue294
  t160 := Tryz.underlying295
  a160 := Tryz.isAgg295
  z160 := Tryz.sizeOf295
  v160 := Tryz.zeroValue295
  t162 := Tryz.underlying275
  a162 := Tryz.isAgg275
  z162 := Tryz.sizeOf275
  v162 := Tryz.zeroValue275
  t164 := Tryz.underlying257
  a164 := Tryz.isAgg257
  z164 := Tryz.sizeOf257
  v164 := Tryz.zeroValue257
  t203 := Tryz.underlying273
  a203 := Tryz.isAgg273
  z203 := Tryz.sizeOf273
  v203 := Tryz.zeroValue273
  t206 := Tryz.underlying318
  a206 := Tryz.isAgg318
  z206 := Tryz.sizeOf318
  v206 := Tryz.zeroValue318
  t208 := Tryz.underlying320
  a208 := Tryz.isAgg320
  z208 := Tryz.sizeOf320
  v208 := Tryz.zeroValue320
  g3 := by kernel_rfl
  g4 := by kernel_rfl
  g13 := by kernel_rfl }
theorem Builder_Extra_158 : Builder.Extra Tryz.prog lays158_ren := {
  sizeBuilder := by kernel_rfl
  liesBuilder := by kernel_rfl
  t5 := Tryz.underlying5
  a5 := Tryz.isAgg5
  z5 := Tryz.sizeOf5
  v5 := Tryz.zeroValue5
  infoByte := by kernel_rfl
  cellsByte := by kernel_rfl
  sizeByte := by kernel_rfl
  neB5 := by decide }
def lays159_ren : Go.Shelf.Ren := ⟨fun | 159 => 60 | 165 => 106 | 166 => 86 | 167 => 87 | 169 => 43 | 230 => 107 | 204 => 108 | 240 => 134 | 241 => 149 | 197 => 150 | 118 => 151 | 168 => 152 | 270 => 153 | 262 => 154 | 276 => 181 | 277 => 196 | 260 => 197 | 242 => 198 | 313 => 199 | 278 => 224 | 274 => 225 | 275 => 226 | n => n, fun | 9 => 9 | 4 => 4 | 3 => 3 | 5 => 5 | 72 => 105 | 0 => 0 | 76 => 177 | 75 => 176 | 107 => 198 | 70 => 102 | 20 => 20 | 37 => 103 | 127 => 181 | 21 => 21 | 105 => 231 | 164 => 257 | 162 => 275 | 203 => 273 | 119 => 291 | 46 => 166 | 139 => 294 | 138 => 293 | 51 => 268 | 160 => 295 | 208 => 320 | 206 => 318 | 80 => 108 | n => n, fun | 13 => 2 | 3 => 4 | 4 => 5 | n => n⟩
theorem lays159 : Go.Proofs.Lays.n159 Tryz.prog lays159_ren := {
  mixed := by kernel_rfl
  f118 := Tryz.func151.trans (congrArg some (by kernel_rfl))
  f159 := Tryz.func60.trans (congrArg some (by kernel_rfl))
  f165 := Tryz.func106.trans (congrArg some (by kernel_rfl))
  f166 := Tryz.func86.trans (congrArg some (by kernel_rfl))
  f167 := Tryz.func87.trans (congrArg some (by kernel_rfl))
  f168 := Tryz.func152.trans (congrArg some (by kernel_rfl))
  f169 := Tryz.func43.trans (congrArg some (by kernel_rfl))
  f197 := Tryz.func150.trans (congrArg some (by kernel_rfl))
  f204 := Tryz.func108.trans (congrArg some (by kernel_rfl))
  f230 := Tryz.func107.trans (congrArg some (by kernel_rfl))
  f240 := Tryz.func134.trans (congrArg some (by kernel_rfl))
  f241 := Tryz.func149.trans (congrArg some (by kernel_rfl))
  f242 := Tryz.func198.trans (congrArg some (by kernel_rfl))
  f260 := Tryz.func197.trans (congrArg some (by kernel_rfl))
  f262 := Tryz.func154.trans (congrArg some (by kernel_rfl))
  f270 := Tryz.func153.trans (congrArg some (by kernel_rfl))
  f274 := Tryz.func225.trans (congrArg some (by kernel_rfl))
  f275 := Tryz.func226.trans (congrArg some (by kernel_rfl))
  f276 := Tryz.func181.trans (congrArg some (by kernel_rfl))
  f277 := Tryz.func196.trans (congrArg some (by kernel_rfl))
  f278 := Tryz.func224.trans (congrArg some (by kernel_rfl))
  f313 := Tryz.func199.trans (congrArg some (by kernel_rfl))
  t0 := Tryz.underlying0
  a0 := Tryz.isAgg0
  z0 := Tryz.sizeOf0
  v0 := Tryz.zeroValue0
  t3 := Tryz.underlying3
  a3 := Tryz.isAgg3
  z3 := Tryz.sizeOf3
  v3 := Tryz.zeroValue3
  t4 := Tryz.underlying4
  a4 := Tryz.isAgg4
  z4 := Tryz.sizeOf4
  v4 := Tryz.zeroValue4
  t5 := Tryz.underlying5
  a5 := Tryz.isAgg5
  z5 := Tryz.sizeOf5
  v5 := Tryz.zeroValue5
  t9 := Tryz.underlying9
  a9 := Tryz.isAgg9
  z9 := Tryz.sizeOf9
  v9 := Tryz.zeroValue9
  t20 := Tryz.underlying20
  a20 := Tryz.isAgg20
  z20 := Tryz.sizeOf20
  v20 := Tryz.zeroValue20
  t21 := Tryz.underlying21
  a21 := Tryz.isAgg21
  z21 := Tryz.sizeOf21
  v21 := Tryz.zeroValue21
  t37 := Tryz.underlying103
  a37 := Tryz.isAgg103
  z37 := Tryz.sizeOf103
  v37 := Tryz.zeroValue103
  t46 := Tryz.underlying166
  a46 := Tryz.isAgg166
  z46 := Tryz.sizeOf166
  v46 := Tryz.zeroValue166
  t51 := Tryz.underlying268
  a51 := Tryz.isAgg268
  z51 := Tryz.sizeOf268
  v51 := Tryz.zeroValue268
  t70 := Tryz.underlying102
  a70 := Tryz.isAgg102
  z70 := Tryz.sizeOf102
  v70 := Tryz.zeroValue102
  t72 := Tryz.underlying105
  a72 := Tryz.isAgg105
  z72 := Tryz.sizeOf105
  v72 := Tryz.zeroValue105
  t75 := Tryz.underlying176
  a75 := Tryz.isAgg176
  z75 := Tryz.sizeOf176
  v75 := Tryz.zeroValue176
  t76 := Tryz.underlying177
  a76 := Tryz.isAgg177
  z76 := Tryz.sizeOf177
  v76 := Tryz.zeroValue177
  t105 := Tryz.underlying231
  a105 := Tryz.isAgg231
  z105 := Tryz.sizeOf231
  v105 := Tryz.zeroValue231
  t107 := Tryz.underlying198
  a107 := Tryz.isAgg198
  z107 := Tryz.sizeOf198
  v107 := Tryz.zeroValue198
  t119 := Tryz.underlying291
  a119 := Tryz.isAgg291
  z119 := Tryz.sizeOf291
  t127 := Tryz.underlying181
  a127 := Tryz.isAgg181
  z127 := Tryz.sizeOf181
  v127 := Tryz.zeroValue181
  t138 := Tryz.underlying293
  a138 := Tryz.isAgg293
  z138 := Tryz.sizeOf293
  v138 := Tryz.zeroValue293
  t139 := Tryz.underlying294
  a139 := Tryz.isAgg294
  z139 := Tryz.sizeOf294
  v139 := Tryz.zeroValue294
  t160 := Tryz.underlying295
  a160 := Tryz.isAgg295
  z160 := Tryz.sizeOf295
  v160 := Tryz.zeroValue295
  t162 := Tryz.underlying275
  a162 := Tryz.isAgg275
  z162 := Tryz.sizeOf275
  v162 := Tryz.zeroValue275
  t164 := Tryz.underlying257
  a164 := Tryz.isAgg257
  z164 := Tryz.sizeOf257
  v164 := Tryz.zeroValue257
  t203 := Tryz.underlying273
  a203 := Tryz.isAgg273
  z203 := Tryz.sizeOf273
  v203 := Tryz.zeroValue273
  t206 := Tryz.underlying318
  a206 := Tryz.isAgg318
  z206 := Tryz.sizeOf318
  v206 := Tryz.zeroValue318
  t208 := Tryz.underlying320
  a208 := Tryz.isAgg320
  z208 := Tryz.sizeOf320
  v208 := Tryz.zeroValue320
  g3 := by kernel_rfl
  g4 := by kernel_rfl
  g13 := by kernel_rfl }
theorem Builder_Extra_159 : Builder.Extra Tryz.prog lays159_ren := {
  sizeBuilder := by kernel_rfl
  liesBuilder := by kernel_rfl
  t5 := Tryz.underlying5
  a5 := Tryz.isAgg5
  z5 := Tryz.sizeOf5
  v5 := Tryz.zeroValue5
  infoByte := by kernel_rfl
  cellsByte := by kernel_rfl
  sizeByte := by kernel_rfl
  neB5 := by decide }
def lays156_ren : Go.Shelf.Ren := ⟨fun | 156 => 241 | 165 => 106 | 166 => 86 | 169 => 43 | 240 => 134 | 241 => 149 | 276 => 181 | 277 => 196 | n => n, fun | 31 => 39 | 9 => 9 | 3 => 3 | 4 => 4 | 0 => 0 | 20 => 20 | 72 => 105 | 76 => 177 | 70 => 102 | 37 => 103 | 75 => 176 | 127 => 181 | 164 => 257 | 5 => 5 | 80 => 108 | n => n, fun | n => n⟩
theorem lays156 : Go.Proofs.Lays.n156 Tryz.prog lays156_ren := {
  mixed := by kernel_rfl
  f156 := Tryz.func241.trans (congrArg some (by kernel_rfl))
  f165 := Tryz.func106.trans (congrArg some (by kernel_rfl))
  f166 := Tryz.func86.trans (congrArg some (by kernel_rfl))
  f169 := Tryz.func43.trans (congrArg some (by kernel_rfl))
  f240 := Tryz.func134.trans (congrArg some (by kernel_rfl))
  f241 := Tryz.func149.trans (congrArg some (by kernel_rfl))
  f276 := Tryz.func181.trans (congrArg some (by kernel_rfl))
  f277 := Tryz.func196.trans (congrArg some (by kernel_rfl))
  t0 := Tryz.underlying0
  a0 := Tryz.isAgg0
  z0 := Tryz.sizeOf0
  v0 := Tryz.zeroValue0
  t3 := Tryz.underlying3
  a3 := Tryz.isAgg3
  z3 := Tryz.sizeOf3
  v3 := Tryz.zeroValue3
  t4 := Tryz.underlying4
  a4 := Tryz.isAgg4
  z4 := Tryz.sizeOf4
  v4 := Tryz.zeroValue4
  t9 := Tryz.underlying9
  a9 := Tryz.isAgg9
  z9 := Tryz.sizeOf9
  v9 := Tryz.zeroValue9
  t20 := Tryz.underlying20
  a20 := Tryz.isAgg20
  z20 := Tryz.sizeOf20
  v20 := Tryz.zeroValue20
  t31 := Tryz.underlying39
  a31 := Tryz.isAgg39
  z31 := Tryz.sizeOf39
  v31 := Tryz.zeroValue39
  t37 := Tryz.underlying103
  a37 := Tryz.isAgg103
  z37 := Tryz.sizeOf103
  v37 := Tryz.zeroValue103
  t70 := Tryz.underlying102
  a70 := Tryz.isAgg102
  z70 := Tryz.sizeOf102
  v70 := Tryz.zeroValue102
  t72 := Tryz.underlying105
  a72 := Tryz.isAgg105
  z72 := Tryz.sizeOf105
  v72 := Tryz.zeroValue105
  t75 := Tryz.underlying176
  a75 := Tryz.isAgg176
  z75 := Tryz.sizeOf176
  v75 := Tryz.zeroValue176
  t76 := Tryz.underlying177
  a76 := Tryz.isAgg177
  z76 := Tryz.sizeOf177
  v76 := Tryz.zeroValue177
  t127 := Tryz.underlying181
  a127 := Tryz.isAgg181
  z127 := Tryz.sizeOf181
  v127 := Tryz.zeroValue181
  t164 := Tryz.underlying257
  a164 := Tryz.isAgg257
  z164 := Tryz.sizeOf257
  v164 := Tryz.zeroValue257 }
theorem Builder_Extra_156 : Builder.Extra Tryz.prog lays156_ren := {
  sizeBuilder := by kernel_rfl
  liesBuilder := by kernel_rfl
  t5 := Tryz.underlying5
  a5 := Tryz.isAgg5
  z5 := Tryz.sizeOf5
  v5 := Tryz.zeroValue5
  infoByte := by kernel_rfl
  cellsByte := by kernel_rfl
  sizeByte := by kernel_rfl
  neB5 := by decide }
def lays147_ren : Go.Shelf.Ren := ⟨fun | 147 => 58 | 221 => 103 | 268 => 146 | 138 => 147 | 143 => 148 | 195 => 193 | 197 => 150 | 218 => 194 | 219 => 195 | 260 => 197 | 217 => 220 | 225 => 221 | 224 => 222 | 267 => 223 | 266 => 244 | 314 => 245 | n => n, fun | 9 => 9 | 3 => 3 | 31 => 39 | 4 => 4 | 0 => 0 | 105 => 231 | 21 => 21 | 5 => 5 | 46 => 166 | 119 => 291 | 139 => 294 | 138 => 293 | 146 => 315 | 51 => 268 | n => n, fun | 1 => 1 | 3 => 4 | 4 => 5 | n => n⟩
theorem lays147 : Go.Proofs.Lays.n147 Tryz.prog lays147_ren := {
  mixed := by kernel_rfl
  f138 := Tryz.func147.trans (congrArg some (by kernel_rfl))
  f143 := Tryz.func148.trans (congrArg some (by kernel_rfl))
  f147 := Tryz.func58.trans (congrArg some (by kernel_rfl))
  f195 := Tryz.func193.trans (congrArg some (by kernel_rfl))
  f197 := Tryz.func150.trans (congrArg some (by kernel_rfl))
  f217 := Tryz.func220.trans (congrArg some (by kernel_rfl))
  f218 := Tryz.func194.trans (congrArg some (by kernel_rfl))
  f219 := Tryz.func195.trans (congrArg some (by kernel_rfl))
  f221 := Tryz.func103.trans (congrArg some (by kernel_rfl))
  f224 := Tryz.func222.trans (congrArg some (by kernel_rfl))
  f225 := Tryz.func221.trans (congrArg some (by kernel_rfl))
  f260 := Tryz.func197.trans (congrArg some (by kernel_rfl))
  f266 := Tryz.func244.trans (congrArg some (by kernel_rfl))
  f267 := Tryz.func223.trans (congrArg some (by kernel_rfl))
  f268 := Tryz.func146.trans (congrArg some (by kernel_rfl))
  f314 := Tryz.func245.trans (congrArg some (by kernel_rfl))
  t0 := Tryz.underlying0
  a0 := Tryz.isAgg0
  z0 := Tryz.sizeOf0
  v0 := Tryz.zeroValue0
  t3 := Tryz.underlying3
  a3 := Tryz.isAgg3
  z3 := Tryz.sizeOf3
  v3 := Tryz.zeroValue3
  t4 := Tryz.underlying4
  a4 := Tryz.isAgg4
  z4 := Tryz.sizeOf4
  v4 := Tryz.zeroValue4
  t5 := Tryz.underlying5
  a5 := Tryz.isAgg5
  z5 := Tryz.sizeOf5
  v5 := Tryz.zeroValue5
  t9 := Tryz.underlying9
  a9 := Tryz.isAgg9
  z9 := Tryz.sizeOf9
  v9 := Tryz.zeroValue9
  t21 := Tryz.underlying21
  a21 := Tryz.isAgg21
  z21 := Tryz.sizeOf21
  v21 := Tryz.zeroValue21
  t31 := Tryz.underlying39
  a31 := Tryz.isAgg39
  z31 := Tryz.sizeOf39
  v31 := Tryz.zeroValue39
  t46 := Tryz.underlying166
  a46 := Tryz.isAgg166
  z46 := Tryz.sizeOf166
  v46 := Tryz.zeroValue166
  t51 := Tryz.underlying268
  a51 := Tryz.isAgg268
  z51 := Tryz.sizeOf268
  v51 := Tryz.zeroValue268
  t105 := Tryz.underlying231
  a105 := Tryz.isAgg231
  z105 := Tryz.sizeOf231
  v105 := Tryz.zeroValue231
  t119 := Tryz.underlying291
  a119 := Tryz.isAgg291
  z119 := Tryz.sizeOf291
  t138 := Tryz.underlying293
  a138 := Tryz.isAgg293
  z138 := Tryz.sizeOf293
  v138 := Tryz.zeroValue293
  t139 := Tryz.underlying294
  a139 := Tryz.isAgg294
  z139 := Tryz.sizeOf294
  v139 := Tryz.zeroValue294
  t146 := Tryz.underlying315
  a146 := Tryz.isAgg315
  z146 := Tryz.sizeOf315
  v146 := Tryz.zeroValue315
  g1 := by kernel_rfl
  g3 := by kernel_rfl
  g4 := by kernel_rfl }
def lays185_ren : Go.Shelf.Ren := ⟨fun | 185 => 242 | 187 => 253 | 115 => 254 | 253 => 255 | 224 => 222 | 254 => 256 | 255 => 260 | 291 => 261 | n => n, fun | 37 => 103 | 3 => 3 | 4 => 4 | 0 => 0 | 5 => 5 | 46 => 166 | 9 => 9 | 146 => 315 | 51 => 268 | n => n, fun | 1 => 1 | n => n⟩
theorem lays185 : Go.Proofs.Lays.n185 Tryz.prog lays185_ren := {
  mixed := by kernel_rfl
  f115 := Tryz.func254.trans (congrArg some (by kernel_rfl))
  f185 := Tryz.func242.trans (congrArg some (by kernel_rfl))
  f187 := Tryz.func253.trans (congrArg some (by kernel_rfl))
  f224 := Tryz.func222.trans (congrArg some (by kernel_rfl))
  f253 := Tryz.func255.trans (congrArg some (by kernel_rfl))
  f254 := Tryz.func256.trans (congrArg some (by kernel_rfl))
  f255 := Tryz.func260.trans (congrArg some (by kernel_rfl))
  f291 := Tryz.func261.trans (congrArg some (by kernel_rfl))
  t0 := Tryz.underlying0
  a0 := Tryz.isAgg0
  z0 := Tryz.sizeOf0
  v0 := Tryz.zeroValue0
  t3 := Tryz.underlying3
  a3 := Tryz.isAgg3
  z3 := Tryz.sizeOf3
  v3 := Tryz.zeroValue3
  t4 := Tryz.underlying4
  a4 := Tryz.isAgg4
  z4 := Tryz.sizeOf4
  v4 := Tryz.zeroValue4
  t5 := Tryz.underlying5
  a5 := Tryz.isAgg5
  z5 := Tryz.sizeOf5
  v5 := Tryz.zeroValue5
  t9 := Tryz.underlying9
  a9 := Tryz.isAgg9
  z9 := Tryz.sizeOf9
  v9 := Tryz.zeroValue9
  t37 := Tryz.underlying103
  a37 := Tryz.isAgg103
  z37 := Tryz.sizeOf103
  v37 := Tryz.zeroValue103
  t46 := Tryz.underlying166
  a46 := Tryz.isAgg166
  z46 := Tryz.sizeOf166
  v46 := Tryz.zeroValue166
  t51 := Tryz.underlying268
  a51 := Tryz.isAgg268
  z51 := Tryz.sizeOf268
  v51 := Tryz.zeroValue268
  t146 := Tryz.underlying315
  a146 := Tryz.isAgg315
  z146 := Tryz.sizeOf315
  v146 := Tryz.zeroValue315
  g1 := by kernel_rfl }
def laysSlT4_ren : Go.Shelf.Ren := ⟨fun | 4 => 214 | 5 => 242 | 6 => 253 | 7 => 254 | 8 => 255 | 9 => 222 | 10 => 256 | 11 => 260 | 12 => 261 | n => n, fun | 22 => 103 | 4 => 4 | 3 => 3 | 0 => 0 | 5 => 5 | 29 => 166 | 9 => 9 | 31 => 315 | 30 => 268 | n => n, fun | 0 => 1 | n => n⟩
theorem laysSlT4 : Go.Proofs.SlLaysT.n4 Tryz.prog laysSlT4_ren := {
  mixed := by kernel_rfl
  f4 := Tryz.func214.trans (congrArg some (by kernel_rfl))
  f5 := Tryz.func242.trans (congrArg some (by kernel_rfl))
  f6 := Tryz.func253.trans (congrArg some (by kernel_rfl))
  f7 := Tryz.func254.trans (congrArg some (by kernel_rfl))
  f8 := Tryz.func255.trans (congrArg some (by kernel_rfl))
  f9 := Tryz.func222.trans (congrArg some (by kernel_rfl))
  f10 := Tryz.func256.trans (congrArg some (by kernel_rfl))
  f11 := Tryz.func260.trans (congrArg some (by kernel_rfl))
  f12 := Tryz.func261.trans (congrArg some (by kernel_rfl))
  t0 := Tryz.underlying0
  a0 := Tryz.isAgg0
  z0 := Tryz.sizeOf0
  v0 := Tryz.zeroValue0
  t3 := Tryz.underlying3
  a3 := Tryz.isAgg3
  z3 := Tryz.sizeOf3
  v3 := Tryz.zeroValue3
  t4 := Tryz.underlying4
  a4 := Tryz.isAgg4
  z4 := Tryz.sizeOf4
  v4 := Tryz.zeroValue4
  t5 := Tryz.underlying5
  a5 := Tryz.isAgg5
  z5 := Tryz.sizeOf5
  v5 := Tryz.zeroValue5
  t9 := Tryz.underlying9
  a9 := Tryz.isAgg9
  z9 := Tryz.sizeOf9
  v9 := Tryz.zeroValue9
  t22 := Tryz.underlying103
  a22 := Tryz.isAgg103
  z22 := Tryz.sizeOf103
  v22 := Tryz.zeroValue103
  t29 := Tryz.underlying166
  a29 := Tryz.isAgg166
  z29 := Tryz.sizeOf166
  v29 := Tryz.zeroValue166
  t30 := Tryz.underlying268
  a30 := Tryz.isAgg268
  z30 := Tryz.sizeOf268
  v30 := Tryz.zeroValue268
  t31 := Tryz.underlying315
  a31 := Tryz.isAgg315
  z31 := Tryz.sizeOf315
  v31 := Tryz.zeroValue315
  g0 := by kernel_rfl }
end Go.Proofs.YtohhfcfnclafdaaGreatDoor
set_option linter.unusedVariables false
set_option linter.unusedSimpArgs false
namespace Go.Proofs.YtohhfcfnclafdaaGreatDoor
open Go.RowKit

/-- A name's cells. -/
def nc (x : D.Tg) : Array Value := (bys x.l).toArray
theorem nc_size (x : D.Tg) : (nc x).size = 10 := by simp [nc, bys_len, x.len]
theorem bys_inj {l k : List Nat} (h : bys l = bys k) : l = k := by
  induction l generalizing k with
  | nil => cases k with
    | nil => rfl
    | cons b k => simp [bys] at h
  | cons a l ih => cases k with
    | nil => simp [bys] at h
    | cons b k =>
      simp only [bys, List.map_cons, List.cons.injEq, Value.int.injEq, true_and] at h
      obtain ⟨h1, h2⟩ := h
      rw [ih h2, show a = b by omega]
theorem nc_inj {x y : D.Tg} (h : nc x = nc y) : x = y := D.Tg.eq (bys_inj (by simpa [nc] using h))
theorem nc_one (x : D.Tg) : (nc x).all (·.oneCell') = true := all_oneCell_toArray (bys_one x.l)
theorem nc_zero : nc D.zero = #[.int .u8 0, .int .u8 0, .int .u8 0, .int .u8 0, .int .u8 0, .int .u8 0, .int .u8 0, .int .u8 0, .int .u8 0, .int .u8 0] := rfl

/-- At this address lies this name. -/
def At (w : World) (a : Addr) (x : D.Tg) : Prop := ∀ j u, (bys x.l)[j]? = some u → w.cell? (a.add j) = some u
theorem At.one {w : World} {a : Addr} {x y : D.Tg} (h : At w a x) (k : At w a y) : x = y := by
  refine D.Tg.eq (bys_inj (List.ext_getElem? fun j => ?_))
  by_cases hj : j < 10
  · have e1 : (bys x.l)[j]? = some ((bys x.l)[j]'(by rw [bys_len, x.len]; exact hj)) := List.getElem?_eq_getElem _
    have e2 : (bys y.l)[j]? = some ((bys y.l)[j]'(by rw [bys_len, y.len]; exact hj)) := List.getElem?_eq_getElem _
    have := (h j _ e1).symm.trans (k j _ e2)
    rw [e1, e2, this]
  · rw [List.getElem?_eq_none (by rw [bys_len, x.len]; omega), List.getElem?_eq_none (by rw [bys_len, y.len]; omega)]
open Classical in
/-- The name that lies at an address. -/
noncomputable def rd (w : World) (a : Addr) : Option D.Tg := if h : ∃ x, At w a x then some (Classical.choose h) else none
theorem rd_of {w : World} {a : Addr} {x : D.Tg} (h : At w a x) : rd w a = some x := by
  have hx : ∃ x, At w a x := ⟨x, h⟩
  rw [rd, dif_pos hx, (Classical.choose_spec hx).one h]
theorem at_of {w : World} {a : Addr} {x : D.Tg} (h : rd w a = some x) : At w a x := by
  unfold rd at h
  split at h
  · rename_i hx
    injection h with h
    rw [← h]
    exact Classical.choose_spec hx
  · cases h
theorem At.to {w w' : World} {a : Addr} {x : D.Tg} (h : At w a x) (hk : w'.heap[a.block]? = w.heap[a.block]?) : At w' a x := fun j u hu =>
  (World.cell?_of_block (w := w) (by rw [block_of_add]; exact hk)).trans (h j u hu)
theorem rd_to {w w' : World} {a : Addr} (hk : w'.heap[a.block]? = w.heap[a.block]?) : rd w' a = rd w a := by
  by_cases h : ∃ x, At w a x
  · obtain ⟨x, hx⟩ := h
    rw [rd_of hx, rd_of (hx.to hk)]
  · have h' : ¬ ∃ x, At w' a x := fun ⟨x, hx⟩ => h ⟨x, hx.to hk.symm⟩
    rw [rd, rd, dif_neg h, dif_neg h']
theorem rd_lt {w : World} {a : Addr} {x : D.Tg} (h : rd w a = some x) : a.block < w.heap.size := by
  have e1 : (bys x.l)[0]? = some ((bys x.l)[0]'(by rw [bys_len, x.len]; decide)) := List.getElem?_eq_getElem _
  have := World.block_lt_of_cell? w _ (at_of h 0 _ e1)
  rwa [block_of_add] at this
theorem rd_on {w w' : World} {a : Addr} {x : D.Tg} (h : rd w a = some x) (hb : Below w.heap.size w w') : rd w' a = some x := (rd_to (hb.block _ (rd_lt h))).trans h
theorem rd_blk {w : World} {g : Nat} {t : TypeId} {x : D.Tg} (h : Blk w g t (nc x)) : rd w ⟨g, 0, none⟩ = some x := rd_of fun j u hu => by
  rw [World.news_of_block h.out j u]
  simpa [nc] using hu
theorem rd_new (w : World) (n : Nat) (t : TypeId) (x : D.Tg) (h : n = w.heap.size) : rd (w.alloc (.cells (nc x) t)) ⟨n, 0, none⟩ = some x := by
  subst h
  exact rd_blk (Blk.new w t (nc x))
theorem rd_old (w : World) (a : Addr) (o : Obj) (h : a.block < w.heap.size) : rd (w.alloc o) a = rd w a := rd_to (Below.heap_alloc w o _ h)
theorem rd_drew (w : World) (a : Addr) : rd w.drew a = rd w a := rd_to rfl
theorem rd_drewN (w : World) (a : Addr) (n : Nat) : rd (w.drewN n) a = rd w a := rd_to rfl
/-- The whole name out of its variable. -/
noncomputable def ld (t : TypeId) (v : Value) : Sem Value := Instr.loadAt t v
noncomputable def bad (t : TypeId) (a : Addr) (w : World) : Result Value := (Instr.loadAt t (.pointer (some a))).run Tryz.prog w
theorem ld_a (v : Value) : Instr.loadAt 55 v = ld 55 v := rfl
theorem ld_n (v : Value) : Instr.loadAt 55 v = ld 55 v := rfl
theorem run_load {w : World} {a : Addr} {x : D.Tg} (t : TypeId) (ht : t = 55 ∨ t = 55) (h : At w a x) : (Instr.loadAt t (.pointer (some a))).run Tryz.prog w = .ok (.agg (nc x)) w := by
  have hl := run_loadCells_list (P := Tryz.prog) w a (bys x.l) h
  rw [bys_len, x.len] at hl
  rcases ht with rfl | rfl
  · simp only [Instr.loadAt, Instr.sureAddr, Sem.run_bind, Sem.run_pure, Result.andThen_ok, loadVar, Tryz.isAgg55, Tryz.sizeOf55, if_true, hl]
    rfl
  · simp only [Instr.loadAt, Instr.sureAddr, Sem.run_bind, Sem.run_pure, Result.andThen_ok, loadVar, Tryz.isAgg55, Tryz.sizeOf55, if_true, hl]
    rfl
set_option maxRecDepth 100000 in
theorem run_ld (w : World) (a : Addr) (t : TypeId) (ht : t = 55 ∨ t = 55) : (ld t (.pointer (some a))).run Tryz.prog w = (rd w a).elim (bad t a w) fun x => .ok (.agg (nc x)) w := by
  cases h : rd w a with
  | none => rfl
  | some x => exact run_load t ht (at_of h)
theorem run_ld_a (w : World) (a : Addr) : (ld 55 (.pointer (some a))).run Tryz.prog w = (rd w a).elim (bad 55 a w) fun x => .ok (.agg (nc x)) w := run_ld w a _ (.inl rfl)
theorem run_ld_n (w : World) (a : Addr) : (ld 55 (.pointer (some a))).run Tryz.prog w = (rd w a).elim (bad 55 a w) fun x => .ok (.agg (nc x)) w := run_ld w a _ (.inr rfl)

/-- A whole name into a variable that was made last. -/
noncomputable def st (t : TypeId) (p v : Value) : Sem Unit := Instr.storeAt t p v
theorem st_a (p v : Value) : Instr.storeAt 55 p v = st 55 p v := rfl
theorem st_n (p v : Value) : Instr.storeAt 55 p v = st 55 p v := rfl
theorem run_st_n (w : World) (n : Nat) (x : D.Tg) (h : n = w.heap.size) :
    (st 55 (.pointer (some ⟨n, 0, none⟩)) (.agg (nc x))).run Tryz.prog (w.alloc (.cells #[.int .u8 0, .int .u8 0, .int .u8 0, .int .u8 0, .int .u8 0, .int .u8 0, .int .u8 0, .int .u8 0, .int .u8 0, .int .u8 0] 55)) = .ok () (w.alloc (.cells (nc x) 55)) := by
  subst h
  exact run_storeAt_new (P := Tryz.prog) w 55 _ (nc x) (by rw [nc_size]; kernel_rfl) (by rw [nc_size]; rfl) (nc_one x)

/-- Two names compared. -/
noncomputable def eq10 (t : TypeId) (u v : Value) : Sem Value := binOp .eql t u v
noncomputable def ne10 (t : TypeId) (u v : Value) : Sem Value := binOp .neq t u v
theorem eq_a (u v : Value) : binOp .eql 55 u v = eq10 55 u v := rfl
theorem eq_n (u v : Value) : binOp .eql 55 u v = eq10 55 u v := rfl
theorem ne_a (u v : Value) : binOp .neq 55 u v = ne10 55 u v := rfl
theorem ne_n (u v : Value) : binOp .neq 55 u v = ne10 55 u v := rfl
def sm (x y : D.Tg) : Bool := decide (x = y)

theorem mapM_all {α β : Type} {g : α → Option β} {h : α → β} : ∀ l : List α, (∀ a ∈ l, g a = some (h a)) → l.mapM g = some (l.map h)
  | [], _ => rfl
  | a :: l, hl => by
    rw [List.mapM_cons, hl a (by simp), mapM_all l fun b hb => hl b (by simp [hb])]
    rfl
theorem one_bys {l : List Nat} {i : Nat} (h : i < l.length) : ((bys l).drop i).take 1 = [.int .u8 ((l.getD i 0 : Nat) : Int)] := by
  apply List.ext_getElem?
  intro j
  cases j with
  | zero =>
    rw [List.getElem?_take_of_lt (by omega), List.getElem?_drop, Nat.add_zero]
    simp [bys, List.getElem?_eq_getElem h, List.getD]
  | succ j =>
    rw [List.getElem?_take_eq_none (by omega)]; rfl
theorem keyed_n : Tryz.prog.keyType 55 = true := by kernel_rfl
theorem keyed_a : Tryz.prog.keyType 55 = true := by kernel_rfl
theorem cells_u8 : Tryz.prog.cellsOf 5 = 1 := by kernel_rfl
theorem lits_arr (l : List Nat) (hl : ∀ b ∈ l, b < 256) (n : Nat) (hn : l.length = n) (t : TypeId) (d : Nat) (hu : Tryz.prog.underlying t = some (.array n 5)) (hc : Tryz.prog.cellsOf t = n) : Tryz.prog.keyLits (d + 2) t (bys l) = some ((List.range n).map fun i => [Lit.int .u8 ((l.getD i 0 : Nat) : Int)]).flatten := by
  have hm : (List.range n).mapM (fun i => Tryz.prog.keyLits (d + 1) 5 (((bys l).drop (i * Tryz.prog.cellsOf 5)).take (Tryz.prog.cellsOf 5))) = some ((List.range n).map fun i => [Lit.int .u8 ((l.getD i 0 : Nat) : Int)]) := by
    refine mapM_all _ fun i hi => ?_
    have hi' := List.mem_range.1 hi
    rw [cells_u8, Nat.mul_one, one_bys (by rw [hn]; exact hi')]
    have hb : l.getD i 0 < 256 := by
      rw [List.getD, List.getElem?_eq_getElem (by rw [hn]; exact hi')]
      exact hl _ (List.getElem_mem _)
    obtain ⟨b, hq⟩ : ∃ b, l.getD i 0 = b := ⟨_, rfl⟩
    rw [hq] at hb ⊢
    have hw : (Lit.int .u8 ((b : Nat) : Int)).wf = true := by
      simp [Lit.wf, IntKind.min, IntKind.max, IntKind.bits, IntKind.signed]
      omega
    unfold Program.keyLits
    rw [Tryz.underlying5]
    simp [hw]
  unfold Program.keyLits
  rw [hu]
  simp only [bys_len, hn, hc, if_true, hm, Option.map_some]
theorem key_lits_n (x : D.Tg) (d : Nat) : ∃ l, Tryz.prog.keyLits (d + 3) 55 (bys x.l) = some l := by
  have hl := x.len
  have c26 : Tryz.prog.cellsOf 52 = 3 := by kernel_rfl
  have c27 : Tryz.prog.cellsOf 53 = 4 := by kernel_rfl
  have c29 : Tryz.prog.cellsOf 55 = 10 := by kernel_rfl
  have h1 := lits_arr (x.l.take 3) (fun b hb => x.lt b (List.mem_of_mem_take hb)) 3 (by simp; omega) 52 d Tryz.underlying52 c26
  have h2 := lits_arr ((x.l.drop 3).take 4) (fun b hb => x.lt b (List.mem_of_mem_drop (List.mem_of_mem_take hb))) 4 (by simp; omega) 53 d Tryz.underlying53 c27
  have h3 := lits_arr (x.l.drop 7) (fun b hb => x.lt b (List.mem_of_mem_drop hb)) 3 (by simp; omega) 52 d Tryz.underlying52 c26
  have e3 : (bys (x.l.drop 7)).take 3 = bys (x.l.drop 7) := List.take_of_length_le (by rw [bys_len]; simp; omega)
  rw [← e3] at h3
  simp only [← bys_take, ← bys_drop] at h1 h2 h3
  unfold Program.keyLits
  rw [Tryz.underlying55]
  simp only [bys_len, hl, c29, c26, c27]
  simp [h1, h2, h3, c26, c27]
theorem key_lits (x : D.Tg) (t : TypeId) (d : Nat) (ht : t = 55 ∨ t = 55) : ∃ l, Tryz.prog.keyLits (d + 3) t (bys x.l) = some l := by
  rcases ht with rfl | rfl
  · exact key_lits_n x d
  · exact key_lits_n x d
theorem key_of (x : D.Tg) (t : TypeId) (ht : t = 55 ∨ t = 55) : ∃ l, keyOf Tryz.prog t (.agg (nc x)) = some l := by
  obtain ⟨l, hl⟩ := key_lits x t (Tryz.prog.types.size - 2) ht
  have hs : ((bys x.l).toArray.size == Tryz.prog.cellsOf t) = true := by
    rw [show (bys x.l).toArray.size = 10 from nc_size x]
    rcases ht with rfl | rfl
    · rw [show Tryz.prog.cellsOf 55 = 10 by kernel_rfl]; rfl
    · rw [show Tryz.prog.cellsOf 55 = 10 by kernel_rfl]; rfl
  refine ⟨.string (keyBytes l), ?_⟩
  unfold keyOf
  rcases ht with rfl | rfl
  · rw [Tryz.underlying55]
    simp only [keyed_a, Value.formed, Tryz.underlying55, Value.cells, nc, Bool.true_and, hs, if_true]
    rw [show Tryz.prog.types.size + 1 = Tryz.prog.types.size - 2 + 3 by kernel_rfl, hl]
    rfl
  · rw [Tryz.underlying55]
    simp only [keyed_n, Value.formed, Tryz.underlying55, Value.cells, nc, Bool.true_and, hs, if_true]
    rw [show Tryz.prog.types.size + 1 = Tryz.prog.types.size - 2 + 3 by kernel_rfl, hl]
    rfl
theorem laid_out : laidOutB Tryz.prog = true := by kernel_rfl
theorem law_n : Maps.Keyed Tryz.prog 55 := Maps.Keyed.of_law (deep_law_laid laid_out (m := 4) (by omega) (of_decide_eq_true (by kernel_rfl)) (by kernel_rfl) (by rw [Tryz.underlying55]))
theorem law_a : Maps.Keyed Tryz.prog 55 := Maps.Keyed.of_law (deep_law_laid laid_out (m := 4) (by omega) (of_decide_eq_true (by kernel_rfl)) (by kernel_rfl) (by rw [Tryz.underlying55]))
set_option maxRecDepth 100000 in
theorem run_equal (t : TypeId) (ht : t = 55 ∨ t = 55) (x y : D.Tg) (w : World) : (Op.equal t (.agg (nc x)) (.agg (nc y))).run Tryz.prog w = .ok (sm x y) w := by
  obtain ⟨lx, hx⟩ := key_of x t ht
  obtain ⟨ly, hy⟩ := key_of y t ht
  have hk : Tryz.prog.keyTypeAt 4 t = true := by rcases ht with rfl | rfl <;> kernel_rfl
  have hw : (match Tryz.prog.underlying t with | some (.array _ _) | some (.struct _) => true | _ => false) = true := by
    rcases ht with rfl | rfl
    · rw [Tryz.underlying55]
    · rw [Tryz.underlying55]
  have K : Maps.Keyed Tryz.prog t := by rcases ht with rfl | rfl; exact law_a; exact law_n
  obtain ⟨r, hr, hiff⟩ := run_equal_deep (P := Tryz.prog) w (m := 4) (by omega) hk hw hx hy
  rw [hr]
  congr 1
  have : (r = true) ↔ x = y := by
    rw [hiff]
    constructor
    · intro e
      subst e
      have := K.inj hx hy
      injection this with this
      exact nc_inj this
    · intro e
      subst e
      rw [hx] at hy
      injection hy
  unfold sm
  cases r
  · symm; simpa using this
  · symm; simpa using this
theorem run_eq (w : World) (t : TypeId) (ht : t = 55 ∨ t = 55) (x y : D.Tg) : (eq10 t (.agg (nc x)) (.agg (nc y))).run Tryz.prog w = .ok (.bool (sm x y)) w := by
  simp only [eq10, binOp]
  rw [Sem.run_bind, run_equal t ht]
  rfl
theorem run_ne (w : World) (t : TypeId) (ht : t = 55 ∨ t = 55) (x y : D.Tg) : (ne10 t (.agg (nc x)) (.agg (nc y))).run Tryz.prog w = .ok (.bool (!sm x y)) w := by
  simp only [ne10, binOp]
  rw [Sem.run_bind, run_equal t ht]
  rfl
theorem run_eq_a (w : World) (x y : D.Tg) : (eq10 55 (.agg (nc x)) (.agg (nc y))).run Tryz.prog w = .ok (.bool (sm x y)) w := run_eq w _ (.inl rfl) x y
theorem run_eq_n (w : World) (x y : D.Tg) : (eq10 55 (.agg (nc x)) (.agg (nc y))).run Tryz.prog w = .ok (.bool (sm x y)) w := run_eq w _ (.inr rfl) x y
theorem run_ne_a (w : World) (x y : D.Tg) : (ne10 55 (.agg (nc x)) (.agg (nc y))).run Tryz.prog w = .ok (.bool (!sm x y)) w := run_ne w _ (.inl rfl) x y
theorem run_ne_n (w : World) (x y : D.Tg) : (ne10 55 (.agg (nc x)) (.agg (nc y))).run Tryz.prog w = .ok (.bool (!sm x y)) w := run_ne w _ (.inr rfl) x y
end Go.Proofs.YtohhfcfnclafdaaGreatDoor
