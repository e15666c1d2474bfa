/-
  Unsigned numbers as decimal digits.
  Values by names in memory: a value's cells, a map of them.
  What is looked for in a row of ints; the program's Pick.
-/
import Derived.Test.YtohhfcfnclafdaaGreatDoorG29
import Derived.Shelf.Strconv.Itoa1
import Derived.Shelf.Strconv.Itoa2
import Derived.Lib.ItoaMem
import Derived.Maps.OwnSet
import Derived.Test.YtohhfcfnclafdaaGreatDoorG17
set_option linter.unusedVariables false
set_option linter.unusedSimpArgs false
set_option maxRecDepth 100000
namespace Go.Proofs.YtohhfcfnclafdaaGreatDoor
open Go.RowKit Go.Sort
attribute [local go_sem ↓] Go.wp_at_zero Go.wp_at_succ

theorem holds_zero0 (w : World) (T : TypeId) (nd : Nat) (hs : nd ≤ 24) : Holds (fun (b : UInt8) => Value.int .u8 (b.toNat : Int)) (w.alloc (.cells Lib.zeros24 T)) w.heap.size 0 (Array.replicate nd (0 : UInt8)) := fun j hj => by
  have hj' : j < nd := by simpa using hj
  refine ⟨?_, World.frozen?_alloc_new _ _ _ _⟩
  rw [World.cell?_alloc_new, Lib.zeros24_at _ (by omega), getElem!_pos _ j hj]
  simp
theorem fin_pos0 (w : World) (o : Obj) (dk : Array UInt8) (k : Nat) : Below w.heap.size w ((putRow (fun (b : UInt8) => Value.int .u8 (b.toNat : Int)) (w.alloc o) w.heap.size 0 dk).drewN k) := by
  rw [alloc_eq_grow]
  obtain ⟨os', _, e⟩ := putRow_grow_new (fun (b : UInt8) => Value.int .u8 (b.toNat : Int)) w #[o] w.heap.size 0 dk (Nat.le_refl _)
  rw [e]
  exact ⟨rfl, rfl, rfl, by simp [grow], fun i hi => by show (w.heap ++ os')[i]? = w.heap[i]?; rw [Array.getElem?_append_left hi]⟩
/-- The tables of the library's numbers. -/
def Tp (w : World) : Prop := Lib.TabIs Tryz.prog w "internal/strconv.uint64pow10" .u64 Lib.pow10Tab
theorem Tp.alloc {w : World} (h : Tp w) (o : Obj) : Tp (w.alloc o) := Lib.tabIs_alloc h o
set_option maxHeartbeats 6400000 in
theorem fmtIn_any (u : Nat) (h1 : u < 18446744073709551616) (w : World) (htab : Tp w) :
    Calls Tryz.prog 200 #[.int .u64 u, .int .i64 10] w fun e w' => e = .returned (.string ⟨(Lib.decDigits u).toArray⟩) ∧ Below w.heap.size w w' := by
  by_cases hs : u < 100
  · have i1 : (u : Int) < 100 := by omega
    have i2 : IntKind.i64.wrap (u : Int) = u := by rw [IntKind.wrap_i64]; omega
    have cS : Hid (∀ W, Calls Tryz.prog 227 #[.int .i64 u] W fun e w' => e = .returned (.string ⟨(Lib.decDigits u).toArray⟩) ∧ w' = W) := Lib.hid (fun W => Any.internal_strconv_small lays283 u hs W)
    go_enter Tryz.func200, Tryz.ntmps200
    go_wp2_with (go_at_call 227; (with_reducible refine (cS.out _).mono ?_); rintro e w' ⟨rfl, rfl⟩)
    go_ret
    exact ⟨rfl, Below.refl _ _⟩
  · have hu1 : 1 ≤ u := by omega
    have i1 : ¬ (u : Int) < 100 := by omega
    have hnd20 : Lib.nDigits u ≤ 20 := by have := Lib.numDigits_eq u hu1 h1; split at this <;> omega
    have hb3 : Lib.nDigits u ≤ 24 := by omega
    have hsl1 : ∀ W, (Instr.sliceAt 298 (.pointer (some ⟨w.heap.size, 0, none⟩)) none (some (.int .i64 (Lib.nDigits u : Int))) none).run Tryz.prog W = .ok (.slice (some ⟨w.heap.size, 0, none⟩) (Lib.nDigits u) 24) W := fun W => by
      have hal : Tryz.prog.arrayLen 298 = 24 := by kernel_rfl
      rw [run_sliceAt_array_h W 298 ⟨w.heap.size, 0, none⟩ Tryz.underlying298 .i64 (Lib.nDigits u : Int) (by omega) (by rw [hal]; omega)]
      go_simp
    have hH0 := holds_zero0 w 298 (Lib.nDigits u) (by omega)
    have hfmt : Calls Tryz.prog 229 #[.slice (some ⟨w.heap.size, 0, none⟩) (Array.replicate (Lib.nDigits u) (0 : UInt8)).size 24, .int .u64 u] (w.alloc (.cells Lib.zeros24 298)) fun e w' => e = .returned (.tuple #[]) ∧ ∃ (n v' : Nat) (dk : Array UInt8), w' = (putRow (fun (b : UInt8) => Value.int .u8 (b.toNat : Int)) (w.alloc (.cells Lib.zeros24 298)) w.heap.size 0 dk).drewN n ∧ Lib.FmtInv (Array.replicate (Lib.nDigits u) (0 : UInt8)).size u 0 v' dk := Any.internal_strconv_formatBase10 lays285 w.heap.size 0 24 u (Array.replicate (Lib.nDigits u) 0) (w.alloc (.cells Lib.zeros24 298)) hH0 (by rw [Array.size_replicate]; exact Lib.lt_pow_nDigits u) h1 (by rw [Array.size_replicate]; omega)
    rw [Array.size_replicate] at hfmt
    have HH0 := Lib.hid hH0
    have HF := Lib.hid hfmt
    have cN : Hid (∀ W, Tp W → Calls Tryz.prog 228 #[.int .u64 u] W fun e w' => e = .returned (.int .i64 (Lib.nDigits u)) ∧ w' = W) := Lib.hid (fun W hW => Any.internal_strconv_numDigits laysM284 u hu1 h1 W hW)
    have HT := Lib.hid htab
    clear hH0 hfmt htab
    go_enter Tryz.func200, Tryz.ntmps200
    go_wp2_with (first
      | (go_at_call 228; (with_reducible refine (cN.out _ (HT.out.alloc _)).mono ?_); rintro e w' ⟨rfl, rfl⟩)
      | (go_at_call 229; refine HF.out.mono ?_
         rintro e w' ⟨rfl, k, v', dk, rfl, hF⟩
         have hcv : (convert 103 9 (.slice (some ⟨w.heap.size, 0, none⟩) (Lib.nDigits u) 24)).run Tryz.prog ((putRow (fun (b : UInt8) => Value.int .u8 (b.toNat : Int)) (w.alloc (.cells Lib.zeros24 298)) w.heap.size 0 dk).drewN k) = .ok (.string ⟨(Lib.decDigits u).toArray⟩) ((putRow (fun (b : UInt8) => Value.int .u8 (b.toNat : Int)) (w.alloc (.cells Lib.zeros24 298)) w.heap.size 0 dk).drewN k) := by
           have h := run_convert_bytes_back (P := Tryz.prog) ((putRow (fun (b : UInt8) => Value.int .u8 (b.toNat : Int)) (w.alloc (.cells Lib.zeros24 298)) w.heap.size 0 dk).drewN k) 103 9 5 ⟨w.heap.size, 0, none⟩ 24 (Lib.decDigits u) Tryz.underlying103 Tryz.underlying5 Tryz.underlying9 (fun j hj => by
             rw [Lib.row_is_numeral hF j hj, Lib.add_plain, World.cell?_drewN]
             exact cell?_putRow (fun (b : UInt8) => Value.int .u8 (b.toNat : Int)) _ w.heap.size 0 _ dk HH0.out (by rw [hF.size, Array.size_replicate]) j (by rw [hF.size]; rw [Lib.decDigits_length] at hj; exact hj))
           rw [Lib.decDigits_length] at h
           exact h))
    go_ret
    exact ⟨rfl, fin_pos0 _ _ _ _⟩
theorem fmt_any (u : Nat) (h1 : u < 18446744073709551616) (w : World) (htab : Tp w) :
    Calls Tryz.prog 155 #[.int .u64 u, .int .i64 10] w fun e w' => e = .returned (.string ⟨(Lib.decDigits u).toArray⟩) ∧ Below w.heap.size w w' := by
  have cI := Lib.hid (fmtIn_any u h1 w htab)
  clear htab
  go_enter Tryz.func155, Tryz.ntmps155
  go_wp2_with (go_at_call 200; (with_reducible refine cI.out.mono ?_); rintro y w1 ⟨rfl, b1⟩)
  go_ret
  exact ⟨rfl, b1⟩
/-- The digits of a number, in the document's way. -/
def D.dg (n : Nat) : List Nat := (Lib.decDigits n).map UInt8.toNat
theorem D.dg_ns (n : Nat) : D.ns ⟨(Lib.decDigits n).toArray⟩ = D.dg n := by simp [D.ns, D.dg]
end Go.Proofs.YtohhfcfnclafdaaGreatDoor
set_option linter.unusedVariables false
set_option linter.unusedSimpArgs false
set_option maxRecDepth 100000
namespace Go.Proofs.YtohhfcfnclafdaaGreatDoor
open Go.RowKit

/-- A value: of which name; its number, its text. -/
structure D.Vl where
  n : Nm.D.Nm
  N : Nat
  t : ByteArray
def vcells (x : D.Vl) : List Value := bys x.n.l ++ [.int .u64 (x.N : Nat), .string x.t]
theorem vcells_inj {x y : D.Vl} (h : vcells x = vcells y) : x = y := by
  obtain ⟨n, N, t⟩ := x
  obtain ⟨n', N', t'⟩ := y
  simp only [vcells] at h
  have := List.append_inj h (by simp [bys_len, Nm.D.Nm.len])
  obtain rfl := Nm.D.Nm.eq (bys_inj this.1)
  have h2 := this.2
  simp only [List.cons.injEq, Value.int.injEq, Value.string.injEq, true_and, and_true] at h2
  obtain ⟨h3, rfl⟩ := h2
  obtain rfl : N = N' := by omega
  rfl
def vS : Shp D.Vl := ⟨vcells, 14, by decide, fun x => by simp [vcells, bys_len, x.n.len], vcells_inj, fun x u hu => by
  simp only [vcells, List.mem_cons, List.mem_append, List.not_mem_nil, or_false] at hu
  rcases hu with hu | rfl | rfl
  · exact bys_one _ u hu
  · rfl
  · rfl⟩
def zVl : D.Vl := ⟨Nm.D.zero, 0, ⟨#[]⟩⟩
open Classical in
/-- How a value reads: as itself. -/
noncomputable def vElem (v : Value) : Option (DataW D.Vl × List MemPlace) := if h : ∃ x, v = .agg (vS.v x) then some (.held (Classical.choose h), []) else none
theorem vElem_mk (x : D.Vl) : vElem (.agg (vS.v x)) = some (.held x, []) := by
  have h : ∃ y, Value.agg (vS.v x) = .agg (vS.v y) := ⟨x, rfl⟩
  unfold vElem
  rw [dif_pos h]
  have := Classical.choose_spec h
  injection this with this
  rw [← vS.v_inj this]
theorem vElem_inv {v : Value} {z : DataW D.Vl × List MemPlace} (h : vElem v = some z) : ∃ x, v = .agg (vS.v x) ∧ z = (.held x, []) := by
  unfold vElem at h
  split at h
  · rename_i hx
    obtain ⟨x, rfl⟩ := hx
    have := vElem_mk x
    unfold vElem at this
    rw [dif_pos ⟨x, rfl⟩] at this
    exact ⟨x, rfl, by injection h with h; injection this with this; rw [← h, this]⟩
  · cases h
theorem name_key (x : Nm.D.Nm) : ∃ l, keyOf Tryz.prog 43 (.agg (Nm.nc x)) = some l := Nm.key_of x _ (.inr rfl)
/-- A map of values by names: at most so many. -/
structure VmAt (w : World) (g k : Nat) (f : Nm.D.Nm → Option D.Vl) : Prop where
  out : ∃ D : DataW D.Vl, w.ownsMap Tryz.prog 43 vElem g k D ∧ ∀ (x : Nm.D.Nm) (l : Lit), keyOf Tryz.prog 43 (.agg (Nm.nc x)) = some l → Maps.has D l = (f x).isSome ∧ (∀ y, f x = some y → ∀ z, D.atKey l z = .held y) ∧ (f x = none → ∀ z, D.atKey l z = z)
section
variable {w w' : World} {g k : Nat} {f : Nm.D.Nm → Option D.Vl}
theorem VmAt.lt (h : VmAt w g k f) : g < w.heap.size := by
  obtain ⟨D, ho, _⟩ := h.out
  exact ho.lt
theorem VmAt.to (h : VmAt w g k f) (hs : w'.heap[g]? = w.heap[g]?) : VmAt w' g k f := by
  obtain ⟨D, ⟨es, clock, hb, r⟩, r'⟩ := h.out
  exact ⟨D, ⟨es, clock, hs.trans hb, r⟩, r'⟩
theorem VmAt.on (h : VmAt w g k f) (hb : Below w.heap.size w w') : VmAt w' g k f := h.to (hb.block _ h.lt)
theorem vm_new (w : World) (g : Nat) (hg : g = w.heap.size) : VmAt (w.alloc (.map #[] 0)) g 0 (fun _ => none) := by
  subst hg
  exact ⟨_, World.ownsMap_made _ _ _ _, fun x l _ => ⟨rfl, (fun y h => by cases h), fun _ z => rfl⟩⟩
theorem map_vm : Tryz.prog.underlying 144 = some (.map 43 63) := Tryz.underlying144
theorem zero_vl (w : World) : (zeroValue 63).run Tryz.prog w = .ok (.agg (vS.v zVl)) w := by kernel_rfl
theorem VmAt.look (h : VmAt w g k f) (x : Nm.D.Nm) : (Instr.lookup 144 (.map (some g)) (.agg (Nm.nc x)) true).run Tryz.prog w = .ok (.tuple #[.agg (vS.v ((f x).getD zVl)), .bool (f x).isSome]) w := by
  obtain ⟨D, ho, hf⟩ := h.out
  obtain ⟨l, hl⟩ := name_key x
  obtain ⟨h1, h2, h3⟩ := hf x l hl
  obtain ⟨v, ps, hr, hv⟩ := ho.look_ok Nm.law_n map_vm (zero_vl w) (vElem_mk zVl) hl
  obtain ⟨y, rfl, hz⟩ := vElem_inv hv
  rw [hr, h1]
  cases hfx : f x with
  | none =>
    rw [h3 hfx] at hz
    injection hz with hz
    injection hz with hz
    rw [← hz]; rfl
  | some q =>
    rw [h2 q hfx] at hz
    injection hz with hz
    injection hz with hz
    rw [← hz]; rfl
theorem VmAt.put (h : VmAt w g k f) (hk : k ≤ 100000) (y : D.Vl) : ∃ w', (Instr.mapUpdate 144 (.map (some g)) (.agg (Nm.nc y.n)) (.agg (vS.v y))).run Tryz.prog w = .ok () w' ∧ VmAt w' g (k + 1) (fun x => if x = y.n then some y else f x) ∧ w.grownBy w' (some g) := by
  obtain ⟨D, ho, hf⟩ := h.out
  obtain ⟨l, hl⟩ := name_key y.n
  obtain ⟨w', hr, ho', hg⟩ := ho.update Nm.law_n map_vm (by simp only [maxLen]; omega) hl (vElem_mk y)
  refine ⟨w', hr, ⟨_, ho', fun x m hm => ?_⟩, hg⟩
  have hkl := Nm.law_n.key hl
  by_cases e : x = y.n
  · subst e
    rw [hl] at hm
    injection hm with hm
    subst hm
    rw [if_pos rfl]
    refine ⟨by rw [Maps.has_put_same ho.isMap hkl]; rfl, fun z hz q => ?_, fun hz => by cases hz⟩
    injection hz with hz
    subst hz
    exact Maps.atKey_put_same ho.isMap hkl _ _
  · have hne : m ≠ l := by
      rintro rfl
      have := Nm.law_n.inj hm hl
      injection this with this
      exact e (Nm.nc_inj this)
    rw [if_neg e]
    obtain ⟨h1, h2, h3⟩ := hf x m hm
    exact ⟨by rw [Maps.has_put_other hne, h1], (fun z hz q => by rw [Maps.atKey_put_other hne]; exact h2 z hz q), fun hz q => by rw [Maps.atKey_put_other hne]; exact h3 hz q⟩
end
theorem Tp.on {w w' : World} (h : Tp w) (hb : Below w.heap.size w w') : Tp w' := by
  unfold Tp Lib.TabIs World.var? at *
  cases hg : Tryz.prog.globalNamed "internal/strconv.uint64pow10" with
  | none => simp [hg] at h
  | some g =>
    simp only [hg, Option.bind_some] at h ⊢
    have hlt : g < w.heap.size := by
      rcases Nat.lt_or_ge g w.heap.size with h' | h'
      · exact h'
      · rw [Array.getElem?_eq_none h'] at h; simp at h
    rw [hb.block g hlt]
    exact h
noncomputable def ldvl (v : Value) : Sem Value := Instr.loadAt 63 v
noncomputable def lvvl (a : Addr) : Sem Value := loadVar 63 a
noncomputable def stvl (p v : Value) : Sem Unit := Instr.storeAt 63 p v
theorem ld_vl (v : Value) : Instr.loadAt 63 v = ldvl v := rfl
theorem lv_vl (a : Addr) : loadVar 63 a = lvvl a := rfl
theorem st_vl (p v : Value) : Instr.storeAt 63 p v = stvl p v := rfl
noncomputable def blvl (a : Addr) (w : World) : Result Value := (loadVar 63 a).run Tryz.prog w
theorem run_lvvl (w : World) (a : Addr) : (lvvl a).run Tryz.prog w = (vS.rd w a).elim (blvl a w) fun x => .ok (.agg (vS.v x)) w := by
  cases h : vS.rd w a with
  | none => rfl
  | some x => exact Shp.loadVar_of Tryz.isAgg63 Tryz.sizeOf63 (Shp.at_of h)
theorem run_ldvl (w : World) (a : Addr) : (ldvl (.pointer (some a))).run Tryz.prog w = (vS.rd w a).elim (blvl a w) fun x => .ok (.agg (vS.v x)) w := by
  rw [← run_lvvl]; simp only [ldvl, lvvl, Instr.loadAt, Instr.sureAddr, Sem.run_bind, Sem.run_pure, Result.andThen_ok]
theorem run_stvl_new (w : World) (n : Nat) (x : D.Vl) (h : n = w.heap.size) :
    (stvl (.pointer (some ⟨n, 0, none⟩)) (.agg (vS.v x))).run Tryz.prog (w.alloc (.cells #[.int .u8 0, .int .u8 0, .int .u8 0, .int .u8 0, .int .u8 0, .int .u8 0, .int .u8 0, .int .u8 0, .int .u8 0, .int .u8 0, .int .u8 0, .int .u8 0, .int .u64 0, .string ⟨#[]⟩] 63)) = .ok () (w.alloc (.cells (vS.v x) 63)) := by
  subst h
  exact run_storeAt_new (P := Tryz.prog) w 63 _ (vS.v x) (by rw [vS.v_size]; kernel_rfl) (by rw [vS.v_size]; rfl) (vS.v_one x)
/-- A value's fields, where it lies. -/
structure VF (w : World) (g : Nat) (y : D.Vl) : Prop where
  n : Nm.rd w ⟨g, 0, none⟩ = some y.n
  N : w.cell? ⟨g, 12, none⟩ = some (.int .u64 (y.N : Nat))
  t : w.cell? ⟨g, 13, none⟩ = some (.string y.t)
  l : g < w.heap.size
theorem vf_blk {w : World} {g : Nat} {y : D.Vl} (h : Blk w g 63 (vS.v y)) : VF w g y := by
  have hl : (bys y.n.l).length = 12 := by rw [bys_len, y.n.len]
  refine ⟨Nm.rd_of fun j u hu => ?_, ?_, ?_, h.lt⟩
  · have hj : j < 12 := by have := (List.getElem?_eq_some_iff.1 hu).1; omega
    rw [Lib.add_plain, h.c_ (0 + j), Nat.zero_add]
    show (vcells y).toArray[j]? = some u
    rw [List.getElem?_toArray, vcells, List.getElem?_append_left (by omega)]
    exact hu
  · rw [h.c_ 12]
    show (vcells y).toArray[12]? = _
    rw [List.getElem?_toArray, vcells, List.getElem?_append_right (by omega), hl]
    rfl
  · rw [h.c_ 13]
    show (vcells y).toArray[13]? = _
    rw [List.getElem?_toArray, vcells, List.getElem?_append_right (by omega), hl]
    rfl
end Go.Proofs.YtohhfcfnclafdaaGreatDoor
set_option linter.unusedVariables false
set_option linter.unusedSimpArgs false
set_option maxRecDepth 100000
namespace Go.Proofs.YtohhfcfnclafdaaGreatDoor
open Go.RowKit
attribute [local go_sem ↓] Go.wp_at_zero Go.wp_at_succ ld_a ld_n st_a st_n eq_a eq_n ne_a ne_n lv_a lv_n lp_3 lp_4
attribute [local go_sem] run_ld_a run_ld_n run_sw_a run_sw_n run_eq_a run_eq_n run_ne_a run_ne_n run_lv_a run_lv_n st_z ne_z eq_z rd_new rd_old rd_drew rd_drewN rd_set tn_new tn_old tn_drew tn_drewN setRow_alloc run_lp_3 run_lp_4

def zs (l : List Int) : List Value := l.map fun b => .int .i64 b
theorem zs_len (l : List Int) : (zs l).length = l.length := by simp [zs]
theorem zs_at {l : List Int} {i : Nat} {b : Int} (h : l[i]? = some b) : (zs l)[i]? = some (.int .i64 b) := by simp [zs, h]
set_option maxHeartbeats 2000000 in
theorem index_any (A : Option Addr) (n c : Nat) (l : List Int) (z : Int) (w : World) (hr : Row w A n (zs l)) (hn : n ≤ 1000000) :
    Calls Tryz.prog 202 #[.slice A n c, .int .i64 z] w fun e w' => (∃ r : Int, e = .returned (.int .i64 r) ∧ Kept (decide (0 ≤ r) = decide (z ∈ l))) ∧ w = w' := by
  have hlen := hr.len
  rw [zs_len] at hlen
  go_enter Tryz.func202, Tryz.ntmps202
  go_wp2
  go_loopw [8] (fun i wr => ∃ k : Nat, k ≤ n ∧ i = .int .i64 k ∧ Kept (∀ j, j < k → l[j]? ≠ some z) ∧ wr = w) (fun i _ => n - (intOf i).toNat)
  case atStart => exact ⟨0, Nat.zero_le _, rfl, ⟨fun j hj => by omega⟩, rfl⟩
  case round =>
    obtain ⟨k, hk, rfl, HN, rfl⟩ := hrel
    by_cases hlt : k < n
    · have hkl : k < l.length := by omega
      obtain ⟨b, hb⟩ : ∃ b, l[k]? = some b := ⟨_, List.getElem?_eq_getElem hkl⟩
      obtain ⟨ad, rfl, hc⟩ := hr.cell (zs_at hb)
      have hI : (k : Int) < n := by omega
      by_cases e : z = b
      · have HA : Kept (decide (0 ≤ (k : Int)) = decide (z ∈ l)) := ⟨by rw [decide_eq_true (show 0 ≤ (k : Int) by omega), decide_eq_true (show z ∈ l from List.mem_of_getElem? (e ▸ hb))]⟩
        subst e
        clear HN hb hr hlen hkl
        go_wp2
        go_ret
        exact ⟨⟨_, rfl, HA⟩, rfl⟩
      · have HN' : Kept (∀ j, j < k + 1 → l[j]? ≠ some z) := ⟨fun j hj => by
          obtain h | rfl : j < k ∨ j = k := by omega
          · exact HN.out j h
          · rw [hb]; intro h; injection h with h; exact e h.symm⟩
        have e' : (z == b) = false := by simpa using e
        clear HN hb hr hlen hkl
        go_wp2
        go_roundw
        case rel => exact ⟨k + 1, by omega, by go_num, HN', trivial⟩
        case measure => simp [intOf]; omega
    · obtain rfl : k = n := by omega
      have HA : Kept (decide (0 ≤ (-1 : Int)) = decide (z ∈ l)) := ⟨by
        rw [decide_eq_false (show ¬ 0 ≤ (-1 : Int) by omega), eq_comm, decide_eq_false_iff_not]
        intro h
        obtain ⟨j, hj, e⟩ := List.mem_iff_getElem.1 h
        exact HN.out j (by omega) (by rw [List.getElem?_eq_getElem hj, e])⟩
      clear HN hr
      go_wp2
      go_ret
      exact ⟨⟨_, rfl, HA⟩, rfl⟩
theorem contains_any (A : Option Addr) (n c : Nat) (l : List Int) (z : Int) (w : World) (hr : Row w A n (zs l)) (hn : n ≤ 1000000) :
    Calls Tryz.prog 232 #[.slice A n c, .int .i64 z] w fun e w' => e = .returned (.bool (decide (z ∈ l))) ∧ w = w' := by
  have C := Lib.hid (index_any A n c l z w hr hn)
  clear hr
  go_enter Tryz.func232, Tryz.ntmps232
  go_wp2_with (go_at_call 202; (with_reducible refine C.out.mono ?_); rintro e w1 ⟨⟨r, rfl, HA⟩, rfl⟩)
  go_ret
  exact ⟨bool_of HA.out, rfl⟩
/-- One of two numbers. -/
noncomputable def ixa (v i : Value) : Sem Value := Instr.index 303 v i
theorem ix_a (v i : Value) : Instr.index 303 v i = ixa v i := rfl
theorem run_ixa0 (a b : Int) (w : World) : (ixa (.agg #[.int .i64 a, .int .i64 b]) (.int .i64 0)).run Tryz.prog w = .ok (.int .i64 a) w := by kernel_rfl
theorem run_ixa1 (a b : Int) (w : World) : (ixa (.agg #[.int .i64 a, .int .i64 b]) (.int .i64 1)).run Tryz.prog w = .ok (.int .i64 b) w := by kernel_rfl
attribute [local go_sem ↓] ix_a
attribute [local go_sem] run_ixa0 run_ixa1
/-- What is picked. -/
def D.pick (c : Int) (l : List Int) : Int × Bool := if c ∈ l then (c, true) else if 5 ∈ l then (5, true) else (0, false)
set_option maxHeartbeats 4000000 in
theorem pick_any (x : D.Tg) (n : Nat) (A : Option Addr) (m c : Nat) (l : List Int) (w : World) (hr : Row w A m (zs l)) (hm : m ≤ 1000000) :
    Calls Tryz.prog 201 #[.agg (nc x), .int .u64 n, .slice A m c] w fun e w' => e = .returned (.tuple #[.int .i64 (D.pick (D.pof (D.gr x) n : Nat) l).1, .bool (D.pick (D.pof (D.gr x) n : Nat) l).2]) ∧ Below w.heap.size w w' := by
  have f0 := rd_new w w.heap.size 55 x rfl
  have cO := fun W => of_any x n W
  obtain ⟨q, hq⟩ : ∃ q, D.pof (D.gr x) n = q := ⟨_, rfl⟩
  rw [hq] at cO ⊢
  have CO := Lib.hid cO
  clear cO hq
  go_enter Tryz.func201, Tryz.ntmps201
  go_wp2_with (go_at_call 231; (with_reducible refine (CO.out _).mono ?_); rintro e w1 ⟨rfl, b1⟩; have z1 := (Fw.self w).alloc (.cells (nc x) 55) |>.on b1)
  have r1 := (hr.alloc (.cells (nc x) 55)).on b1
  clear CO f0 hr b1
  have C := fun z => contains_any A m c l z w1 r1 hm
  go_loopw [14] (fun i wr => ∃ k : Nat, k ≤ 2 ∧ (k = 0 → i = .int .i64 0) ∧ (k = 1 → i = .int .i64 1) ∧ (k = 2 → i = .int .i64 2) ∧ Kept (1 ≤ k → (q : Int) ∉ l) ∧ Kept (2 ≤ k → (5 : Int) ∉ l) ∧ wr = w1) (fun i _ => 2 - (intOf i).toNat)
  case atStart => exact ⟨0, Nat.zero_le _, fun _ => rfl, fun h => by omega, fun h => by omega, ⟨fun h => by omega⟩, ⟨fun h => by omega⟩, rfl⟩
  case round =>
    obtain ⟨k, hk, h0, h1, h2, K1, K2, rfl⟩ := hrel
    obtain rfl | rfl | rfl : k = 0 ∨ k = 1 ∨ k = 2 := by omega
    · obtain rfl := h0 rfl
      clear h0 h1 h2 K1 K2
      have cq := C q
      obtain ⟨b, hb⟩ : ∃ b, decide ((q : Int) ∈ l) = b := ⟨_, rfl⟩
      rw [hb] at cq
      have CQ := Lib.hid cq
      clear cq C
      cases b
      · have hn : Kept ((q : Int) ∉ l) := ⟨of_decide_eq_false hb⟩
        clear hb
        go_wp2_with (go_at_call 232; (with_reducible refine CQ.out.mono ?_); rintro e w2 ⟨rfl, rfl⟩)
        go_roundw
        case rel => exact ⟨1, by omega, fun h => by omega, fun _ => rfl, fun h => by omega, ⟨fun _ => hn.out⟩, ⟨fun h => by omega⟩, trivial⟩
        case measure => simp [intOf]
      · have hp : Kept (D.pick q l = ((q : Int), true)) := ⟨by unfold D.pick; rw [if_pos (of_decide_eq_true hb)]⟩
        clear hb
        go_wp2_with (go_at_call 232; (with_reducible refine CQ.out.mono ?_); rintro e w2 ⟨rfl, rfl⟩)
        go_ret2
        exact ⟨by rw [hp.out]; rfl, z1.below⟩
    · obtain rfl := h1 rfl
      have hn : Kept ((q : Int) ∉ l) := ⟨K1.out (by omega)⟩
      clear h0 h1 h2 K1 K2
      have cq := C 5
      obtain ⟨b, hb⟩ : ∃ b, decide ((5 : Int) ∈ l) = b := ⟨_, rfl⟩
      rw [hb] at cq
      have CQ := Lib.hid cq
      clear cq C
      cases b
      · have hn5 : Kept ((5 : Int) ∉ l) := ⟨of_decide_eq_false hb⟩
        clear hb
        go_wp2_with (go_at_call 232; (with_reducible refine CQ.out.mono ?_); rintro e w2 ⟨rfl, rfl⟩)
        go_roundw
        case rel => exact ⟨2, by omega, fun h => by omega, fun h => by omega, fun _ => rfl, ⟨fun _ => hn.out⟩, ⟨fun _ => hn5.out⟩, trivial⟩
        case measure => simp [intOf]
      · have hp : Kept (D.pick q l = (5, true)) := ⟨by unfold D.pick; rw [if_neg hn.out, if_pos (of_decide_eq_true hb)]⟩
        clear hb
        go_wp2_with (go_at_call 232; (with_reducible refine CQ.out.mono ?_); rintro e w2 ⟨rfl, rfl⟩)
        go_ret2
        exact ⟨by rw [hp.out]; rfl, z1.below⟩
    · obtain rfl := h2 rfl
      have hp : Kept (D.pick q l = (0, false)) := ⟨by unfold D.pick; rw [if_neg (K1.out (by omega)), if_neg (K2.out (by omega))]⟩
      clear h0 h1 h2 K1 K2 C
      go_wp2
      go_ret2
      exact ⟨by rw [hp.out]; rfl, z1.below⟩
end Go.Proofs.YtohhfcfnclafdaaGreatDoor
