/-
  Regions that draw their order and only read, whose calls may lay blocks: one walk, in the class of the worlds that only have grown.
  The document's Pad and Text.
  The law's Of: the program's parts as the document's.
-/
import Derived.Test.YtlheaabmpcnchaaGreatDoorG37
import Derived.Test.YtlheaabmpcnchaaGreatDoorG34
set_option linter.unusedVariables false
set_option linter.unusedSimpArgs false
set_option maxRecDepth 100000
namespace Go.Proofs.YtlheaabmpcnchaaGreatDoor.Nm
open Go.RowKit Go.Sort

/-- How far on a world is: its draws, and its new blocks. -/
structure On where
  n : Nat
  os : Array Obj
  deriving Inhabited
def ext (w : World) (p : On) : World := { w with heap := w.heap ++ p.os, drawn := p.n }
theorem ext_heap (w : World) (p : On) {k : Nat} (h : k < w.heap.size) : (ext w p).heap[k]? = w.heap[k]? := by simp [ext, Array.getElem?_append, h]
theorem ext_size (w : World) (p : On) : w.heap.size ≤ (ext w p).heap.size := by simp [ext]
theorem ext_below (w : World) (p : On) : Below w.heap.size w (ext w p) := ⟨rfl, rfl, rfl, ext_size w p, fun k hk => ext_heap w p hk⟩
theorem ext_of {w w' : World} (h : Below w.heap.size w w') : ∃ p, w' = ext w p := by
  obtain ⟨heap, tape, drawn, os, output⟩ := w
  obtain ⟨heap', tape', drawn', os', output'⟩ := w'
  obtain ⟨h1, h2, h3, h4, h5⟩ := h
  simp only at h1 h2 h3 h4 h5
  subst h1 h2 h3
  refine ⟨⟨drawn', heap'.extract heap.size heap'.size⟩, ?_⟩
  simp only [ext]
  congr 1
  apply Array.ext_getElem?
  intro i
  rw [Array.getElem?_append]
  by_cases hi : i < heap.size
  · rw [if_pos hi]; exact h5 i hi
  · rw [if_neg hi, Array.getElem?_extract]
    split
    · congr 1; omega
    · rw [Array.getElem?_eq_none (by omega)]
theorem ext_to {w w' : World} (h : ∃ p, w' = ext w p) : Below w.heap.size w w' := by
  obtain ⟨p, rfl⟩ := h
  exact ext_below w p
theorem wp_region_ext {P : Program} {id : Nat} {Q : Exit → Act → World → Prop} {a : Act} {w : World} {l : List Oper} (hm : P.follows .mixedOrders = true) (hB : Region.lexB .any l.toArray = true)
    (h : wpQuiet P l.toArray (fun w' => ∃ p : On, w' = ext w p) (fun a' => ∀ w', (∃ p : On, w' = ext w p) → Q .normal a' w') l a) : (Code.region id l.toArray true).wp P Q a w :=
  wp_region_quiet (C := fun w' => ∃ p : On, w' = ext w p) hm hB ⟨⟨w.drawn + 1, #[]⟩, by simp [ext]⟩ (by simpa using h)
theorem calls_ext {P : Program} {f : FuncId} {args : Array Value} {w : World} {p : On} {v : Value}
    (h : Calls P f args (ext w p) fun e w' => e = .returned v ∧ Below (ext w p).heap.size (ext w p) w') : Calls P f args (ext w p) fun e w'' => e = .returned v ∧ ∃ p : On, w'' = ext w p :=
  h.mono fun _ _ ⟨he, hb⟩ => ⟨he, ext_of ((ext_below w p).trans (hb.mono (ext_size w p)))⟩
theorem calls_same {P : Program} {f : FuncId} {args : Array Value} {w : World} {p : On} {v : Value}
    (h : Calls P f args (ext w p) fun e w' => e = .returned v ∧ ext w p = w') : Calls P f args (ext w p) fun e w'' => e = .returned v ∧ ∃ p : On, w'' = ext w p :=
  h.mono fun _ _ ⟨he, hb⟩ => ⟨he, p, hb.symm⟩
theorem rd_ext (w : World) (p : On) (a : Addr) (h : a.block < w.heap.size) : rd (ext w p) a = rd w a := rd_to (ext_heap w p h)
theorem cell_ext (w : World) (p : On) (a : Addr) (h : a.block < w.heap.size) : (ext w p).cell? a = w.cell? a := World.cell?_of_block (ext_heap w p h)
end Go.Proofs.YtlheaabmpcnchaaGreatDoor.Nm
set_option linter.unusedVariables false
set_option linter.unusedSimpArgs false
set_option maxRecDepth 100000
namespace Go.Proofs.YtlheaabmpcnchaaGreatDoor.Nm
open Go.RowKit Go.Sort
attribute [local go_sem ↓] Go.wp_at_zero Go.wp_at_succ ld_a ld_n st_a st_n eq_a eq_n ne_a ne_n lv_a lv_n
attribute [local go_sem] run_ld_a run_ld_n run_st_n run_eq_a run_eq_n run_ne_a run_ne_n run_lv_a run_lv_n st_z ne_z rd_new rd_old rd_drew rd_drewN rd_ext

theorem pcs_last (s : ByteArray) (k : Nat) (h : k = s.size ∨ 12 ≤ k) (hk : k ≤ s.size) : pcs (D.ns s) k = nc (D.pad s) := by
  have : D.padl (D.ns s) k = D.padl (D.ns s) 12 := by
    rcases h with h | h
    · by_cases h12 : s.size ≤ 12
      · have := D.padl_all (t := D.ns s) 12 (by rw [D.ns_len]; exact h12)
        rw [D.ns_len] at this
        rw [h, this]
      · exact D.padl_12 _ _ (by omega)
    · exact D.padl_12 _ _ h
  rw [pcs, this]; rfl
theorem lv_of_a {w : World} {a : Addr} {x : D.Nm} (h : rd w a = some x) : (loadVar 44 a).run Tryz.prog w = .ok (.agg (nc x)) w := (run_lv_a w a).trans (by rw [h]; rfl)
theorem results_cell1 {fn : Func} {p : Tmp} {ty : TypeId} (h : fn.results = #[.cell p ty]) (tmps : Array Value) (P : Program) (w : World) :
    (results fn tmps).run P w = ((asAddr (tmps.getD p undef)).run P w).andThen fun a w₁ => (loadVar ty a).run P w₁ := by
  simp only [results, h]
  simp [Sem.run_bind, Result.andThen]
set_option maxHeartbeats 1000000 in
theorem ref_pad (s : ByteArray) (w : World) :
    Calls Tryz.prog 18 #[.string s] w fun e w' => e = .returned (.agg (nc (D.pad s))) ∧ Below w.heap.size w w' := by
  go_enter Tryz.func18, Tryz.ntmps18
  go_wp2
  go_loopw [4] (fun i wr => ∃ k : Nat, k ≤ s.size ∧ k ≤ 12 ∧ i = .int .i64 k ∧ Blk wr w.heap.size 44 z12 ∧ Blk wr (w.heap.size + 1) 44 (pcs (D.ns s) k) ∧ Below w.heap.size w wr) (fun i _ => s.size - (intOf i).toNat)
  case atStart =>
    refine ⟨0, Nat.zero_le _, Nat.zero_le _, rfl, ?_, ?_, ?_⟩
    · exact (Blk.new w _ z12).alloc _
    · rw [pcs_zero]
      have := Blk.new (w.alloc (.cells z12 44)) 44 z12
      simp only [World.size_alloc] at this
      exact this
    · exact ((Below.refl _ _).alloc (Nat.le_refl _) _).alloc (by simp) _
  case round =>
    obtain ⟨k, hk, hk12, rfl, B0, B1, hbel⟩ := hrel
    by_cases hlt : k < s.size ∧ k < 12
    · obtain ⟨h1, h2⟩ := hlt
      have hb := ns_at h1
      obtain ⟨b, hq⟩ : ∃ b, s[k].toNat = b := ⟨_, rfl⟩
      rw [hq] at hb
      have hbn := B1.put k (.int .u8 b)
      rw [pcs_next hb (by omega)] at hbn
      have hcs : ∃ v, wr.cell? ⟨w.heap.size + 1, k, none⟩ = some v := by
        rw [B1.c]
        exact ⟨_, Array.getElem?_eq_getElem (by rw [pcs_size]; omega)⟩
      obtain ⟨v0, hc⟩ := hcs
      have hf := B1.f k
      have hb0 := B0.far (p := ⟨w.heap.size + 1, k, none⟩) (by simp) (.int .u8 b)
      have i1 : (k : Int) < (s.size : Int) := by omega
      have i2 : (k : Int) < 12 := by omega
      clear hb B1 B0
      go_wp2
      go_roundw
      case rel => exact ⟨k + 1, by omega, by omega, by go_num, hb0, hbn, hbel.setCell (by simp) _⟩
      case measure => simp [intOf]; omega
    · rw [pcs_last s k (by omega) hk] at B1
      have hx := rd_blk B1
      obtain ⟨w9, hst, B9, hg9⟩ := st_blk (.inl rfl) B0 rfl (D.pad s)
      have h9 := rd_blk B9
      clear B0 B1 B9
      by_cases h : k < s.size
      · have j1 : (k : Int) < (s.size : Int) := by omega
        have j2 : (12 : Int) ≤ (k : Int) := by omega
        clear hlt
        go_wp2
        refine bodyPost_ret (v := .agg (nc (D.pad s))) (by rw [results_cell1 rfl]; simp [asAddr, Result.andThen, lv_of_a h9]) rfl ⟨rfl, bel_grown hbel hg9 (Nat.le_refl _)⟩
      · have j1 : (s.size : Int) ≤ (k : Int) := by omega
        clear hlt
        go_wp2
        refine bodyPost_ret (v := .agg (nc (D.pad s))) (by rw [results_cell1 rfl]; simp [asAddr, Result.andThen, lv_of_a h9]) rfl ⟨rfl, bel_grown hbel hg9 (Nat.le_refl _)⟩

theorem upto_arr (g k : Nat) (hk : k ≤ 12) : ∀ W, (Instr.sliceAt 44 (.pointer (some ⟨g, 0, none⟩)) none (some (.int .i64 (k : Int))) none).run Tryz.prog W = .ok (.slice (some ⟨g, 0, none⟩) k 12) W := by
  intro W
  have h1 : (k : Int) ≤ 12 := by omega
  simp [Instr.sliceAt, go_sem, h1]
set_option maxRecDepth 100000 in
set_option maxHeartbeats 1000000 in
theorem ref_text (x : D.Nm) (w : World) :
    Calls Tryz.prog 29 #[.agg (nc x)] w fun e w' => e = .returned (.string (ts x)) ∧ Below w.heap.size w w' := by
  have B0 := Blk.new w 44 (nc x)
  go_enter Tryz.func29, Tryz.ntmps29
  go_wp2
  go_loopw [3] (fun i wr => ∃ k : Nat, k ≤ 12 ∧ i = .int .i64 k ∧ Kept (∀ b ∈ x.l.take k, b ≠ 0) ∧ wr = w.alloc (.cells (nc x) 44)) (fun i _ => 12 - (intOf i).toNat)
  case atStart => exact ⟨0, Nat.zero_le _, rfl, ⟨by simp⟩, rfl⟩
  case round =>
    obtain ⟨k, hk, rfl, HK, rfl⟩ := hrel
    by_cases hgo : k < 12 ∧ x.l[k]? ≠ some 0
    · obtain ⟨hlt, h0⟩ := hgo
      obtain ⟨a, hx, ha⟩ := nm_at x hlt
      have cx := blk_at B0 hx
      have hne : ((a : Int) != 0) = true := by
        rw [bne_iff_ne]
        intro e
        have : a = 0 := by omega
        subst this
        exact h0 hx
      have i1 : (k : Int) < 12 := by omega
      have HN : Kept (∀ b ∈ x.l.take (k + 1), b ≠ 0) := ⟨by
        obtain ⟨h1, h2⟩ := List.getElem?_eq_some_iff.1 hx
        intro b hb
        rw [List.take_succ_eq_append_getElem h1, h2] at hb
        rcases List.mem_append.1 hb with hb | hb
        · exact HK.out b hb
        · rw [List.mem_singleton.1 hb]
          rintro rfl
          exact h0 hx⟩
      clear hx h0 B0
      go_wp2
      go_roundw
      case rel => exact ⟨k + 1, by omega, by go_num, HN, by first | rfl | trivial⟩
      case measure => simp [intOf]; omega
    · have hhd : D.hd x.l = x.l.take k := D.hd_take HK.out (by
        by_cases h12 : k < 12
        · left
          obtain ⟨a, hx, ha⟩ := nm_at x h12
          by_cases e : a = 0
          · subst e; exact hx
          · exact absurd ⟨h12, by rw [hx]; simpa using e⟩ hgo
        · right; rw [x.len]; omega)
      obtain ⟨m, hm⟩ : ∃ m, m = k := ⟨_, rfl⟩
      have hR : Row (w.alloc (.cells (nc x) 44)) (some ⟨w.heap.size, 0, none⟩) k (bys (D.hd x.l)) := by
        rw [hhd, ← bys_take]
        exact (row_name B0).take hk
      have hup := upto_arr w.heap.size k hk
      have hstr := str_run _ _ k 12 _ hR (fun b hb => x.lt b (D.hd_mem hb))
      have HI := Lib.hid (fun w => ref_is (D.sb (D.hd x.l)) w)
      rw [ns_hd x] at HI
      have hrd := rd_new w _ 44 x rfl
      have HP := Lib.hid (fun w => ref_pad (D.sb (D.hd x.l)) w)
      rw [hdp_pad x] at HP
      have HR : Kept (D.right x = (D.isB (D.hd x.l) && sm (D.hdp x) x)) := ⟨rfl⟩
      have HT : Kept (ts x = if D.right x then D.sb (D.hd x.l) else ByteArray.empty) := ⟨by
        unfold ts D.txt
        split <;> rfl⟩
      obtain ⟨s, hs⟩ : ∃ s, D.sb (D.hd x.l) = s := ⟨_, rfl⟩
      rw [hs] at hstr HI HP HT
      clear hs hR hhd hm HK
      have hz : (k < 12 ∧ ∃ a, x.l[k]? = some a ∧ a = 0) ∨ 12 ≤ k := by
        by_cases hz : k < 12
        · left
          obtain ⟨a, hx, ha⟩ := nm_at x hz
          refine ⟨hz, a, hx, ?_⟩
          by_cases e : a = 0
          · exact e
          · exact absurd ⟨hz, by rw [hx]; simpa using e⟩ hgo
        · exact .inr (by omega)
      have hz' : (((k : Int) < 12) ∧ (w.alloc (.cells (nc x) 44)).cell? ⟨w.heap.size, k, none⟩ = some (.int .u8 0)) ∨ (12 : Int) ≤ (k : Int) := by
        rcases hz with ⟨h1, a, hx, rfl⟩ | h
        · exact .inl ⟨by omega, blk_at B0 hx⟩
        · exact .inr (by omega)
      clear hz hgo B0
      cases h : D.isB (D.hd x.l)
      · rw [h] at HI
        have HT' : Kept (ByteArray.empty = ts x) := ⟨by rw [HT.out, HR.out, h]; rfl⟩
        have HQ := Lib.hid (fun n => quietly (n := n) (w := w.alloc (.cells (nc x) 44)) (HI.out _))
        clear HT HR HP HI h
        rcases hz' with ⟨i1, cx⟩ | i1
        all_goals
          go_wp2_with fail
          go_quiet ((go_at_call 21; exact HQ.out _))
          go_wp2
          go_ret
          exact ⟨by rw [← HT'.out]; rfl, below_drewN (below_alloc_ _ _) _⟩
      · rw [h] at HI
        cases h2 : sm (D.hdp x) x
        · have HT' : Kept (ByteArray.empty = ts x) := ⟨by rw [HT.out, HR.out, h, h2]; rfl⟩
          clear HT HR h
          rcases hz' with ⟨i1, cx⟩ | i1
          all_goals
            go_wp2_with fail
            refine wp_region_ext (by kernel_rfl) (by kernel_rfl) ?_
            repeat (quiet_step ((first
              | (go_at_call 21; exact calls_same (HI.out _))
              | (go_at_call 18; exact calls_ext (HP.out _)))))
            refine wpQuiet_nil ?_
            intro w5 hw5
            have b5 := ext_to hw5
            clear hw5
            go_wp2
            go_ret
            exact ⟨by rw [← HT'.out]; rfl, (below_alloc_ _ _).trans (b5.mono (by simp))⟩
        · have HT' : Kept (s = ts x) := ⟨by rw [HT.out, HR.out, h, h2]; rfl⟩
          clear HT HR h
          rcases hz' with ⟨i1, cx⟩ | i1
          all_goals
            go_wp2_with fail
            refine wp_region_ext (by kernel_rfl) (by kernel_rfl) ?_
            repeat (quiet_step ((first
              | (go_at_call 21; exact calls_same (HI.out _))
              | (go_at_call 18; exact calls_ext (HP.out _)))))
            refine wpQuiet_nil ?_
            intro w5 hw5
            have b5 := ext_to hw5
            clear hw5
            go_wp2
            go_ret
            exact ⟨by rw [← HT'.out]; rfl, (below_alloc_ _ _).trans (b5.mono (by simp))⟩
end Go.Proofs.YtlheaabmpcnchaaGreatDoor.Nm
set_option linter.unusedVariables false
set_option linter.unusedSimpArgs false
set_option maxRecDepth 100000
namespace Go.Proofs.YtlheaabmpcnchaaGreatDoor
open Go.RowKit
attribute [local go_sem ↓] Go.wp_at_zero Go.wp_at_succ Nm.ld_a Nm.ld_n Nm.st_a Nm.st_n Nm.lv_a Nm.lv_n Nm.eq_a Nm.eq_n Nm.ne_a Nm.ne_n
attribute [local go_sem] Nm.run_ld_a Nm.run_ld_n Nm.run_lv_a Nm.run_lv_n Nm.run_eq_a Nm.run_eq_n Nm.run_ne_a Nm.run_ne_n Nm.rd_new Nm.rd_old Nm.rd_drew Nm.rd_drewN Nm.st_z
theorem ne_zn (v : Value) : Nm.ne12 45 v (.agg #[.int .u8 0, .int .u8 0, .int .u8 0, .int .u8 0, .int .u8 0, .int .u8 0, .int .u8 0, .int .u8 0, .int .u8 0, .int .u8 0, .int .u8 0, .int .u8 0]) = Nm.ne12 45 v (.agg (Nm.nc Nm.D.zero)) := rfl
attribute [local go_sem] ne_zn

/-- A part's fields, in a row of parts. -/
structure PC (w : World) (ad : Addr) (i : Nat) (y : D.Nv) : Prop where
  l : ad.block < w.heap.size
  k : w.cell? (ad.add (i * 15)) = some (.int .i64 (y.k : Nat))
  t : w.cell? ⟨(ad.add (i * 15)).block, (ad.add (i * 15)).off + 1, none⟩ = some (.string y.t)
  n : Nm.rd w ⟨(ad.add (i * 15)).block, (ad.add (i * 15)).off + 2, none⟩ = some y.n
  c : w.cell? ⟨(ad.add (i * 15)).block, (ad.add (i * 15)).off + 14, none⟩ = some (.slice y.A y.m y.c)
theorem pc_at {w : World} {A : Option Addr} {n j : Nat} {ys : List D.Nv} {y : D.Nv} (h : Rw 15 w A n (nS.rcs ys)) (hj : ys[j]? = some y) : ∃ ad, A = some ad ∧ PC w ad j y := by
  obtain ⟨ad, rfl, hl, hrd, hc⟩ := rw_at h hj
  have hA := Shp.at_of hrd
  have c : ∀ i u, (ncells y)[i + 1]? = some u → w.cell? ⟨(ad.add (j * 15)).block, (ad.add (j * 15)).off + (i + 1), none⟩ = some u := fun i u hu => by
    rw [← add_succ]; exact hA (i + 1) u hu
  refine ⟨ad, rfl, hl, hc, c 0 _ rfl, Nm.rd_of fun i u hu => ?_, c 13 _ ?_⟩
  · have hj := (List.getElem?_eq_some_iff.1 hu).1
    rw [show (⟨(ad.add (j * 15)).block, (ad.add (j * 15)).off + 2, none⟩ : Addr).add i = ⟨(ad.add (j * 15)).block, (ad.add (j * 15)).off + (2 + i), none⟩ by simp [Addr.add, Nat.add_assoc], show 2 + i = i + 1 + 1 by omega]
    refine c (i + 1) u ?_
    show (bys y.n.l ++ [Value.slice y.A y.m y.c])[i]? = some u
    rw [List.getElem?_append_left hj, hu]
  · show (bys y.n.l ++ [Value.slice y.A y.m y.c])[12]? = _
    have : (bys y.n.l).length = 12 := by rw [bys_len, y.n.len]
    rw [List.getElem?_append_right (by omega), this]
    rfl
/-- What Of leaves. -/
def OfC (r : Nat) (u : Value) (w0 : World) (q : List D.Nd) : Prop := ∀ W, Below w0.heap.size w0 W → Calls Tryz.prog 12 #[u] W fun e W' => Below W.heap.size W W' ∧ ∃ (A : Option Addr) (n c : Nat), e = .returned (.slice A n c) ∧ Ms (fun b => W.heap.size ≤ b) W' r (.slice A n c) q
/-- A part that Of turns. -/
structure Opt (r : Nat) (w0 : World) (x : D.Nd) (p : D.Sl) : Prop where
  bt : D.Bt x
  nm : x.n = [] ∨ Nm.D.isB x.n = true
  m : p.m ≤ 1000
  ks : (x.ws = [] ∧ x.ks = [] ∧ p.m = 0) ∨ (x.t = [] ∧ Nm.D.isB x.n = true ∧ ∃ cs : List (List Nat × Value), Rw 2 w0 p.A p.m (ccs cs) ∧ cs.map (·.1) = x.ws ∧ (∀ u ∈ cs, ∃ (A : Option Addr) (n c : Nat), u.2 = .slice A n c) ∧ cs.length = x.ks.length ∧ ∀ (j : Nat) (t : List Nat) (u : Value) (q : List D.Nd), cs[j]? = some (t, u) → x.ks[j]? = some q → OfC r u w0 q)
theorem ts_nil : Nm.ts (Nm.D.pad (D.sb [])) = D.sb [] := by decide
theorem pad_nil : Nm.D.pad (D.sb []) = Nm.D.zero := by decide
theorem ts_of {x : D.Nd} (h : x.n = [] ∨ Nm.D.isB x.n = true) (h8 : ∀ c ∈ x.n, c < 256) : Nm.ts (D.pnm x) = D.sb x.n := by
  unfold D.pnm
  rcases h with h | h
  · rw [h]; exact ts_nil
  · exact ts_pad h h8
noncomputable def st5 (p v : Value) : Sem Unit := Instr.storeAt 84 p v
theorem st_5 (p v : Value) : Instr.storeAt 84 p v = st5 p v := rfl
theorem run_st5 {w : World} {g : Nat} {cs : Array Value} (h : Blk w g 84 cs) (hs : cs.size = 5) (ds : Array Value) (hd : ds.size = 5) (h1 : ds.all (·.oneCell') = true) :
    ∃ w', (st5 (.pointer (some ⟨g, 0, none⟩)) (.agg ds)).run Tryz.prog w = .ok () w' ∧ Blk w' g 84 ds ∧ Fr (· = g) w w' := by
  have hr : (storeVar 84 ⟨g, 0, none⟩ (.agg ds)).run Tryz.prog w = .ok () (w.setRow g ds) :=
    run_storeVar_row (P := Tryz.prog) w g _ _ cs ds h.out (by rw [hd]; kernel_rfl) (by rw [hs, hd]) h1
  refine ⟨w.setRow g ds, ?_, ⟨?_⟩, ⟨rfl, rfl, rfl, by simp [World.setRow], fun i _ hi => ?_⟩⟩
  · simp only [st5, Instr.storeAt, Instr.sureAddr, Sem.run_bind, Sem.run_pure, Result.andThen_ok]
    exact hr
  · have := h.out
    simp [World.setRow, Array.getElem?_modify, this]
  · have hne : ¬ g = i := fun e => hi e.symm
    simp [World.setRow, Array.getElem?_modify, hne]
attribute [local go_sem ↓] st_5
section
variable {ST T : TypeId} {z : Value} {sz by_ : Nat}
/-- append, where it stands by itself. -/
theorem gappO {w : World} (hu : Tryz.prog.underlying ST = some (.slice T)) (hi : (Tryz.prog.info? T).map (fun i => (i.zero, i.size, i.bytes)) = some (some z, sz, by_)) (hz : z.cells.size = sz) (hs : 0 < sz) (hby : by_ ≤ 1000)
    {o : Oper} {a : Act} {K : Act → World → Prop} {Q : Exit → Act → World → Prop} (s x : Operand)
    (hop : o.op = .call { callee := .builtin .append, args := #[s, x], argTypes := #[ST, ST] })
    {base : Nat} {A B : Option Addr} {n c m d : Nat} {l k : List Value} (hes : a.eval s = .slice A n c) (ho : Ow T sz base w A n c l) (hx : a.eval x = .slice B m d) (hr : Rw sz w B m k) (h1 : ∀ u ∈ k, u.oneCell' = true) (h63 : n + m ≤ 1000000)
    (h : ∀ A' c' w', Ow T sz base w' A' (n + m) c' (l ++ k) → w.grownBy w' (Value.slice A n c).ownBlock → ((Value.slice A' (n + m) c').ownBlock = (Value.slice A n c).ownBlock ∨ (Value.slice A' (n + m) c').ownBlock = some w.heap.size) →
      K (a.put o.dst (.slice A' (n + m) c')) w') : Oper.wp Tryz.prog o a w K Q := by
  obtain ⟨A', c', w', hrun, h2, h3, h4⟩ := run_gapp w hu hi hz hs o.type ho hr h1 h63 hby (d := d)
  unfold Oper.wp execOp
  simp only [hop, resolve, invoke, builtin, Sem.run_bind, Sem.run_pure, Result.andThen_ok, List.map_toArray, List.map_cons, List.map_nil, hes, hx, hrun]
  exact h A' c' w' h2 h3 h4
end
theorem fr_next {w w1 w2 : World} {g : Nat} (h : Fr (· = g) w w1) (b : Below w.heap.size w1 w2) (p : Addr) (hp : p.block = g) (u : Value) : Fr (· = g) w (w2.setCell p u) :=
  ⟨b.os.trans h.os, b.tape.trans h.tape, b.output.trans h.output, by have := b.size; have := h.size; simp; omega, fun i hi hn => by
    rw [Below.heap_setCell w2 p u i (fun e => hn (e.trans hp)), b.block i hi]
    exact h.same i hi hn⟩
set_option maxHeartbeats 32000000 in
theorem of_row (r : Nat) (A : Option Addr) (n c : Nat) (vs : List (D.Nd × D.Sl)) (w0 : World) (hr : Rw 15 w0 A n (nS.rcs (nvs vs))) (hn : n ≤ 1000)
    (hp : ∀ (j : Nat) (x : D.Nd) (p : D.Sl), vs[j]? = some (x, p) → Opt r w0 x p) : OfC (r + 1) (.slice A n c) w0 (vs.map (·.1)) := by
  intro W hW
  have hlen := hr.len
  rw [Shp.rcs_len, nvs_len, show nS.n = 15 from rfl] at hlen
  have hlen : vs.length = n := by omega
  have HR := Lib.hid hr
  have HP := Lib.hid hp
  have HW := Lib.hid hW
  clear hr hp hW
  go_enter Tryz.func12, Tryz.ntmps12
  go_wp2_with fail
  go_loopw [3, 4] (fun s3 s4 wr => ∃ (k : Nat) (A' : Option Addr) (c' : Nat), k ≤ n ∧ s4 = .int .i64 k ∧ s3 = .slice A' k c' ∧ Hid (Ac 84 (r + 1) W.heap.size wr A' k c' ((vs.map (·.1)).take k)) ∧ Hid (Below W.heap.size W wr)) (fun _ i _ => n - (intOf i).toNat)
  case atStart => exact ⟨0, none, 0, Nat.zero_le _, rfl, rfl, Lib.hid (Ac.nil _ _ (Nat.le_refl _)), Lib.hid (Below.refl _ _)⟩
  case round =>
    obtain ⟨k, A', c', hk, rfl, rfl, HA, HZ⟩ := hrel
    obtain ⟨wo, rfl⟩ : ∃ wo : World, wo = wr := ⟨_, rfl⟩
    have hWo : Below w0.heap.size w0 wo := HW.out.trans (HZ.out.mono HW.out.size)
    by_cases hlt : k < n
    · obtain ⟨⟨x, p⟩, ht⟩ : ∃ a, vs[k]? = some a := ⟨_, List.getElem?_eq_getElem (by omega)⟩
      have hx : (vs.map (·.1))[k]? = some x := by simp [ht]
      obtain ⟨ad, rfl, _⟩ := pc_at (HR.out.on hWo) (nvs_at ht)
      have hO := HP.out k x p ht
      obtain ⟨Y, hY⟩ : ∃ Y, nv x p.A p.m p.c = Y := ⟨_, rfl⟩
      have hYk : Y.k = x.k := by rw [← hY]; rfl
      have hYt : Y.t = D.sb x.t := by rw [← hY]; rfl
      have hYn : Y.n = D.pnm x := by rw [← hY]; rfl
      have hYc : Value.slice Y.A Y.m Y.c = .slice p.A p.m p.c := by rw [← hY]; rfl
      have PF : Hid (∀ W', Below wo.heap.size wo W' → PC W' ad k Y) := Lib.hid fun W' h => by
        obtain ⟨ad', e, hpc⟩ := pc_at ((HR.out.on hWo).on h) (nvs_at ht)
        injection e with e
        subst e
        rw [← hY]
        exact hpc
      have hI : (k : Int) < n := by omega
      have hpx : (vs.map (·.1)).take (k + 1) = (vs.map (·.1)).take k ++ [x] := by rw [List.take_add_one, hx]; rfl
      have HPX := Kept.mk hpx
      have HO := Lib.hid hO
      have hts : Nm.ts Y.n = D.sb x.n := by rw [hYn]; exact ts_of hO.nm hO.bt.2.1
      have CT := Lib.hid (fun W' => Nm.ref_text Y.n W')
      rw [hts] at CT
      have hyk0 : Value.int .i64 (Y.k : Nat) = .int .i64 (x.k : Nat) := by rw [hYk]
      have tt : ((D.sb x.n).toList == []) = decide (x.n = []) := by
        have := txt_lit (D.sb x.n) [] [] rfl
        rw [D.ns_sb hO.bt.2.1] at this
        exact this
      have hsm : x.n = [] → Nm.sm Y.n Nm.D.zero = true := fun e => by unfold Nm.sm; exact decide_eq_true (by rw [hYn, D.pnm, e]; exact pad_nil)
      have HYk := Kept.mk hYk
      have HYt := Kept.mk hYt
      clear hx hpx hO hY ht hWo hts hYk hYt hYn hyk0
      go_wp2_with fail
      go_cut [5] from 13 to 29 (fun s5 wx => ∃ k5 : Nat, s5 = .pointer (some ⟨k5, 0, none⟩) ∧ Blk wx k5 84 #[.int .i64 (x.k : Nat), .string (D.sb x.t), .string (D.sb x.n), .slice none 0 0, .slice none 0 0] ∧ wo.heap.size ≤ k5 ∧ Below wo.heap.size wo wx)
      case first =>
        refine wp_region_noPanic ?_
        refine wp_region_held_drew (S := fun W' => Below wo.heap.size wo W') (by kernel_rfl) ((Below.refl _ _).drew) (fun _ => ?_)
        obtain ⟨wd, hwd⟩ : ∃ wd, wo.drew = wd := ⟨_, rfl⟩
        have sd : Below wo.heap.size wo wd := by rw [← hwd]; exact (Below.refl _ _).drew
        rw [hwd]
        clear hwd
        refine takeS 0 (some 13) ?vo0 (by kernel_rfl) (by kernel_rfl) (by kernel_rfl) (by kernel_rfl) (fun _ _ _ h => h) (by rfl) ?hyo0 sd ?resto0
        case hyo0 => (intro o ho W hW; simp only [List.getElem?_toArray, List.getElem?_cons_succ, List.getElem?_cons_zero, Option.some.injEq] at ho; subst ho; (try dsimp only at hW); have PW := PF.out _ hW; have q0 := PW.l; have q1 := PW.k; have q2 := PW.t; have q3 := PW.n; go_simp; try rfl)
        try simp only [Act.put, List.setIfInBounds_toArray, List.set_cons_zero, List.set_cons_succ]
        refine takeS 1 (some 14) ?vo1 (by kernel_rfl) (by kernel_rfl) (by kernel_rfl) (by kernel_rfl) (fun _ _ _ h => h) (by rfl) ?hyo1 sd ?resto1
        case hyo1 => (intro o ho W hW; simp only [List.getElem?_toArray, List.getElem?_cons_succ, List.getElem?_cons_zero, Option.some.injEq] at ho; subst ho; (try dsimp only at hW); have PW := PF.out _ hW; have q0 := PW.l; have q1 := PW.k; have q2 := PW.t; have q3 := PW.n; go_simp; try rfl)
        try simp only [Act.put, List.setIfInBounds_toArray, List.set_cons_zero, List.set_cons_succ]
        refine takeS 2 (some 15) ?vo2 (by kernel_rfl) (by kernel_rfl) (by kernel_rfl) (by kernel_rfl) (fun _ _ _ h => h) (by rfl) ?hyo2 sd ?resto2
        case hyo2 => (intro o ho W hW; simp only [List.getElem?_toArray, List.getElem?_cons_succ, List.getElem?_cons_zero, Option.some.injEq] at ho; subst ho; (try dsimp only at hW); have PW := PF.out _ hW; have q0 := PW.l; have q1 := PW.k; have q2 := PW.t; have q3 := PW.n; go_simp; try rfl)
        try simp only [Act.put, List.setIfInBounds_toArray, List.set_cons_zero, List.set_cons_succ]
        refine takeS 3 (some 16) ?vo3 (by kernel_rfl) (by kernel_rfl) (by kernel_rfl) (by kernel_rfl) (fun _ _ _ h => h) (by rfl) ?hyo3 sd ?resto3
        case hyo3 => (intro o ho W hW; simp only [List.getElem?_toArray, List.getElem?_cons_succ, List.getElem?_cons_zero, Option.some.injEq] at ho; subst ho; (try dsimp only at hW); have PW := PF.out _ hW; have q0 := PW.l; have q1 := PW.k; have q2 := PW.t; have q3 := PW.n; go_simp; try rfl)
        try simp only [Act.put, List.setIfInBounds_toArray, List.set_cons_zero, List.set_cons_succ]
        refine takeS 4 (some 17) ?vo4 (by kernel_rfl) (by kernel_rfl) (by kernel_rfl) (by kernel_rfl) (fun _ _ _ h => h) (by rfl) ?hyo4 sd ?resto4
        case hyo4 => (intro o ho W hW; simp only [List.getElem?_toArray, List.getElem?_cons_succ, List.getElem?_cons_zero, Option.some.injEq] at ho; subst ho; (try dsimp only at hW); have PW := PF.out _ hW; have q0 := PW.l; have q1 := PW.k; have q2 := PW.t; have q3 := PW.n; go_simp; try rfl)
        try simp only [Act.put, List.setIfInBounds_toArray, List.set_cons_zero, List.set_cons_succ]
        refine takeS 5 (some 18) ?vo5 (by kernel_rfl) (by kernel_rfl) (by kernel_rfl) (by kernel_rfl) (fun _ _ _ h => h) (by rfl) ?hyo5 sd ?resto5
        case hyo5 => (intro o ho W hW; simp only [List.getElem?_toArray, List.getElem?_cons_succ, List.getElem?_cons_zero, Option.some.injEq] at ho; subst ho; (try dsimp only at hW); have PW := PF.out _ hW; have q0 := PW.l; have q1 := PW.k; have q2 := PW.t; have q3 := PW.n; go_simp; try rfl)
        try simp only [Act.put, List.setIfInBounds_toArray, List.set_cons_zero, List.set_cons_succ]
        refine takeS 6 (some 19) ?vo6 (by kernel_rfl) (by kernel_rfl) (by kernel_rfl) (by kernel_rfl) (fun _ _ _ h => h) (by rfl) ?hyo6 sd ?resto6
        case hyo6 => (intro o ho W hW; simp only [List.getElem?_toArray, List.getElem?_cons_succ, List.getElem?_cons_zero, Option.some.injEq] at ho; subst ho; (try dsimp only at hW); have PW := PF.out _ hW; have q0 := PW.l; have q1 := PW.k; have q2 := PW.t; have q3 := PW.n; go_simp; try rfl)
        try simp only [Act.put, List.setIfInBounds_toArray, List.set_cons_zero, List.set_cons_succ]
        refine takeS 7 (some 20) ?vo7 (by kernel_rfl) (by kernel_rfl) (by kernel_rfl) (by kernel_rfl) (fun _ _ _ h => h) (by rfl) ?hyo7 sd ?resto7
        case hyo7 => (intro o ho W hW; simp only [List.getElem?_toArray, List.getElem?_cons_succ, List.getElem?_cons_zero, Option.some.injEq] at ho; subst ho; (try dsimp only at hW); have PW := PF.out _ hW; have q0 := PW.l; have q1 := PW.k; have q2 := PW.t; have q3 := PW.n; go_simp; try rfl)
        try simp only [Act.put, List.setIfInBounds_toArray, List.set_cons_zero, List.set_cons_succ]
        refine takeS 8 (some 21) ?vo8 (by kernel_rfl) (by kernel_rfl) (by kernel_rfl) (by kernel_rfl) (fun _ _ _ h => h) (by rfl) ?hyo8 sd ?resto8
        case hyo8 => (intro o ho W hW; simp only [List.getElem?_toArray, List.getElem?_cons_succ, List.getElem?_cons_zero, Option.some.injEq] at ho; subst ho; (try dsimp only at hW); have PW := PF.out _ hW; have q0 := PW.l; have q1 := PW.k; have q2 := PW.t; have q3 := PW.n; go_simp; try rfl)
        try simp only [Act.put, List.setIfInBounds_toArray, List.set_cons_zero, List.set_cons_succ]
        refine takeS 9 (some 22) ?vo9 (by kernel_rfl) (by kernel_rfl) (by kernel_rfl) (by kernel_rfl) (fun _ _ _ h => h) (by rfl) ?hyo9 sd ?resto9
        case hyo9 => (intro o ho W hW; simp only [List.getElem?_toArray, List.getElem?_cons_succ, List.getElem?_cons_zero, Option.some.injEq] at ho; subst ho; (try dsimp only at hW); have PW := PF.out _ hW; have q0 := PW.l; have q1 := PW.k; have q2 := PW.t; have q3 := PW.n; go_simp; try rfl)
        try simp only [Act.put, List.setIfInBounds_toArray, List.set_cons_zero, List.set_cons_succ]
        refine takeS 10 (some 23) ?vo10 (by kernel_rfl) (by kernel_rfl) (by kernel_rfl) (by kernel_rfl) (fun _ _ _ h => h) (by rfl) ?hyo10 sd ?resto10
        case hyo10 => (intro o ho W hW; simp only [List.getElem?_toArray, List.getElem?_cons_succ, List.getElem?_cons_zero, Option.some.injEq] at ho; subst ho; (try dsimp only at hW); have PW := PF.out _ hW; have q0 := PW.l; have q1 := PW.k; have q2 := PW.t; have q3 := PW.n; go_simp; try rfl)
        try simp only [Act.put, List.setIfInBounds_toArray, List.set_cons_zero, List.set_cons_succ]
        refine takeS 11 (some 24) ?vo11 (by kernel_rfl) (by kernel_rfl) (by kernel_rfl) (by kernel_rfl) (fun _ _ _ h => h) (by rfl) ?hyo11 sd ?resto11
        case hyo11 => (intro o ho W hW; simp only [List.getElem?_toArray, List.getElem?_cons_succ, List.getElem?_cons_zero, Option.some.injEq] at ho; subst ho; (try dsimp only at hW); have PW := PF.out _ hW; have q0 := PW.l; have q1 := PW.k; have q2 := PW.t; have q3 := PW.n; go_simp; try rfl)
        try simp only [Act.put, List.setIfInBounds_toArray, List.set_cons_zero, List.set_cons_succ]
        refine takeS 12 (some 25) ?vo12 (by kernel_rfl) (by kernel_rfl) (by kernel_rfl) (by kernel_rfl) (fun _ _ _ h => h) (by rfl) ?hyo12 sd ?resto12
        case hyo12 => (intro o ho W hW; simp only [List.getElem?_toArray, List.getElem?_cons_succ, List.getElem?_cons_zero, Option.some.injEq] at ho; subst ho; (try dsimp only at hW); have PW := PF.out _ hW; have q0 := PW.l; have q1 := PW.k; have q2 := PW.t; have q3 := PW.n; go_simp; try rfl)
        try simp only [Act.put, List.setIfInBounds_toArray, List.set_cons_zero, List.set_cons_succ]
        refine takeS 13 (some 26) ?vo13 (by kernel_rfl) (by kernel_rfl) (by kernel_rfl) (by kernel_rfl) (fun _ _ _ h => h) (by rfl) ?hyo13 sd ?resto13
        case hyo13 => (intro o ho W hW; simp only [List.getElem?_toArray, List.getElem?_cons_succ, List.getElem?_cons_zero, Option.some.injEq] at ho; subst ho; (try dsimp only at hW); have PW := PF.out _ hW; have q0 := PW.l; have q1 := PW.k; have q2 := PW.t; have q3 := PW.n; go_simp; try rfl)
        try simp only [Act.put, List.setIfInBounds_toArray, List.set_cons_zero, List.set_cons_succ]
        refine takeS 14 (some 27) ?vo14 (by kernel_rfl) (by kernel_rfl) (by kernel_rfl) (by kernel_rfl) (fun _ _ _ h => h) (by rfl) ?hyo14 sd ?resto14
        case hyo14 => (intro o ho W hW; simp only [List.getElem?_toArray, List.getElem?_cons_succ, List.getElem?_cons_zero, Option.some.injEq] at ho; subst ho; (try dsimp only at hW); have PW := PF.out _ hW; have q0 := PW.l; have q1 := PW.k; have q2 := PW.t; have q3 := PW.n; go_simp; try rfl)
        try simp only [Act.put, List.setIfInBounds_toArray, List.set_cons_zero, List.set_cons_succ]
        refine forkS 15 17 (by kernel_rfl) (by rfl) (by rfl) (fun o ho K hK => ?_) (fun o ho K hK => ?_)
        · simp only [List.getElem?_toArray, List.getElem?_cons_succ, List.getElem?_cons_zero, Option.some.injEq] at ho; subst ho
          go_simp
          (go_at_call 29; (with_reducible refine (CT.out _).mono ?_); rintro e wi ⟨rfl, bi⟩)
          have s15 : Below wo.heap.size wo wi := sd.trans (bi.mono sd.size)
          refine hK.out _ _ s15 (fun _ => ?_)
          clear hK K
          try simp only [Act.put, List.setIfInBounds_toArray, List.set_cons_zero, List.set_cons_succ]
          refine takeS 16 (some 29) ?vp16 (by kernel_rfl) (by kernel_rfl) (by kernel_rfl) (by kernel_rfl) (fun _ _ _ h => h) (by rfl) ?hyp16 s15 ?restp16
          case hyp16 => (intro o ho W hW; simp only [List.getElem?_toArray, List.getElem?_cons_succ, List.getElem?_cons_zero, Option.some.injEq] at ho; subst ho; (try dsimp only at hW); skip; go_simp; try rfl)
          try simp only [Act.put, List.setIfInBounds_toArray, List.set_cons_zero, List.set_cons_succ]
          refine nextS 17 (by kernel_rfl) (by rfl) (fun o ho K hK => ?_)
          simp only [List.getElem?_toArray, List.getElem?_cons_succ, List.getElem?_cons_zero, Option.some.injEq] at ho; subst ho
          go_simp
          have s17 : Below wo.heap.size wo (wi.alloc (.cells #[.int .i64 0, .string ⟨#[]⟩, .string ⟨#[]⟩, .slice none 0 0, .slice none 0 0] 84)) := s15.alloc s15.size _
          have k17 : Blk (wi.alloc (.cells #[.int .i64 0, .string ⟨#[]⟩, .string ⟨#[]⟩, .slice none 0 0, .slice none 0 0] 84)) wi.heap.size 84 #[.int .i64 0, .string ⟨#[]⟩, .string ⟨#[]⟩, .slice none 0 0, .slice none 0 0] := Blk.new _ _ _
          obtain ⟨w6, hrun, hb, hf⟩ := run_st5 k17 rfl #[.int .i64 (Y.k : Nat), .string Y.t, .string (D.sb x.n), .slice none 0 0, .slice none 0 0] rfl (by simp [Value.oneCell'])
          refine hK.out _ _ s17 (fun _ => ?_)
          clear hK K
          try simp only [Act.put, List.setIfInBounds_toArray, List.set_cons_zero, List.set_cons_succ]
          refine nextS 18 (by kernel_rfl) (by rfl) (fun o ho K hK => ?_)
          simp only [List.getElem?_toArray, List.getElem?_cons_succ, List.getElem?_cons_zero, Option.some.injEq] at ho; subst ho
          go_simp
          have s18 : Below wo.heap.size wo w6 := s17.trans (hf.below s17.size (fun i hi e => by have e' : i = wi.heap.size := e; have := s15.size; omega))
          refine hK.out _ _ s18 (fun _ => ?_)
          clear hK K
          try simp only [Act.put, List.setIfInBounds_toArray, List.set_cons_zero, List.set_cons_succ]
          refine wpAnyH_done (by kernel_rfl) ?_ _
          refine NoPanic.normal ?_
          go_wp2_with fail
          go_meet
          exact ⟨wi.heap.size, rfl, by have := hb; rw [HYk.out, HYt.out] at this; exact this, by first | exact Nat.le_refl _ | exact sd.size | exact s15.size, s18⟩
        · simp only [List.getElem?_toArray, List.getElem?_cons_succ, List.getElem?_cons_zero, Option.some.injEq] at ho; subst ho
          go_simp
          have s17 : Below wo.heap.size wo (wd.alloc (.cells #[.int .i64 0, .string ⟨#[]⟩, .string ⟨#[]⟩, .slice none 0 0, .slice none 0 0] 84)) := sd.alloc sd.size _
          have k17 : Blk (wd.alloc (.cells #[.int .i64 0, .string ⟨#[]⟩, .string ⟨#[]⟩, .slice none 0 0, .slice none 0 0] 84)) wd.heap.size 84 #[.int .i64 0, .string ⟨#[]⟩, .string ⟨#[]⟩, .slice none 0 0, .slice none 0 0] := Blk.new _ _ _
          refine hK.out _ _ s17 (fun _ => ?_)
          clear hK K
          try simp only [Act.put, List.setIfInBounds_toArray, List.set_cons_zero, List.set_cons_succ]
          refine nextS 15 (by kernel_rfl) (by rfl) (fun o ho K hK => ?_)
          simp only [List.getElem?_toArray, List.getElem?_cons_succ, List.getElem?_cons_zero, Option.some.injEq] at ho; subst ho
          go_simp
          (go_at_call 29; (with_reducible refine (CT.out _).mono ?_); rintro e wi ⟨rfl, bi⟩)
          have s15 : Below wo.heap.size wo wi := s17.trans (bi.mono s17.size)
          obtain ⟨w6, hrun, hb, hf⟩ := run_st5 (k17.on bi) rfl #[.int .i64 (Y.k : Nat), .string Y.t, .string (D.sb x.n), .slice none 0 0, .slice none 0 0] rfl (by simp [Value.oneCell'])
          refine hK.out _ _ s15 (fun _ => ?_)
          clear hK K
          try simp only [Act.put, List.setIfInBounds_toArray, List.set_cons_zero, List.set_cons_succ]
          refine takeS 16 (some 29) ?vq16 (by kernel_rfl) (by kernel_rfl) (by kernel_rfl) (by kernel_rfl) (fun _ _ _ h => h) (by rfl) ?hyq16 s15 ?restq16
          case hyq16 => (intro o ho W hW; simp only [List.getElem?_toArray, List.getElem?_cons_succ, List.getElem?_cons_zero, Option.some.injEq] at ho; subst ho; (try dsimp only at hW); skip; go_simp; try rfl)
          try simp only [Act.put, List.setIfInBounds_toArray, List.set_cons_zero, List.set_cons_succ]
          refine nextS 18 (by kernel_rfl) (by rfl) (fun o ho K hK => ?_)
          simp only [List.getElem?_toArray, List.getElem?_cons_succ, List.getElem?_cons_zero, Option.some.injEq] at ho; subst ho
          go_simp
          have s18 : Below wo.heap.size wo w6 := s15.trans (hf.below s15.size (fun i hi e => by have e' : i = wd.heap.size := e; have := sd.size; omega))
          refine hK.out _ _ s18 (fun _ => ?_)
          clear hK K
          try simp only [Act.put, List.setIfInBounds_toArray, List.set_cons_zero, List.set_cons_succ]
          refine wpAnyH_done (by kernel_rfl) ?_ _
          refine NoPanic.normal ?_
          go_wp2_with fail
          go_meet
          exact ⟨wd.heap.size, rfl, by have := hb; rw [HYk.out, HYt.out] at this; exact this, by first | exact Nat.le_refl _ | exact sd.size | exact s15.size, s18⟩
      case rest =>
        obtain ⟨k5, rfl, hb5, hk5, hz5⟩ := hcut
        obtain ⟨w5, rfl⟩ : ∃ w5 : World, w5 = wc := ⟨_, rfl⟩
        have HB5 := Lib.hid hb5
        have HZ5 := Lib.hid hz5
        have PC5 := PF.out _ hz5
        have q0 := PC5.l
        have q3 := PC5.n
        have q4 := PC5.c
        rw [hYc] at q4
        have c0 := hb5.c_ 0; have c1 := hb5.c_ 1; have c2 := hb5.c_ 2; have c3 := hb5.c_ 3; have c4 := hb5.c_ 4; have c5 := hb5.lt
        have hl5 : W.heap.size ≤ k5 := Nat.le_trans HZ.out.size hk5
        have HA5 := Lib.hid (HA.out.on hz5)
        have HZ6 := Lib.hid (HZ.out.trans (hz5.mono HZ.out.size))
        have HO5 := HO.out
        have HYc := Kept.mk hYc
        clear hb5 hz5 PC5 hYc
        by_cases hlf : x.ks = []
        · have hw0 : x.ws = [] ∧ p.m = 0 := by
            rcases HO5.ks with ⟨h1, h2, h3⟩ | ⟨_, _, cs, hrc, hcw, _, hcl, _⟩
            · exact ⟨h1, h3⟩
            · rw [hlf] at hcl
              have h0 : cs = [] := List.eq_nil_of_length_eq_zero hcl
              have := hrc.len
              rw [h0] at this hcw
              simp [ccs] at this hcw
              exact ⟨hcw, by omega⟩
          obtain ⟨hw1, hm0⟩ := hw0
          rw [hm0] at q4
          have HBL : Hid (Bel (Kd (Fo W.heap.size (Value.slice A' k c').ownBlock) w5 (r + 1)) (Fo W.heap.size (Value.slice A' k c').ownBlock) w5 x (.slice none 0 0) (.slice none 0 0)) := Lib.hid (by
            obtain ⟨xk, xt, xn, xw, xs⟩ := x
            simp only [D.Nd.ks, D.Nd.ws] at hlf hw1
            subst hlf hw1
            exact bel_leaf HO5.bt.1 HO5.bt.2.1)
          clear HO5 hw1 hm0 hlf
          by_cases hne : x.n = []
          · have ts := hsm hne
            rw [decide_eq_true hne] at tt
            clear hne hsm
            go_wp2_with fail
            go_loopw [6] (fun s6 wr => s6 = .int .i64 0 ∧ wr = w5) (fun _ _ => 0)
            case atStart => exact ⟨rfl, rfl⟩
            case round =>
              obtain ⟨rfl, rfl⟩ := hrel
              go_wp2_with (at_builtin; refine papp rfl (.tmp 82) (.tmp 84) rfl rfl (HA5.out.on ((Below.refl _ _).alloc (Nat.le_refl _) _)) rfl (rw_part _ _ rfl x (.slice none 0 0) (.slice none 0 0) _ rfl) rfl rfl ((HBL.out.keep (keeps_below (below_alloc_ _ _)))) (by omega) ?_; intro A1 c1 w3 h3 hb3 _)
              go_roundw
              case rel => exact ⟨k + 1, A1, c1, by omega, by go_num, rfl, Lib.hid (by rw [HPX.out]; exact h3), Lib.hid ((HZ6.out.alloc HZ6.out.size _).trans hb3)⟩
              case measure => simp [intOf]; omega
          · rw [decide_eq_false hne] at tt
            clear hne hsm
            go_wp2_with fail
            go_loopw [6] (fun s6 wr => s6 = .int .i64 0 ∧ wr = w5) (fun _ _ => 0)
            case atStart => exact ⟨rfl, rfl⟩
            case round =>
              obtain ⟨rfl, rfl⟩ := hrel
              go_wp2_with (at_builtin; refine papp rfl (.tmp 82) (.tmp 84) rfl rfl (HA5.out.on ((Below.refl _ _).alloc (Nat.le_refl _) _)) rfl (rw_part _ _ rfl x (.slice none 0 0) (.slice none 0 0) _ rfl) rfl rfl ((HBL.out.keep (keeps_below (below_alloc_ _ _)))) (by omega) ?_; intro A1 c1 w3 h3 hb3 _)
              go_roundw
              case rel => exact ⟨k + 1, A1, c1, by omega, by go_num, rfl, Lib.hid (by rw [HPX.out]; exact h3), Lib.hid ((HZ6.out.alloc HZ6.out.size _).trans hb3)⟩
              case measure => simp [intOf]; omega
        · obtain ⟨htn, hib, cs, hrc, hcw, h1s, hcl, hK⟩ : x.t = [] ∧ Nm.D.isB x.n = true ∧ ∃ cs : List (List Nat × Value), Rw 2 w0 p.A p.m (ccs cs) ∧ cs.map (·.1) = x.ws ∧ (∀ u ∈ cs, ∃ (A : Option Addr) (n c : Nat), u.2 = .slice A n c) ∧ cs.length = x.ks.length ∧ ∀ (j : Nat) (t : List Nat) (u : Value) (q : List D.Nd), cs[j]? = some (t, u) → x.ks[j]? = some q → OfC r u w0 q := by
            rcases HO5.ks with ⟨_, h2, _⟩ | h
            · exact absurd h2 hlf
            · exact h
          have hne : x.n ≠ [] := fun e => by rw [e] at hib; exact absurd hib (by decide)
          rw [decide_eq_false hne] at tt
          have hml := hrc.len
          rw [ccs_len] at hml
          have hml : cs.length = p.m := by omega
          have hwl : x.ws.length = p.m := by rw [← hcw, List.length_map]; exact hml
          have hkl : x.ks.length = p.m := by omega
          have hpm := HO5.m
          have h8n := HO5.bt.2.1
          have h8w := HO5.bt.2.2
          obtain ⟨X, hX⟩ : ∃ X, x = X := ⟨_, rfl⟩
          obtain ⟨pm, hpmm⟩ : ∃ pm, p.m = pm := ⟨_, rfl⟩
          obtain ⟨pA, hpA⟩ : ∃ pA, p.A = pA := ⟨_, rfl⟩
          obtain ⟨pc, hpc⟩ : ∃ pc, p.c = pc := ⟨_, rfl⟩
          rw [hpmm, hpA, hpc] at q4
          rw [hpmm] at hml hwl hkl hpm
          rw [hpmm, hpA] at hrc
          have PF4 : Hid (∀ W', Below wo.heap.size wo W' → ad.block < W'.heap.size ∧ W'.cell? ⟨(ad.add (k * 15)).block, (ad.add (k * 15)).off + 14, none⟩ = some (.slice pA pm pc)) := Lib.hid fun W' h => ⟨(PF.out W' h).l, by have := (PF.out W' h).c; rw [HYc.out, hpmm, hpA, hpc] at this; exact this⟩
          have HRC := Lib.hid hrc
          have HCW := Kept.mk hcw
          have H1S := Lib.hid h1s
          have HK := Lib.hid hK
          have H8N := Lib.hid h8n
          have H8W := Lib.hid h8w
          have HTN := Kept.mk htn
          have HWL := Kept.mk hwl
          have HKL := Kept.mk hkl
          have HML := Kept.mk hml
          have HWO := Lib.hid (HW.out.trans (HZ.out.mono HW.out.size))
          have HW0 := Lib.hid HW.out.size
          have hcz : Cz r w5.heap.size k5 w5 x.k x.n none 0 0 none 0 0 [] [] := by
            refine ⟨?_, c5, Ow.nil _ _ (Nat.le_refl _), ⟨[], Ow.nil _ _ (Nat.le_refl _), rfl, (fun u h => by cases h), fun j u q h => by simp at h⟩, fun w h => by cases h⟩
            have := HB5.out
            rw [htn] at this
            exact this
          have HC0 := Lib.hid hcz
          clear hX hpmm hpA hpc hrc hcw h1s hK h8n h8w htn hwl hkl hml hne hib hcl hcz HO5 hlf
          go_wp2_with fail
          go_loopw [6] (fun s6 wr => ∃ (q : Nat) (A1 : Option Addr) (c1 : Nat) (B1 : Option Addr) (e1 : Nat), q ≤ pm ∧ s6 = .int .i64 q ∧ Hid (Cz r w5.heap.size k5 wr x.k x.n A1 q c1 B1 q e1 (x.ws.take q) (x.ks.take q)) ∧ Hid (Fr (· = k5) w5 wr)) (fun i _ => pm - (intOf i).toNat)
          case atStart => exact ⟨0, none, 0, none, 0, Nat.zero_le _, rfl, HC0, Lib.hid (Fr.refl _ _)⟩
          case round =>
            obtain ⟨q, A1, c1, B1, e1, hq, rfl, HC, HF⟩ := hrel
            obtain ⟨wi, rfl⟩ : ∃ wi : World, wi = wr := ⟨_, rfl⟩
            have hk5c : k5 < w5.heap.size := HC0.out.low
            have hbi : Below k5 w5 wi := HF.out.below (Nat.le_of_lt hk5c) fun i hi e => by have e' : i = k5 := e; omega
            have hoi : Below wo.heap.size wo wi := HZ5.out.trans (hbi.mono hk5)
            have HOI := Lib.hid hoi
            obtain ⟨z0, z1⟩ := PF4.out _ hoi
            have d0 := HC.out.blk.c
            have d5 := HC.out.blk.lt
            by_cases hlq : q < pm
            · obtain ⟨⟨tq, uq⟩, hcq⟩ : ∃ a, cs[q]? = some a := ⟨_, List.getElem?_eq_getElem (by rw [HML.out]; exact hlq)⟩
              obtain ⟨kq, hkq⟩ : ∃ a, x.ks[q]? = some a := ⟨_, List.getElem?_eq_getElem (by rw [HKL.out]; exact hlq)⟩
              obtain ⟨Au, nu, cu, huq⟩ := H1S.out _ (List.mem_of_getElem? hcq)
              have huq : uq = .slice Au nu cu := huq
              subst huq
              have hwq : x.ws[q]? = some tq := by rw [← HCW.out]; simp [hcq]
              have ht8 := Lib.hid (H8W.out tq (List.mem_of_getElem? hwq))
              obtain ⟨adc, rfl, _⟩ := case_cells (HRC.out.on (HWO.out.trans (hoi.mono HWO.out.size))) hcq
              have CCF : Hid (∀ W', Below k5 wi W' → adc.block < W'.heap.size ∧ W'.cell? (adc.add (q * 2)) = some (.string (D.sb tq)) ∧ W'.cell? ⟨(adc.add (q * 2)).block, (adc.add (q * 2)).off + 1, none⟩ = some (.slice Au nu cu)) := Lib.hid fun W' h => by
                obtain ⟨ad', e, h1, h2, h3⟩ := case_cells (HRC.out.on (HWO.out.trans ((HOI.out.trans (h.mono hk5)).mono HWO.out.size))) hcq
                injection e with e
                subst e
                exact ⟨h1, h2, h3⟩
              have PFi : Hid (∀ W', Below k5 wi W' → ad.block < W'.heap.size ∧ W'.cell? ⟨(ad.add (k * 15)).block, (ad.add (k * 15)).off + 14, none⟩ = some (.slice (some adc) pm pc)) := Lib.hid fun W' h => PF4.out W' (HOI.out.trans (h.mono hk5))
              have COF := Lib.hid (fun W' (h : Below k5 wi W') => HK.out q tq _ kq hcq hkq W' (HWO.out.trans ((HOI.out.trans (h.mono hk5)).mono HWO.out.size)))
              have hIq : (q : Int) < pm := by omega
              have hws1 : x.ws.take (q + 1) = x.ws.take q ++ [tq] := by rw [List.take_add_one, hwq]; rfl
              have hks1 : x.ks.take (q + 1) = x.ks.take q ++ [kq] := by rw [List.take_add_one, hkq]; rfl
              have HWS := Kept.mk hws1
              have HKS := Kept.mk hks1
              clear hcq hkq hwq hws1 hks1 hoi
              go_wp2_with fail
              go_cut [53] from 53 to 66 (fun s53 wx => ∃ (A5 : Option Addr) (c6 : Nat), Cz r w5.heap.size k5 wx x.k x.n A5 (q + 1) c6 B1 q e1 (x.ws.take (q + 1)) (x.ks.take q) ∧ Fr (· = k5) w5 wx ∧ Below k5 wi wx)
              case first =>
                refine wp_region_noPanic ?_
                refine wp_region_held_drew (S := fun W' => Below k5 wi W') (by kernel_rfl) ((Below.refl _ _).drew.mono (Nat.le_of_lt (Nat.lt_of_lt_of_le hk5c HF.out.size))) (fun _ => ?_)
                obtain ⟨wd, hwd⟩ : ∃ wd, wi.drew = wd := ⟨_, rfl⟩
                have bd : Below wi.heap.size wi wd := by rw [← hwd]; exact (Below.refl _ _).drew
                have sd : Below k5 wi wd := bd.mono (Nat.le_of_lt d5)
                have HCd := Lib.hid (HC.out.on bd)
                rw [hwd]
                clear hwd
                refine takeS 0 (some 53) ?vr0 (by kernel_rfl) (by kernel_rfl) (by kernel_rfl) (by kernel_rfl) (fun _ _ _ h => h) (by rfl) ?hyr0 sd ?restr0
                case hyr0 => (intro o ho W hW; simp only [List.getElem?_toArray, List.getElem?_cons_succ, List.getElem?_cons_zero, Option.some.injEq] at ho; subst ho; (try dsimp only at hW); obtain ⟨q0, q1⟩ := PFi.out _ hW; obtain ⟨p0, p1, p2⟩ := CCF.out _ hW; have p5 := Nat.lt_of_lt_of_le d5 hW.size; go_simp; try rfl)
                try simp only [Act.put, List.setIfInBounds_toArray, List.set_cons_zero, List.set_cons_succ]
                refine takeS 2 (some 55) ?vr2 (by kernel_rfl) (by kernel_rfl) (by kernel_rfl) (by kernel_rfl) (fun _ _ _ h => h) (by rfl) ?hyr2 sd ?restr2
                case hyr2 => (intro o ho W hW; simp only [List.getElem?_toArray, List.getElem?_cons_succ, List.getElem?_cons_zero, Option.some.injEq] at ho; subst ho; (try dsimp only at hW); obtain ⟨q0, q1⟩ := PFi.out _ hW; obtain ⟨p0, p1, p2⟩ := CCF.out _ hW; have p5 := Nat.lt_of_lt_of_le d5 hW.size; go_simp; try rfl)
                try simp only [Act.put, List.setIfInBounds_toArray, List.set_cons_zero, List.set_cons_succ]
                refine takeS 3 (some 56) ?vr3 (by kernel_rfl) (by kernel_rfl) (by kernel_rfl) (by kernel_rfl) (fun _ _ _ h => h) (by rfl) ?hyr3 sd ?restr3
                case hyr3 => (intro o ho W hW; simp only [List.getElem?_toArray, List.getElem?_cons_succ, List.getElem?_cons_zero, Option.some.injEq] at ho; subst ho; (try dsimp only at hW); obtain ⟨q0, q1⟩ := PFi.out _ hW; obtain ⟨p0, p1, p2⟩ := CCF.out _ hW; have p5 := Nat.lt_of_lt_of_le d5 hW.size; go_simp; try rfl)
                try simp only [Act.put, List.setIfInBounds_toArray, List.set_cons_zero, List.set_cons_succ]
                refine takeS 4 (some 57) ?vr4 (by kernel_rfl) (by kernel_rfl) (by kernel_rfl) (by kernel_rfl) (fun _ _ _ h => h) (by rfl) ?hyr4 sd ?restr4
                case hyr4 => (intro o ho W hW; simp only [List.getElem?_toArray, List.getElem?_cons_succ, List.getElem?_cons_zero, Option.some.injEq] at ho; subst ho; (try dsimp only at hW); obtain ⟨q0, q1⟩ := PFi.out _ hW; obtain ⟨p0, p1, p2⟩ := CCF.out _ hW; have p5 := Nat.lt_of_lt_of_le d5 hW.size; go_simp; try rfl)
                try simp only [Act.put, List.setIfInBounds_toArray, List.set_cons_zero, List.set_cons_succ]
                refine takeS 5 (some 58) ?vr5 (by kernel_rfl) (by kernel_rfl) (by kernel_rfl) (by kernel_rfl) (fun _ _ _ h => h) (by rfl) ?hyr5 sd ?restr5
                case hyr5 => (intro o ho W hW; simp only [List.getElem?_toArray, List.getElem?_cons_succ, List.getElem?_cons_zero, Option.some.injEq] at ho; subst ho; (try dsimp only at hW); obtain ⟨q0, q1⟩ := PFi.out _ hW; obtain ⟨p0, p1, p2⟩ := CCF.out _ hW; have p5 := Nat.lt_of_lt_of_le d5 hW.size; go_simp; try rfl)
                try simp only [Act.put, List.setIfInBounds_toArray, List.set_cons_zero, List.set_cons_succ]
                refine takeS 6 (some 59) ?vr6 (by kernel_rfl) (by kernel_rfl) (by kernel_rfl) (by kernel_rfl) (fun _ _ _ h => h) (by rfl) ?hyr6 sd ?restr6
                case hyr6 => (intro o ho W hW; simp only [List.getElem?_toArray, List.getElem?_cons_succ, List.getElem?_cons_zero, Option.some.injEq] at ho; subst ho; (try dsimp only at hW); obtain ⟨q0, q1⟩ := PFi.out _ hW; obtain ⟨p0, p1, p2⟩ := CCF.out _ hW; have p5 := Nat.lt_of_lt_of_le d5 hW.size; go_simp; try rfl)
                try simp only [Act.put, List.setIfInBounds_toArray, List.set_cons_zero, List.set_cons_succ]
                refine takeS 7 (some 60) ?vr7 (by kernel_rfl) (by kernel_rfl) (by kernel_rfl) (by kernel_rfl) (fun _ _ _ h => h) (by rfl) ?hyr7 sd ?restr7
                case hyr7 => (intro o ho W hW; simp only [List.getElem?_toArray, List.getElem?_cons_succ, List.getElem?_cons_zero, Option.some.injEq] at ho; subst ho; (try dsimp only at hW); obtain ⟨q0, q1⟩ := PFi.out _ hW; obtain ⟨p0, p1, p2⟩ := CCF.out _ hW; have p5 := Nat.lt_of_lt_of_le d5 hW.size; go_simp; try rfl)
                try simp only [Act.put, List.setIfInBounds_toArray, List.set_cons_zero, List.set_cons_succ]
                refine takeS 8 (some 61) ?vr8 (by kernel_rfl) (by kernel_rfl) (by kernel_rfl) (by kernel_rfl) (fun _ _ _ h => h) (by rfl) ?hyr8 sd ?restr8
                case hyr8 => (intro o ho W hW; simp only [List.getElem?_toArray, List.getElem?_cons_succ, List.getElem?_cons_zero, Option.some.injEq] at ho; subst ho; (try dsimp only at hW); obtain ⟨q0, q1⟩ := PFi.out _ hW; obtain ⟨p0, p1, p2⟩ := CCF.out _ hW; have p5 := Nat.lt_of_lt_of_le d5 hW.size; go_simp; try rfl)
                try simp only [Act.put, List.setIfInBounds_toArray, List.set_cons_zero, List.set_cons_succ]
                refine takeS 9 (some 62) ?vr9 (by kernel_rfl) (by kernel_rfl) (by kernel_rfl) (by kernel_rfl) (fun _ _ _ h => h) (by rfl) ?hyr9 sd ?restr9
                case hyr9 => (intro o ho W hW; simp only [List.getElem?_toArray, List.getElem?_cons_succ, List.getElem?_cons_zero, Option.some.injEq] at ho; subst ho; (try dsimp only at hW); obtain ⟨q0, q1⟩ := PFi.out _ hW; obtain ⟨p0, p1, p2⟩ := CCF.out _ hW; have p5 := Nat.lt_of_lt_of_le d5 hW.size; go_simp; try rfl)
                try simp only [Act.put, List.setIfInBounds_toArray, List.set_cons_zero, List.set_cons_succ]
                refine takeS 10 (some 63) ?vr10 (by kernel_rfl) (by kernel_rfl) (by kernel_rfl) (by kernel_rfl) (fun _ _ _ h => h) (by rfl) ?hyr10 sd ?restr10
                case hyr10 => (intro o ho W hW; simp only [List.getElem?_toArray, List.getElem?_cons_succ, List.getElem?_cons_zero, Option.some.injEq] at ho; subst ho; (try dsimp only at hW); obtain ⟨q0, q1⟩ := PFi.out _ hW; obtain ⟨p0, p1, p2⟩ := CCF.out _ hW; have p5 := Nat.lt_of_lt_of_le d5 hW.size; go_simp; try rfl)
                try simp only [Act.put, List.setIfInBounds_toArray, List.set_cons_zero, List.set_cons_succ]
                refine forkS 1 11 (by kernel_rfl) (by rfl) (by rfl) (fun o ho K hK => ?_) (fun o ho K hK => ?_)
                · simp only [List.getElem?_toArray, List.getElem?_cons_succ, List.getElem?_cons_zero, Option.some.injEq] at ho; subst ho
                  have p3 := HCd.out.blk.c_ 3
                  have p5 := HCd.out.blk.lt
                  go_simp
                  refine hK.out _ _ sd (fun _ => ?_)
                  clear hK K
                  try simp only [Act.put, List.setIfInBounds_toArray, List.set_cons_zero, List.set_cons_succ]
                  refine nextS 11 (by kernel_rfl) (by rfl) (fun o ho K hK => ?_)
                  simp only [List.getElem?_toArray, List.getElem?_cons_succ, List.getElem?_cons_zero, Option.some.injEq] at ho; subst ho
                  go_simp
                  have sa : Below k5 wi (wd.alloc (.cells #[.string (D.sb tq)] 9)) := sd.alloc (by have := bd.size; omega) _
                  have ba : Below wd.heap.size wd (wd.alloc (.cells #[.string (D.sb tq)] 9)) := below_alloc_ _ _
                  have HCa := Lib.hid (HCd.out.on ba)
                  refine hK.out _ _ sa (fun _ => ?_)
                  clear hK K
                  try simp only [Act.put, List.setIfInBounds_toArray, List.set_cons_zero, List.set_cons_succ]
                  refine nextS 12 (by kernel_rfl) (by rfl) (fun o ho K hK => ?_)
                  simp only [List.getElem?_toArray, List.getElem?_cons_succ, List.getElem?_cons_zero, Option.some.injEq] at ho; subst ho
                  refine gappO str_under str_inf8 rfl (by decide) (by decide) (.tmp 54) (.tmp 64) rfl rfl HCa.out.wds rfl (rw_one wd _ rfl 9 (.string (D.sb tq))) (fun u h => by simp at h; rw [h]; rfl) (by omega) ?_
                  intro A5 c6 w3 h3 hg3 hor3
                  have s3 : Below k5 wi w3 := sa.trans ((ow_below HCa.out.wds hg3).mono (Nat.le_of_lt HCa.out.low))
                  have l3 : k5 < w3.heap.size := Nat.lt_of_lt_of_le HCa.out.blk.lt hg3.size
                  refine hK.out _ _ s3 (fun _ => ?_)
                  clear hK K
                  try simp only [Act.put, List.setIfInBounds_toArray, List.set_cons_zero, List.set_cons_succ]
                  refine takeS 13 (some 66) ?vs13 (by kernel_rfl) (by kernel_rfl) (by kernel_rfl) (by kernel_rfl) (fun _ _ _ h => h) (by rfl) ?hys13 s3 ?rests13
                  case hys13 => (intro o ho W hW; simp only [List.getElem?_toArray, List.getElem?_cons_succ, List.getElem?_cons_zero, Option.some.injEq] at ho; subst ho; (try dsimp only at hW); have p5 := Nat.lt_of_lt_of_le d5 hW.size; go_simp; try rfl)
                  try simp only [Act.put, List.setIfInBounds_toArray, List.set_cons_zero, List.set_cons_succ]
                  have P3 := HCa.out.blk.grown hg3 (fun e => by have := (HCa.out.wds.lt _ e.symm).1; have := HCa.out.low; omega)
                  have p3c := P3.c_ 3
                  have p3f := P3.f_ 3
                  refine nextS 14 (by kernel_rfl) (by rfl) (fun o ho K hK => ?_)
                  simp only [List.getElem?_toArray, List.getElem?_cons_succ, List.getElem?_cons_zero, Option.some.injEq] at ho; subst ho
                  go_simp
                  have s4 : Below k5 wi (w3.setCell ⟨k5, 3, none⟩ (.slice A5 (q + 1) c6)) := s3.setCell (Nat.le_refl _) _
                  refine hK.out _ _ s4 (fun _ => ?_)
                  clear hK K
                  try simp only [Act.put, List.setIfInBounds_toArray, List.set_cons_zero, List.set_cons_succ]
                  refine wpAnyH_done (by kernel_rfl) ?_ _
                  refine NoPanic.normal ?_
                  go_wp2_with fail
                  go_meet
                  refine ⟨A5, c6, ?_, ?_, s4⟩
                  · rw [HWS.out]; exact HCa.out.word hg3 hor3 (t := tq) h3 ht8.out
                  · exact fr_next HF.out (((bd.mono HF.out.size).trans (ba.mono (Nat.le_trans HF.out.size bd.size))).trans (ow_below HCa.out.wds hg3)) ⟨k5, 3, none⟩ rfl _
                · simp only [List.getElem?_toArray, List.getElem?_cons_succ, List.getElem?_cons_zero, Option.some.injEq] at ho; subst ho
                  go_simp
                  have sa : Below k5 wi (wd.alloc (.cells #[.string (D.sb tq)] 9)) := sd.alloc (by have := bd.size; omega) _
                  have ba : Below wd.heap.size wd (wd.alloc (.cells #[.string (D.sb tq)] 9)) := below_alloc_ _ _
                  have HCa := Lib.hid (HCd.out.on ba)
                  refine hK.out _ _ sa (fun _ => ?_)
                  clear hK K
                  try simp only [Act.put, List.setIfInBounds_toArray, List.set_cons_zero, List.set_cons_succ]
                  have p3 := HCa.out.blk.c_ 3
                  have p5 := HCa.out.blk.lt
                  refine nextS 1 (by kernel_rfl) (by rfl) (fun o ho K hK => ?_)
                  simp only [List.getElem?_toArray, List.getElem?_cons_succ, List.getElem?_cons_zero, Option.some.injEq] at ho; subst ho
                  go_simp
                  refine hK.out _ _ sa (fun _ => ?_)
                  clear hK K
                  try simp only [Act.put, List.setIfInBounds_toArray, List.set_cons_zero, List.set_cons_succ]
                  refine nextS 12 (by kernel_rfl) (by rfl) (fun o ho K hK => ?_)
                  simp only [List.getElem?_toArray, List.getElem?_cons_succ, List.getElem?_cons_zero, Option.some.injEq] at ho; subst ho
                  refine gappO str_under str_inf8 rfl (by decide) (by decide) (.tmp 54) (.tmp 64) rfl rfl HCa.out.wds rfl (rw_one wd _ rfl 9 (.string (D.sb tq))) (fun u h => by simp at h; rw [h]; rfl) (by omega) ?_
                  intro A5 c6 w3 h3 hg3 hor3
                  have s3 : Below k5 wi w3 := sa.trans ((ow_below HCa.out.wds hg3).mono (Nat.le_of_lt HCa.out.low))
                  have l3 : k5 < w3.heap.size := Nat.lt_of_lt_of_le HCa.out.blk.lt hg3.size
                  refine hK.out _ _ s3 (fun _ => ?_)
                  clear hK K
                  try simp only [Act.put, List.setIfInBounds_toArray, List.set_cons_zero, List.set_cons_succ]
                  refine takeS 13 (some 66) ?vt13 (by kernel_rfl) (by kernel_rfl) (by kernel_rfl) (by kernel_rfl) (fun _ _ _ h => h) (by rfl) ?hyt13 s3 ?restt13
                  case hyt13 => (intro o ho W hW; simp only [List.getElem?_toArray, List.getElem?_cons_succ, List.getElem?_cons_zero, Option.some.injEq] at ho; subst ho; (try dsimp only at hW); have p5 := Nat.lt_of_lt_of_le d5 hW.size; go_simp; try rfl)
                  try simp only [Act.put, List.setIfInBounds_toArray, List.set_cons_zero, List.set_cons_succ]
                  have P3 := HCa.out.blk.grown hg3 (fun e => by have := (HCa.out.wds.lt _ e.symm).1; have := HCa.out.low; omega)
                  have p3c := P3.c_ 3
                  have p3f := P3.f_ 3
                  refine nextS 14 (by kernel_rfl) (by rfl) (fun o ho K hK => ?_)
                  simp only [List.getElem?_toArray, List.getElem?_cons_succ, List.getElem?_cons_zero, Option.some.injEq] at ho; subst ho
                  go_simp
                  have s4 : Below k5 wi (w3.setCell ⟨k5, 3, none⟩ (.slice A5 (q + 1) c6)) := s3.setCell (Nat.le_refl _) _
                  refine hK.out _ _ s4 (fun _ => ?_)
                  clear hK K
                  try simp only [Act.put, List.setIfInBounds_toArray, List.set_cons_zero, List.set_cons_succ]
                  refine wpAnyH_done (by kernel_rfl) ?_ _
                  refine NoPanic.normal ?_
                  go_wp2_with fail
                  go_meet
                  refine ⟨A5, c6, ?_, ?_, s4⟩
                  · rw [HWS.out]; exact HCa.out.word hg3 hor3 (t := tq) h3 ht8.out
                  · exact fr_next HF.out (((bd.mono HF.out.size).trans (ba.mono (Nat.le_trans HF.out.size bd.size))).trans (ow_below HCa.out.wds hg3)) ⟨k5, 3, none⟩ rfl _
              case rest =>
                obtain ⟨A5, c6, hcz2, hfr2, hbw⟩ := hcut
                obtain ⟨w6, rfl⟩ : ∃ w6 : World, w6 = wc := ⟨_, rfl⟩
                have HC6 := Lib.hid hcz2
                have HF6 := Lib.hid hfr2
                have HBW := Lib.hid hbw
                have l6 := hcz2.blk.lt
                clear hcz2 hfr2 hbw d0 d5 z0 z1
                go_wp2_with fail
                refine wp_region_noPanic ?_
                refine wp_region_held_drew (S := fun W' => Below k5 w6 W') (by kernel_rfl) ((Below.refl _ _).drew.mono (Nat.le_of_lt l6)) (fun _ => ?_)
                obtain ⟨wd, hwd⟩ : ∃ wd, w6.drew = wd := ⟨_, rfl⟩
                have bd : Below w6.heap.size w6 wd := by rw [← hwd]; exact (Below.refl _ _).drew
                have sd : Below k5 w6 wd := bd.mono (Nat.le_of_lt l6)
                have HCd := Lib.hid (HC6.out.on bd)
                rw [hwd]
                clear hwd
                refine takeS 0 (some 67) ?vu0 (by kernel_rfl) (by kernel_rfl) (by kernel_rfl) (by kernel_rfl) (fun _ _ _ h => h) (by rfl) ?hyu0 sd ?restu0
                case hyu0 => (intro o ho W hW; simp only [List.getElem?_toArray, List.getElem?_cons_succ, List.getElem?_cons_zero, Option.some.injEq] at ho; subst ho; (try dsimp only at hW); obtain ⟨q0, q1⟩ := PFi.out _ (HBW.out.trans hW); obtain ⟨p0, p1, p2⟩ := CCF.out _ (HBW.out.trans hW); have p5 := Nat.lt_of_lt_of_le l6 hW.size; go_simp; try rfl)
                try simp only [Act.put, List.setIfInBounds_toArray, List.set_cons_zero, List.set_cons_succ]
                refine takeS 2 (some 69) ?vu2 (by kernel_rfl) (by kernel_rfl) (by kernel_rfl) (by kernel_rfl) (fun _ _ _ h => h) (by rfl) ?hyu2 sd ?restu2
                case hyu2 => (intro o ho W hW; simp only [List.getElem?_toArray, List.getElem?_cons_succ, List.getElem?_cons_zero, Option.some.injEq] at ho; subst ho; (try dsimp only at hW); obtain ⟨q0, q1⟩ := PFi.out _ (HBW.out.trans hW); obtain ⟨p0, p1, p2⟩ := CCF.out _ (HBW.out.trans hW); have p5 := Nat.lt_of_lt_of_le l6 hW.size; go_simp; try rfl)
                try simp only [Act.put, List.setIfInBounds_toArray, List.set_cons_zero, List.set_cons_succ]
                refine takeS 3 (some 70) ?vu3 (by kernel_rfl) (by kernel_rfl) (by kernel_rfl) (by kernel_rfl) (fun _ _ _ h => h) (by rfl) ?hyu3 sd ?restu3
                case hyu3 => (intro o ho W hW; simp only [List.getElem?_toArray, List.getElem?_cons_succ, List.getElem?_cons_zero, Option.some.injEq] at ho; subst ho; (try dsimp only at hW); obtain ⟨q0, q1⟩ := PFi.out _ (HBW.out.trans hW); obtain ⟨p0, p1, p2⟩ := CCF.out _ (HBW.out.trans hW); have p5 := Nat.lt_of_lt_of_le l6 hW.size; go_simp; try rfl)
                try simp only [Act.put, List.setIfInBounds_toArray, List.set_cons_zero, List.set_cons_succ]
                refine takeS 4 (some 71) ?vu4 (by kernel_rfl) (by kernel_rfl) (by kernel_rfl) (by kernel_rfl) (fun _ _ _ h => h) (by rfl) ?hyu4 sd ?restu4
                case hyu4 => (intro o ho W hW; simp only [List.getElem?_toArray, List.getElem?_cons_succ, List.getElem?_cons_zero, Option.some.injEq] at ho; subst ho; (try dsimp only at hW); obtain ⟨q0, q1⟩ := PFi.out _ (HBW.out.trans hW); obtain ⟨p0, p1, p2⟩ := CCF.out _ (HBW.out.trans hW); have p5 := Nat.lt_of_lt_of_le l6 hW.size; go_simp; try rfl)
                try simp only [Act.put, List.setIfInBounds_toArray, List.set_cons_zero, List.set_cons_succ]
                refine takeS 5 (some 72) ?vu5 (by kernel_rfl) (by kernel_rfl) (by kernel_rfl) (by kernel_rfl) (fun _ _ _ h => h) (by rfl) ?hyu5 sd ?restu5
                case hyu5 => (intro o ho W hW; simp only [List.getElem?_toArray, List.getElem?_cons_succ, List.getElem?_cons_zero, Option.some.injEq] at ho; subst ho; (try dsimp only at hW); obtain ⟨q0, q1⟩ := PFi.out _ (HBW.out.trans hW); obtain ⟨p0, p1, p2⟩ := CCF.out _ (HBW.out.trans hW); have p5 := Nat.lt_of_lt_of_le l6 hW.size; go_simp; try rfl)
                try simp only [Act.put, List.setIfInBounds_toArray, List.set_cons_zero, List.set_cons_succ]
                refine takeS 6 (some 73) ?vu6 (by kernel_rfl) (by kernel_rfl) (by kernel_rfl) (by kernel_rfl) (fun _ _ _ h => h) (by rfl) ?hyu6 sd ?restu6
                case hyu6 => (intro o ho W hW; simp only [List.getElem?_toArray, List.getElem?_cons_succ, List.getElem?_cons_zero, Option.some.injEq] at ho; subst ho; (try dsimp only at hW); obtain ⟨q0, q1⟩ := PFi.out _ (HBW.out.trans hW); obtain ⟨p0, p1, p2⟩ := CCF.out _ (HBW.out.trans hW); have p5 := Nat.lt_of_lt_of_le l6 hW.size; go_simp; try rfl)
                try simp only [Act.put, List.setIfInBounds_toArray, List.set_cons_zero, List.set_cons_succ]
                refine takeS 7 (some 74) ?vu7 (by kernel_rfl) (by kernel_rfl) (by kernel_rfl) (by kernel_rfl) (fun _ _ _ h => h) (by rfl) ?hyu7 sd ?restu7
                case hyu7 => (intro o ho W hW; simp only [List.getElem?_toArray, List.getElem?_cons_succ, List.getElem?_cons_zero, Option.some.injEq] at ho; subst ho; (try dsimp only at hW); obtain ⟨q0, q1⟩ := PFi.out _ (HBW.out.trans hW); obtain ⟨p0, p1, p2⟩ := CCF.out _ (HBW.out.trans hW); have p5 := Nat.lt_of_lt_of_le l6 hW.size; go_simp; try rfl)
                try simp only [Act.put, List.setIfInBounds_toArray, List.set_cons_zero, List.set_cons_succ]
                refine takeS 8 (some 75) ?vu8 (by kernel_rfl) (by kernel_rfl) (by kernel_rfl) (by kernel_rfl) (fun _ _ _ h => h) (by rfl) ?hyu8 sd ?restu8
                case hyu8 => (intro o ho W hW; simp only [List.getElem?_toArray, List.getElem?_cons_succ, List.getElem?_cons_zero, Option.some.injEq] at ho; subst ho; (try dsimp only at hW); obtain ⟨q0, q1⟩ := PFi.out _ (HBW.out.trans hW); obtain ⟨p0, p1, p2⟩ := CCF.out _ (HBW.out.trans hW); have p5 := Nat.lt_of_lt_of_le l6 hW.size; go_simp; try rfl)
                try simp only [Act.put, List.setIfInBounds_toArray, List.set_cons_zero, List.set_cons_succ]
                refine takeS 9 (some 76) ?vu9 (by kernel_rfl) (by kernel_rfl) (by kernel_rfl) (by kernel_rfl) (fun _ _ _ h => h) (by rfl) ?hyu9 sd ?restu9
                case hyu9 => (intro o ho W hW; simp only [List.getElem?_toArray, List.getElem?_cons_succ, List.getElem?_cons_zero, Option.some.injEq] at ho; subst ho; (try dsimp only at hW); obtain ⟨q0, q1⟩ := PFi.out _ (HBW.out.trans hW); obtain ⟨p0, p1, p2⟩ := CCF.out _ (HBW.out.trans hW); have p5 := Nat.lt_of_lt_of_le l6 hW.size; go_simp; try rfl)
                try simp only [Act.put, List.setIfInBounds_toArray, List.set_cons_zero, List.set_cons_succ]
                refine takeS 10 (some 77) ?vu10 (by kernel_rfl) (by kernel_rfl) (by kernel_rfl) (by kernel_rfl) (fun _ _ _ h => h) (by rfl) ?hyu10 sd ?restu10
                case hyu10 => (intro o ho W hW; simp only [List.getElem?_toArray, List.getElem?_cons_succ, List.getElem?_cons_zero, Option.some.injEq] at ho; subst ho; (try dsimp only at hW); obtain ⟨q0, q1⟩ := PFi.out _ (HBW.out.trans hW); obtain ⟨p0, p1, p2⟩ := CCF.out _ (HBW.out.trans hW); have p5 := Nat.lt_of_lt_of_le l6 hW.size; go_simp; try rfl)
                try simp only [Act.put, List.setIfInBounds_toArray, List.set_cons_zero, List.set_cons_succ]
                refine forkS 1 11 (by kernel_rfl) (by rfl) (by rfl) (fun o ho K hK => ?_) (fun o ho K hK => ?_)
                · simp only [List.getElem?_toArray, List.getElem?_cons_succ, List.getElem?_cons_zero, Option.some.injEq] at ho; subst ho
                  have p3 := HCd.out.blk.c_ 4
                  have p5 := HCd.out.blk.lt
                  go_simp
                  refine hK.out _ _ sd (fun _ => ?_)
                  clear hK K
                  try simp only [Act.put, List.setIfInBounds_toArray, List.set_cons_zero, List.set_cons_succ]
                  refine nextS 11 (by kernel_rfl) (by rfl) (fun o ho K hK => ?_)
                  simp only [List.getElem?_toArray, List.getElem?_cons_succ, List.getElem?_cons_zero, Option.some.injEq] at ho; subst ho
                  go_simp
                  (go_at_call 12; (with_reducible refine (COF.out _ (HBW.out.trans sd)).mono ?_); rintro e w8 ⟨b8, A8, n8, c8, rfl, m8⟩)
                  have s8 : Below k5 w6 w8 := sd.trans (b8.mono (Nat.le_of_lt HCd.out.blk.lt))
                  have HC8 := Lib.hid (HCd.out.on b8)
                  have M8 := Lib.hid m8
                  clear m8
                  refine hK.out _ _ s8 (fun _ => ?_)
                  clear hK K
                  try simp only [Act.put, List.setIfInBounds_toArray, List.set_cons_zero, List.set_cons_succ]
                  refine nextS 12 (by kernel_rfl) (by rfl) (fun o ho K hK => ?_)
                  simp only [List.getElem?_toArray, List.getElem?_cons_succ, List.getElem?_cons_zero, Option.some.injEq] at ho; subst ho
                  go_simp
                  have sa : Below k5 w6 (w8.alloc (.cells #[.slice A8 n8 c8] 26)) := s8.alloc (by have := b8.size; have := bd.size; omega) _
                  have ba : Below w8.heap.size w8 (w8.alloc (.cells #[.slice A8 n8 c8] 26)) := below_alloc_ _ _
                  have HCa := Lib.hid (HC8.out.on ba)
                  refine hK.out _ _ sa (fun _ => ?_)
                  clear hK K
                  try simp only [Act.put, List.setIfInBounds_toArray, List.set_cons_zero, List.set_cons_succ]
                  obtain ⟨us, hu, hkz⟩ := HCa.out.kds
                  have HU := Lib.hid hu
                  have HKZ := Lib.hid hkz
                  clear hu hkz
                  refine nextS 13 (by kernel_rfl) (by rfl) (fun o ho K hK => ?_)
                  simp only [List.getElem?_toArray, List.getElem?_cons_succ, List.getElem?_cons_zero, Option.some.injEq] at ho; subst ho
                  refine gappO cas_under cas_info rfl (by decide) (by decide) (.tmp 68) (.tmp 79) rfl rfl HU.out rfl (rw_one w8 _ rfl 26 (.slice A8 n8 c8)) (fun u h => by simp at h; rw [h]; rfl) (by omega) ?_
                  intro B5 e5 w9 h9 hg9 hor9
                  have s9 : Below k5 w6 w9 := sa.trans ((ow_below HU.out hg9).mono (Nat.le_of_lt HCa.out.low))
                  have P9 := HCa.out.blk.grown hg9 (fun e => by have := (HU.out.lt _ e.symm).1; have := HCa.out.low; omega)
                  refine hK.out _ _ s9 (fun _ => ?_)
                  clear hK K
                  try simp only [Act.put, List.setIfInBounds_toArray, List.set_cons_zero, List.set_cons_succ]
                  refine takeS 14 (some 81) ?vv14 (by kernel_rfl) (by kernel_rfl) (by kernel_rfl) (by kernel_rfl) (fun _ _ _ h => h) (by rfl) ?hyv14 s9 ?restv14
                  case hyv14 => (intro o ho W hW; simp only [List.getElem?_toArray, List.getElem?_cons_succ, List.getElem?_cons_zero, Option.some.injEq] at ho; subst ho; (try dsimp only at hW); have p5 := Nat.lt_of_lt_of_le l6 hW.size; go_simp; try rfl)
                  try simp only [Act.put, List.setIfInBounds_toArray, List.set_cons_zero, List.set_cons_succ]
                  have p9c := P9.c_ 4
                  have p9f := P9.f_ 4
                  have p9l := P9.lt
                  refine nextS 15 (by kernel_rfl) (by rfl) (fun o ho K hK => ?_)
                  simp only [List.getElem?_toArray, List.getElem?_cons_succ, List.getElem?_cons_zero, Option.some.injEq] at ho; subst ho
                  go_simp
                  have s10 : Below k5 w6 (w9.setCell ⟨k5, 4, none⟩ (.slice B5 (q + 1) e5)) := s9.setCell (Nat.le_refl _) _
                  refine hK.out _ _ s10 (fun _ => ?_)
                  clear hK K
                  try simp only [Act.put, List.setIfInBounds_toArray, List.set_cons_zero, List.set_cons_succ]
                  refine wpAnyH_done (by kernel_rfl) ?_ _
                  refine NoPanic.normal ?_
                  have HC9 := Lib.hid (HCa.out.case_ HKZ.out hg9 hor9 h9 rfl ((M8.out.keep (keeps_below ba)).weaken fun b _ hb => by
                    obtain ⟨us0, hu0, _⟩ := HCd.out.kds
                    have hb' : wd.heap.size ≤ b := hb
                    have h5 := HCd.out.wds.base
                    exact ⟨by omega, fun e => by have := (HCd.out.wds.lt b e).2; omega, fun e => by have := (hu0.lt b e).2; omega⟩))
                  have HF9 := Lib.hid (fr_next HF6.out ((((bd.mono HF6.out.size).trans (b8.mono (Nat.le_trans HF6.out.size bd.size))).trans (ba.mono (Nat.le_trans (Nat.le_trans HF6.out.size bd.size) b8.size))).trans (ow_below HU.out hg9)) ⟨k5, 4, none⟩ rfl (.slice B5 (q + 1) e5))
                  go_wp2_with fail
                  go_roundw
                  case rel => exact ⟨q + 1, A5, c6, B5, e5, by omega, by go_num, Lib.hid (by rw [HKS.out]; exact HC9.out), HF9⟩
                  case measure => simp [intOf]; omega
                · simp only [List.getElem?_toArray, List.getElem?_cons_succ, List.getElem?_cons_zero, Option.some.injEq] at ho; subst ho
                  go_simp
                  (go_at_call 12; (with_reducible refine (COF.out _ (HBW.out.trans sd)).mono ?_); rintro e w8 ⟨b8, A8, n8, c8, rfl, m8⟩)
                  have s8 : Below k5 w6 w8 := sd.trans (b8.mono (Nat.le_of_lt HCd.out.blk.lt))
                  have HC8 := Lib.hid (HCd.out.on b8)
                  have M8 := Lib.hid m8
                  clear m8
                  refine hK.out _ _ s8 (fun _ => ?_)
                  clear hK K
                  try simp only [Act.put, List.setIfInBounds_toArray, List.set_cons_zero, List.set_cons_succ]
                  refine forkS 1 12 (by kernel_rfl) (by rfl) (by rfl) (fun o ho K hK => ?_) (fun o ho K hK => ?_)
                  · simp only [List.getElem?_toArray, List.getElem?_cons_succ, List.getElem?_cons_zero, Option.some.injEq] at ho; subst ho
                    have p3 := HC8.out.blk.c_ 4
                    have p5 := HC8.out.blk.lt
                    go_simp
                    refine hK.out _ _ s8 (fun _ => ?_)
                    clear hK K
                    try simp only [Act.put, List.setIfInBounds_toArray, List.set_cons_zero, List.set_cons_succ]
                    refine nextS 12 (by kernel_rfl) (by rfl) (fun o ho K hK => ?_)
                    simp only [List.getElem?_toArray, List.getElem?_cons_succ, List.getElem?_cons_zero, Option.some.injEq] at ho; subst ho
                    go_simp
                    have sa : Below k5 w6 (w8.alloc (.cells #[.slice A8 n8 c8] 26)) := s8.alloc (by have := b8.size; have := bd.size; omega) _
                    have ba : Below w8.heap.size w8 (w8.alloc (.cells #[.slice A8 n8 c8] 26)) := below_alloc_ _ _
                    have HCa := Lib.hid (HC8.out.on ba)
                    refine hK.out _ _ sa (fun _ => ?_)
                    clear hK K
                    try simp only [Act.put, List.setIfInBounds_toArray, List.set_cons_zero, List.set_cons_succ]
                    obtain ⟨us, hu, hkz⟩ := HCa.out.kds
                    have HU := Lib.hid hu
                    have HKZ := Lib.hid hkz
                    clear hu hkz
                    refine nextS 13 (by kernel_rfl) (by rfl) (fun o ho K hK => ?_)
                    simp only [List.getElem?_toArray, List.getElem?_cons_succ, List.getElem?_cons_zero, Option.some.injEq] at ho; subst ho
                    refine gappO cas_under cas_info rfl (by decide) (by decide) (.tmp 68) (.tmp 79) rfl rfl HU.out rfl (rw_one w8 _ rfl 26 (.slice A8 n8 c8)) (fun u h => by simp at h; rw [h]; rfl) (by omega) ?_
                    intro B5 e5 w9 h9 hg9 hor9
                    have s9 : Below k5 w6 w9 := sa.trans ((ow_below HU.out hg9).mono (Nat.le_of_lt HCa.out.low))
                    have P9 := HCa.out.blk.grown hg9 (fun e => by have := (HU.out.lt _ e.symm).1; have := HCa.out.low; omega)
                    refine hK.out _ _ s9 (fun _ => ?_)
                    clear hK K
                    try simp only [Act.put, List.setIfInBounds_toArray, List.set_cons_zero, List.set_cons_succ]
                    refine takeS 14 (some 81) ?vx14 (by kernel_rfl) (by kernel_rfl) (by kernel_rfl) (by kernel_rfl) (fun _ _ _ h => h) (by rfl) ?hyx14 s9 ?restx14
                    case hyx14 => (intro o ho W hW; simp only [List.getElem?_toArray, List.getElem?_cons_succ, List.getElem?_cons_zero, Option.some.injEq] at ho; subst ho; (try dsimp only at hW); have p5 := Nat.lt_of_lt_of_le l6 hW.size; go_simp; try rfl)
                    try simp only [Act.put, List.setIfInBounds_toArray, List.set_cons_zero, List.set_cons_succ]
                    have p9c := P9.c_ 4
                    have p9f := P9.f_ 4
                    have p9l := P9.lt
                    refine nextS 15 (by kernel_rfl) (by rfl) (fun o ho K hK => ?_)
                    simp only [List.getElem?_toArray, List.getElem?_cons_succ, List.getElem?_cons_zero, Option.some.injEq] at ho; subst ho
                    go_simp
                    have s10 : Below k5 w6 (w9.setCell ⟨k5, 4, none⟩ (.slice B5 (q + 1) e5)) := s9.setCell (Nat.le_refl _) _
                    refine hK.out _ _ s10 (fun _ => ?_)
                    clear hK K
                    try simp only [Act.put, List.setIfInBounds_toArray, List.set_cons_zero, List.set_cons_succ]
                    refine wpAnyH_done (by kernel_rfl) ?_ _
                    refine NoPanic.normal ?_
                    have HC9 := Lib.hid (HCa.out.case_ HKZ.out hg9 hor9 h9 rfl ((M8.out.keep (keeps_below ba)).weaken fun b _ hb => by
                      obtain ⟨us0, hu0, _⟩ := HCd.out.kds
                      have hb' : wd.heap.size ≤ b := hb
                      have h5 := HCd.out.wds.base
                      exact ⟨by omega, fun e => by have := (HCd.out.wds.lt b e).2; omega, fun e => by have := (hu0.lt b e).2; omega⟩))
                    have HF9 := Lib.hid (fr_next HF6.out ((((bd.mono HF6.out.size).trans (b8.mono (Nat.le_trans HF6.out.size bd.size))).trans (ba.mono (Nat.le_trans (Nat.le_trans HF6.out.size bd.size) b8.size))).trans (ow_below HU.out hg9)) ⟨k5, 4, none⟩ rfl (.slice B5 (q + 1) e5))
                    go_wp2_with fail
                    go_roundw
                    case rel => exact ⟨q + 1, A5, c6, B5, e5, by omega, by go_num, Lib.hid (by rw [HKS.out]; exact HC9.out), HF9⟩
                    case measure => simp [intOf]; omega
                  · simp only [List.getElem?_toArray, List.getElem?_cons_succ, List.getElem?_cons_zero, Option.some.injEq] at ho; subst ho
                    go_simp
                    have sa : Below k5 w6 (w8.alloc (.cells #[.slice A8 n8 c8] 26)) := s8.alloc (by have := b8.size; have := bd.size; omega) _
                    have ba : Below w8.heap.size w8 (w8.alloc (.cells #[.slice A8 n8 c8] 26)) := below_alloc_ _ _
                    have HCa := Lib.hid (HC8.out.on ba)
                    refine hK.out _ _ sa (fun _ => ?_)
                    clear hK K
                    try simp only [Act.put, List.setIfInBounds_toArray, List.set_cons_zero, List.set_cons_succ]
                    have p3 := HCa.out.blk.c_ 4
                    have p5 := HCa.out.blk.lt
                    refine nextS 1 (by kernel_rfl) (by rfl) (fun o ho K hK => ?_)
                    simp only [List.getElem?_toArray, List.getElem?_cons_succ, List.getElem?_cons_zero, Option.some.injEq] at ho; subst ho
                    go_simp
                    refine hK.out _ _ sa (fun _ => ?_)
                    clear hK K
                    try simp only [Act.put, List.setIfInBounds_toArray, List.set_cons_zero, List.set_cons_succ]
                    obtain ⟨us, hu, hkz⟩ := HCa.out.kds
                    have HU := Lib.hid hu
                    have HKZ := Lib.hid hkz
                    clear hu hkz
                    refine nextS 13 (by kernel_rfl) (by rfl) (fun o ho K hK => ?_)
                    simp only [List.getElem?_toArray, List.getElem?_cons_succ, List.getElem?_cons_zero, Option.some.injEq] at ho; subst ho
                    refine gappO cas_under cas_info rfl (by decide) (by decide) (.tmp 68) (.tmp 79) rfl rfl HU.out rfl (rw_one w8 _ rfl 26 (.slice A8 n8 c8)) (fun u h => by simp at h; rw [h]; rfl) (by omega) ?_
                    intro B5 e5 w9 h9 hg9 hor9
                    have s9 : Below k5 w6 w9 := sa.trans ((ow_below HU.out hg9).mono (Nat.le_of_lt HCa.out.low))
                    have P9 := HCa.out.blk.grown hg9 (fun e => by have := (HU.out.lt _ e.symm).1; have := HCa.out.low; omega)
                    refine hK.out _ _ s9 (fun _ => ?_)
                    clear hK K
                    try simp only [Act.put, List.setIfInBounds_toArray, List.set_cons_zero, List.set_cons_succ]
                    refine takeS 14 (some 81) ?vy14 (by kernel_rfl) (by kernel_rfl) (by kernel_rfl) (by kernel_rfl) (fun _ _ _ h => h) (by rfl) ?hyy14 s9 ?resty14
                    case hyy14 => (intro o ho W hW; simp only [List.getElem?_toArray, List.getElem?_cons_succ, List.getElem?_cons_zero, Option.some.injEq] at ho; subst ho; (try dsimp only at hW); have p5 := Nat.lt_of_lt_of_le l6 hW.size; go_simp; try rfl)
                    try simp only [Act.put, List.setIfInBounds_toArray, List.set_cons_zero, List.set_cons_succ]
                    have p9c := P9.c_ 4
                    have p9f := P9.f_ 4
                    have p9l := P9.lt
                    refine nextS 15 (by kernel_rfl) (by rfl) (fun o ho K hK => ?_)
                    simp only [List.getElem?_toArray, List.getElem?_cons_succ, List.getElem?_cons_zero, Option.some.injEq] at ho; subst ho
                    go_simp
                    have s10 : Below k5 w6 (w9.setCell ⟨k5, 4, none⟩ (.slice B5 (q + 1) e5)) := s9.setCell (Nat.le_refl _) _
                    refine hK.out _ _ s10 (fun _ => ?_)
                    clear hK K
                    try simp only [Act.put, List.setIfInBounds_toArray, List.set_cons_zero, List.set_cons_succ]
                    refine wpAnyH_done (by kernel_rfl) ?_ _
                    refine NoPanic.normal ?_
                    have HC9 := Lib.hid (HCa.out.case_ HKZ.out hg9 hor9 h9 rfl ((M8.out.keep (keeps_below ba)).weaken fun b _ hb => by
                      obtain ⟨us0, hu0, _⟩ := HCd.out.kds
                      have hb' : wd.heap.size ≤ b := hb
                      have h5 := HCd.out.wds.base
                      exact ⟨by omega, fun e => by have := (HCd.out.wds.lt b e).2; omega, fun e => by have := (hu0.lt b e).2; omega⟩))
                    have HF9 := Lib.hid (fr_next HF6.out ((((bd.mono HF6.out.size).trans (b8.mono (Nat.le_trans HF6.out.size bd.size))).trans (ba.mono (Nat.le_trans (Nat.le_trans HF6.out.size bd.size) b8.size))).trans (ow_below HU.out hg9)) ⟨k5, 4, none⟩ rfl (.slice B5 (q + 1) e5))
                    go_wp2_with fail
                    go_roundw
                    case rel => exact ⟨q + 1, A5, c6, B5, e5, by omega, by go_num, Lib.hid (by rw [HKS.out]; exact HC9.out), HF9⟩
                    case measure => simp [intOf]; omega
            · obtain rfl : q = pm := by omega
              have hwa : x.ws.take q = x.ws := List.take_of_length_le (by rw [HWL.out]; exact Nat.le_refl _)
              have hka : x.ks.take q = x.ks := List.take_of_length_le (by rw [HKL.out]; exact Nat.le_refl _)
              have hcf := HC.out
              rw [hwa, hka] at hcf
              have HCF := Lib.hid hcf
              have e0 := hcf.blk.c_ 0; have e1' := hcf.blk.c_ 1; have e2 := hcf.blk.c_ 2; have e3 := hcf.blk.c_ 3; have e4 := hcf.blk.c_ 4
              have hbl : Bel (Kd (Fo W.heap.size (Value.slice A' k c').ownBlock) wi (r + 1)) (Fo W.heap.size (Value.slice A' k c').ownBlock) wi x (.slice A1 q c1) (.slice B1 q e1) := by
                have h1 := hcf.bel (F := fun b => w5.heap.size ≤ b) H8N.out fun _ h => h
                have h2 : Bel (Kd (fun b => w5.heap.size ≤ b) wi (r + 1)) (fun b => w5.heap.size ≤ b) wi x (.slice A1 q c1) (.slice B1 q e1) := by
                  obtain ⟨xk, xt, xn, xw, xs⟩ := x
                  have := HTN.out
                  simp only [D.Nd.t] at this
                  subst this
                  exact h1
                exact h2.weaken fun b _ hb => ⟨by have := HA5.out; have hs := HZ6.out.size; omega, fun e => by have := (HA5.out.own_lt b e).2; omega⟩
              have HBL := Lib.hid hbl
              have hai : Ac 84 (r + 1) W.heap.size wi A' k c' ((vs.map (·.1)).take k) := HA.out.on hoi
              have HAI := Lib.hid hai
              have HZI := Lib.hid (HZ.out.trans (hoi.mono HZ.out.size))
              have e5' := hcf.blk.lt
              clear hai hbl hcf hwa hka d0 d5
              go_wp2_with (at_builtin; refine papp rfl (.tmp 82) (.tmp 84) rfl rfl (HAI.out.on (below_alloc_ _ _)) rfl (rw_part _ _ rfl x (.slice A1 q c1) (.slice B1 q e1) _ (by simp [pcl, HTN.out]; rfl)) rfl rfl (HBL.out.keep (keeps_below (below_alloc_ _ _))) (by omega) ?_; intro A9 c9 w9 h9 hb9 _)
              go_roundw
              case rel => exact ⟨k + 1, A9, c9, by omega, by go_num, rfl, Lib.hid (by rw [HPX.out]; exact h9), Lib.hid ((HZI.out.alloc HZI.out.size _).trans hb9)⟩
              case measure => simp [intOf]; omega
    · obtain rfl : k = n := by omega
      have hall : (vs.map (·.1)).take k = vs.map (·.1) := List.take_of_length_le (by simp [hlen])
      have hA := HA.out
      rw [hall] at hA
      have HA2 := Lib.hid hA.done
      clear hall hA
      go_wp2
      refine bodyPost_ret (v := .slice A' k c') (by simp [results, Tryz.results12, go_sem]) rfl ?_
      exact ⟨HZ.out, A', k, c', rfl, HA2.out⟩
end Go.Proofs.YtlheaabmpcnchaaGreatDoor
