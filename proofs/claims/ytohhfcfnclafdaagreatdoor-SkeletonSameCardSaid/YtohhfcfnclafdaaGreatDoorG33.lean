/-
  The program's Render.
  The chapter's examples.
  What is read is right, and short; right parts with more choices around them.
-/
import Derived.Test.YtohhfcfnclafdaaGreatDoorG32
set_option linter.unusedVariables false
set_option linter.unusedSimpArgs false
set_option maxRecDepth 100000
namespace Go.Proofs.YtohhfcfnclafdaaGreatDoor
open Go.RowKit
attribute [local go_sem ↓] Go.wp_at_zero Go.wp_at_succ Nm.ld_a Nm.ld_n Nm.st_a Nm.st_n Nm.lv_a Nm.lv_n ld_vl lv_vl st_vl ld_a lv_a
attribute [local go_sem] Nm.run_ld_a Nm.run_ld_n Nm.run_lv_a Nm.run_lv_n Nm.rd_new Nm.rd_old Nm.rd_drew Nm.rd_drewN Nm.st_z Shp.rd_new Shp.rd_old Shp.rd_drew Shp.rd_drewN run_lvvl run_ldvl run_stvl_new run_ld_a run_lv_a rd_new rd_old rd_drew rd_drewN

namespace D
theorem prC_mem : ∀ {ws : List (List Nat)} {ks : List (List Nd)} {j : Nat} {q : List Nd} {c : Nat}, ws.length = ks.length → ks[j]? = some q → c ∈ prL q → c ∈ prC ws ks
  | [], [], j, q, c, _, h, _ => by simp at h
  | [], k :: ks, j, q, c, h, _, _ => by simp at h
  | w :: ws, [], j, q, c, h, _, _ => by simp at h
  | w :: ws, k :: ks, 0, q, c, _, h, hc => by
    simp at h
    subst h
    simp [prC, hc]
  | w :: ws, k :: ks, j + 1, q, c, hl, h, hc => by
    have := prC_mem (ws := ws) (ks := ks) (j := j) (q := q) (by simpa using hl) (by simpa using h) hc
    simp [prC, this]
theorem prN_mem {x : Nd} (hk : x.k = 3 ∨ x.k = 4) {c : Nat} (h : c ∈ prC x.ws x.ks) : c ∈ prN x := by
  obtain ⟨k, t, n, ws, ks⟩ := x
  simp only [Nd.k] at hk
  simp only [Nd.ws, Nd.ks] at h
  rcases hk with rfl | rfl
  · simp [prN, h]
  · simp [prN, h]
theorem dg_256 (n : Nat) : ∀ c ∈ dg n, c < 256 := by
  intro c hc
  obtain ⟨u, _, rfl⟩ := List.mem_map.1 hc
  exact UInt8.toNat_lt u
theorem prL_in : ∀ {l : List Nd} {x : Nd} {c : Nat}, x ∈ l → c ∈ prN x → c ∈ prL l
  | y :: l, x, c, h, hc => by
    rw [prL, List.mem_append]
    rcases List.mem_cons.1 h with rfl | h
    · exact .inl hc
    · exact .inr (prL_in h hc)
def Vby (vf : List Nat → Option (Nat × List Nat)) : Prop := ∀ n a, vf n = some a → ∀ c ∈ a.2, c < 256
theorem rnL_256 {N : Nd → Option (List Nat)} : ∀ {l : List Nd}, (∀ x ∈ l, ∀ a, N x = some a → ∀ c ∈ a, c < 256) → ∀ t, rnL N l = some t → ∀ c ∈ t, c < 256
  | [], _, t, h => by simp [rnL] at h; subst h; simp
  | x :: l, hN, t, h => by
    simp only [rnL] at h
    cases ha : N x with
    | none => rw [ha] at h; cases h
    | some a =>
      rw [ha] at h
      cases hb : rnL N l with
      | none => rw [hb] at h; cases h
      | some b =>
        rw [hb] at h
        simp at h
        subst h
        intro c hc
        rcases List.mem_append.1 hc with hc | hc
        · exact hN x (by simp) a ha c hc
        · exact rnL_256 (fun y hy => hN y (by simp [hy])) b hb c hc
theorem rnN_256 {g : Nat} {vf : List Nat → Option (Nat × List Nat)} {K : Nat → List Nd → Option (List Nat)} {s : Nat} {ch : Bool} {kids : Bool → List Nd → Prop} {v : Bool} {x : Nd} (hV : Vby vf) (hx : okNd ch kids v x) (h8 : ∀ c ∈ prN x, c < 256)
    (hK : ∀ s' q, ch = true → q ∈ x.ks → (∀ c ∈ prL q, c < 256) → ∀ a, K s' q = some a → ∀ c ∈ a, c < 256) : ∀ a, rnN g vf K s x = some a → ∀ c ∈ a, c < 256 := by
  intro a ha
  unfold rnN at ha
  split at ha
  · rename_i hk
    injection ha with ha
    rw [prN_txt hk, ha] at h8
    exact h8
  · split at ha
    · injection ha with ha
      rw [← ha]
      exact dg_256 s
    · cases hv : vf x.n with
      | none => rw [hv] at ha; cases ha
      | some p =>
        obtain ⟨N, T⟩ := p
        rw [hv] at ha
        have h2 := hV _ _ hv
        simp only at ha h2
        have hb : ∀ s' t, x.k = 3 ∨ x.k = 4 → K s' (kid x.ws x.ks t) = some a → ∀ c ∈ a, c < 256 := fun s' t hk e => by
          rcases hx with ⟨h, _⟩ | ⟨h, _⟩ | ⟨h, _⟩ | ⟨_, hch, _, _, hll, ho, _, _⟩
          · omega
          · rw [h] at hk; rcases hk with hk | hk <;> cases hk
          · omega
          · have hq := kid_at t hll ho
            exact hK s' _ hch (List.mem_of_getElem? hq) (fun c hc => h8 c (prN_mem hk (prC_mem hll hq hc))) a e
        split at ha
        · rename_i h3
          exact hb _ _ (.inl h3) ha
        · split at ha
          · rename_i h4
            exact hb _ _ (.inr h4) ha
          · split at ha
            · injection ha with ha; rw [← ha]; exact h2
            · injection ha with ha; rw [← ha]; exact dg_256 N
theorem rnd_256 {g : Nat} {vf : List Nat → Option (Nat × List Nat)} (hV : Vby vf) : ∀ (r : Nat) {v : Bool} {s : Nat} {l : List Nd}, Rt r v l → (∀ c ∈ prL l, c < 256) → ∀ t, rnd g vf r s l = some t → ∀ c ∈ t, c < 256
  | 0, v, s, l, hR, h8 => fun t ht => rnL_256 (N := rnN g vf (fun _ _ => none) s) (fun x hx => by
      obtain ⟨j, hj, e⟩ := List.mem_iff_getElem.1 hx
      have h1 := (okLs_at hR (show l[j]? = some x by rw [List.getElem?_eq_getElem hj, e])).1
      exact rnN_256 hV h1 (fun c hc => h8 c (prL_in hx hc)) (fun s' q h => by cases h)) t ht
  | r + 1, v, s, l, hR, h8 => fun t ht => rnL_256 (N := rnN g vf (rnd g vf r) s) (fun x hx => by
      obtain ⟨j, hj, e⟩ := List.mem_iff_getElem.1 hx
      have h1 := (okLs_at hR (show l[j]? = some x by rw [List.getElem?_eq_getElem hj, e])).1
      refine rnN_256 hV h1 (fun c hc => h8 c (prL_in hx hc)) (fun s' q _ hq hq8 a ha => ?_)
      rcases h1 with ⟨_, _, _, h, _⟩ | ⟨h, _⟩ | ⟨_, _, _, h, _⟩ | ⟨_, _, _, _, _, _, _, h⟩
      · rw [h] at hq; cases hq
      · rw [h] at hq; cases hq
      · rw [h] at hq; cases hq
      · exact rnd_256 hV r (h q hq) hq8 a ha) t ht
theorem vfo_by (f : Nm.D.Nm → Option Vl) : Vby (vfo f) := fun n a ha => by
  unfold vfo at ha
  cases hf : f (Nm.D.pad (sb n)) with
  | none => rw [hf] at ha; cases ha
  | some z =>
    rw [hf] at ha
    injection ha with ha
    subst ha
    exact ns_lt z.t
/-- The last value of each name. -/
def fvs (l : List Vl) : Nm.D.Nm → Option Vl := l.foldl (fun f y x => if x = y.n then some y else f x) fun _ => none
theorem fvs_snoc (l : List Vl) (y : Vl) : fvs (l ++ [y]) = fun x => if x = y.n then some y else fvs l x := by simp [fvs]
theorem fvs_in (l : List Vl) (x : Nm.D.Nm) (z : Vl) (h : fvs l x = some z) : z ∈ l := by
  revert h
  have : ∀ (k : List Vl) , fvs k.reverse x = some z → z ∈ k.reverse := by
    intro k
    induction k with
    | nil => intro h; simp [fvs] at h
    | cons y k ih =>
      intro h
      rw [List.reverse_cons, fvs_snoc] at h
      simp only at h
      split at h
      · injection h with h; subst h; simp
      · rw [List.reverse_cons]; exact List.mem_append_left _ (ih h)
  have h2 := this l.reverse
  rw [List.reverse_reverse] at h2
  exact h2
/-- A text, or that a value is missing. -/
def ansO : Option (List Nat) → List Nat × Nat
  | some t => (t, 0)
  | none => ([], 7)
/-- What Render answers of right parts. -/
def renA (g : Nat) (vf : List Nat → Option (Nat × List Nat)) (l : List Nd) : List Nat × Nat := if 60 < (prL l).length then ([], 2) else ansO (rnd g vf 3 0 l)
end D
/-- The renderer, as it is built. -/
def rn0 (x : D.Tg) (g : Nat) : Array Value := (.pointer none :: .slice none 0 0 :: Rr x g).toArray
theorem rn0_size (x : D.Tg) (g : Nat) : (rn0 x g).size = 13 := by simp only [rn0, List.size_toArray, List.length_cons, rr_len]
theorem rn0_one (x : D.Tg) (g : Nat) : (rn0 x g).all (·.oneCell') = true := all_oneCell_toArray fun u hu => by
  simp only [List.mem_cons, Rr, List.mem_append, List.not_mem_nil, or_false] at hu
  rcases hu with rfl | rfl | hu | rfl
  · rfl
  · rfl
  · exact bys_one _ u hu
  · rfl
noncomputable def bdrn (ps : Array (Nat × Value)) : Sem Value := Instr.build 146 ps
noncomputable def strn (p v : Value) : Sem Unit := Instr.storeAt 146 p v
theorem bd_rn (ps : Array (Nat × Value)) : Instr.build 146 ps = bdrn ps := rfl
theorem st_rn (p v : Value) : Instr.storeAt 146 p v = strn p v := rfl
theorem run_bdrn (w : World) (x : D.Tg) (g : Nat) : (bdrn #[(1, .agg (nc x)), (2, .map (some g))]).run Tryz.prog w = .ok (.agg (rn0 x g)) w := by
  obtain ⟨b0, b1, b2, b3, b4, b5, b6, b7, b8, b9, hn⟩ := ten x
  have hb : bys x.l = [b0, b1, b2, b3, b4, b5, b6, b7, b8, b9] := by simpa [nc] using congrArg Array.toList hn
  rw [hn]
  simp [bdrn, Instr.build, go_sem, rn0, Rr, hb]
theorem run_strn_new (w : World) (n : Nat) (x : D.Tg) (g : Nat) (h : n = w.heap.size) :
    (strn (.pointer (some ⟨n, 0, none⟩)) (.agg (rn0 x g))).run Tryz.prog (w.alloc (.cells #[.pointer none, .slice none 0 0, .int .u8 0, .int .u8 0, .int .u8 0, .int .u8 0, .int .u8 0, .int .u8 0, .int .u8 0, .int .u8 0, .int .u8 0, .int .u8 0, .map none] 146)) = .ok () (w.alloc (.cells (rn0 x g) 146)) := by
  subst h
  exact run_storeAt_new (P := Tryz.prog) w 146 _ (rn0 x g) (by rw [rn0_size]; kernel_rfl) (by rw [rn0_size]; rfl) (rn0_one x g)
theorem rn_blk {x : D.Tg} {g b : Nat} {w : World} (h : Blk w b 146 (rn0 x g)) : Rn x g b w [] := ⟨_, none, 0, 0, .inl rfl, h, Ow.nil _ _ (by have := h.lt; omega), fun _ => ⟨rfl, rfl, rfl⟩⟩
theorem rw_val {w : World} {A : Option Addr} {n j : Nat} {ys : List D.Vl} {y : D.Vl} (h : Rw 14 w A n (vS.rcs ys)) (hj : ys[j]? = some y) : ∃ ad, A = some ad ∧ ad.block < w.heap.size ∧ vS.rd w (ad.add (j * 14)) = some y := by
  have h0 : (vS.cs y)[12]? = some (.int .u64 (y.N : Nat)) := by
    show (vcells y)[12]? = _
    rw [vcells, List.getElem?_append_right (by rw [bys_len, y.n.len]; omega), bys_len, y.n.len]
    rfl
  have h1 := Shp.rcs_at hj 12 _ h0
  obtain ⟨ad, rfl, hl, hc⟩ := h.cell h1
  refine ⟨ad, rfl, hl, Shp.rd_of fun i u hu => ?_⟩
  obtain ⟨ad', e, _, hc'⟩ := h.cell (Shp.rcs_at hj i u hu)
  cases e
  rw [add_of_add]
  exact hc'
theorem Tp.lt {w : World} (h : Tp w) {w' : World} {B : Nat} (hs : ∀ i, i < w.heap.size → w'.heap[i]? = w.heap[i]?) : Tp w' := by
  unfold Tp Lib.TabIs World.var? at *
  cases hg : Tryz.prog.globalNamed "internal/strconv.uint64pow10" with
  | none => simp [hg] at h
  | some g =>
    simp only [hg, Option.bind_some] at h ⊢
    have hlt : g < w.heap.size := by
      rcases Nat.lt_or_ge g w.heap.size with h' | h'
      · exact h'
      · rw [Array.getElem?_eq_none h'] at h; simp at h
    rw [hs g hlt]
    exact h
theorem Env.lt_ {w : World} (h : Env w) {w' : World} (hs : ∀ i, i < w.heap.size → w'.heap[i]? = w.heap[i]?) : Env w' :=
  have k : ∀ {a : Addr} {v : Value}, w.cell? a = some v → w'.cell? a = some v := fun {a v} h => (World.cell?_of_block (hs _ (World.block_lt_of_cell? w _ h))).trans h
  ⟨k h.c0, k h.c1, k h.c2, k h.c3, k h.c4, k h.c5⟩
attribute [local go_sem ↓] bd_rn st_rn
attribute [local go_sem] run_bdrn run_strn_new
theorem fr_grown_ {w w' : World} {g : Nat} (h : w.grownBy w' (some g)) : Fr (· = g) w w' := ⟨h.os, h.tape, h.output, h.size, fun i hi hn => h.block i hi fun e => hn (Option.some.inj e)⟩
set_option maxHeartbeats 8000000 in
theorem render_any (F : Nat → Prop) (w : World) (u : Value) (l : List D.Nd) (x : D.Tg) (A : Option Addr) (n c : Nat) (vals : List D.Vl) (hP : Pm F w 3 u l) (hR : D.Rt 3 false l) (hsz : (D.prL l).length ≤ 1000) (hG : Gv w) (hT : Tp w) (hV : Rw 14 w A n (vS.rcs vals)) (hn : n ≤ 1000) (hv : ∀ z ∈ vals, z.N < 18446744073709551616 ∧ (D.ns z.t).length ≤ 20) :
    Calls Tryz.prog 25 #[u, .agg (nc x), .slice A n c] w fun e w' => e = .returned (.tuple #[.string (D.sb (D.renA (D.gr x) (D.vfo (D.fvs vals)) l).1), .int .i64 ((D.renA (D.gr x) (D.vfo (D.fvs vals)) l).2 : Nat)]) ∧ Below w.heap.size w w' := by
  have hlen := hV.len
  rw [Shp.rcs_len, show vS.n = 14 from rfl] at hlen
  have hlen : vals.length = n := by omega
  have bA := below_alloc_ w (.cells (nc x) 55)
  have cP := print_any F (w.alloc (.cells (nc x) 55)) u l (hP.keep (keeps_below bA)) hR hsz (hG.on bA)
  have h8 := prL_256 3 hP hR
  have hVf : D.Vfk (D.fvs vals) := fun m z h => hv z (D.fvs_in vals m z h)
  have h256 := D.rnd_256 (g := D.gr x) (D.vfo_by (D.fvs vals)) 3 (s := 0) hR h8
  have r0 := rd_new w w.heap.size 55 x rfl
  by_cases h60 : 60 < (D.prL l).length
  · have e1 : D.prT l = ([], 2) := by unfold D.prT; rw [if_pos h60]
    have e2 : D.renA (D.gr x) (D.vfo (D.fvs vals)) l = ([], 2) := by unfold D.renA; rw [if_pos h60]
    rw [e1] at cP
    rw [e2]
    have CP := Lib.hid cP
    clear e1 e2 cP hP hR hsz hG hT hV hv h8 hVf h256 h60
    go_enter Tryz.func25, Tryz.ntmps25
    go_wp2_with (go_at_call 15; (with_reducible refine CP.out.mono ?_); rintro e w1 ⟨rfl, b1⟩; have B1 := Lib.hid b1; clear b1)
    refine bodyPost_ret (v := .tuple #[.string ⟨#[]⟩, .int .i64 2]) (by simp [results, Tryz.results25, go_sem]) rfl ⟨rfl, ?_⟩
    exact bA.trans (B1.out.mono bA.size)
  · have e1 : D.prT l = (D.prL l, 0) := by unfold D.prT; rw [if_neg h60]
    have hsz2 : (D.prL l).length ≤ 60 := by omega
    rw [e1] at cP
    have CP := Lib.hid cP
    have HV := Lib.hid hV
    have HTP := Lib.hid hT
    have HG := Lib.hid hG
    have HP := Lib.hid (hP.weaken (F' := fun i => i < w.heap.size) fun b hb _ => hb)
    have HVF := Lib.hid hVf
    have H256 := Lib.hid h256
    have HR := Lib.hid hR
    have HSZ := Lib.hid hsz2
    have eA : D.renA (D.gr x) (D.vfo (D.fvs vals)) l = D.ansO (D.rnd (D.gr x) (D.vfo (D.fvs vals)) 3 0 l) := by unfold D.renA; rw [if_neg h60]
    rw [eA]
    obtain ⟨o, ho⟩ : ∃ o, D.rnd (D.gr x) (D.vfo (D.fvs vals)) 3 0 l = o := ⟨_, rfl⟩
    rw [ho] at H256 ⊢
    have HO := Kept.mk ho
    clear e1 eA cP hP hR hsz hsz2 hG hT hV hv h8 hVf h256 h60 ho
    have hmm := @run_makeMap Tryz.prog
    go_enter Tryz.func25, Tryz.ntmps25
    go_wp2_with (go_at_call 15; (with_reducible refine CP.out.mono ?_); rintro e w1 ⟨rfl, b1⟩
                 have r1 := rd_on r0 b1
                 have B1 := Lib.hid (bA.trans (b1.mono bA.size))
                 have l1 := Nat.lt_of_lt_of_le (show w.heap.size < (w.alloc (.cells (nc x) 55)).heap.size by simp) b1.size
                 clear b1)
    have b4 : Below w.heap.size w ((w1.alloc (.map #[] 0)).alloc (.cells (rn0 x w1.heap.size) 146)) := (B1.out.alloc B1.out.size _).alloc (by have := B1.out.size; simp; omega) _
    have k4 : Blk ((w1.alloc (.map #[] 0)).alloc (.cells (rn0 x w1.heap.size) 146)) (w1.heap.size + 1) 146 (rn0 x w1.heap.size) := by have := Blk.new (w1.alloc (.map #[] 0)) 146 (rn0 x w1.heap.size); simpa using this
    have v4 : VmAt ((w1.alloc (.map #[] 0)).alloc (.cells (rn0 x w1.heap.size) 146)) w1.heap.size 0 (D.fvs (vals.take 0)) := (vm_new w1 _ rfl).on (below_alloc_ _ _)
    have HB4 := Lib.hid b4
    have HK4 := Lib.hid k4
    have HV4 := Lib.hid v4
    have hw1 := B1.out.size
    clear b4 k4 v4
    go_loopw [27] (fun i wr => ∃ j : Nat, j ≤ n ∧ i = .int .i64 j ∧ Hid (VmAt wr w1.heap.size j (D.fvs (vals.take j))) ∧ Hid (Fr (· = w1.heap.size) ((w1.alloc (.map #[] 0)).alloc (.cells (rn0 x w1.heap.size) 146)) wr)) (fun i _ => n - (intOf i).toNat)
    case atStart => exact ⟨0, Nat.zero_le _, rfl, HV4, Lib.hid (Fr.refl _ _)⟩
    case round =>
      obtain ⟨j, hj, rfl, HVj, HFj⟩ := hrel
      obtain ⟨wo, rfl⟩ : ∃ wo : World, wo = wr := ⟨_, rfl⟩
      have hBo : Below w.heap.size w wo := HB4.out.trans (HFj.out.below HB4.out.size fun i hi e => by have e' : i = w1.heap.size := e; omega)
      have hKo : Blk wo (w1.heap.size + 1) 146 (rn0 x w1.heap.size) := HFj.out.blk HK4.out (by omega)
      by_cases hlt : j < n
      · obtain ⟨y, hy⟩ : ∃ y, vals[j]? = some y := ⟨_, List.getElem?_eq_getElem (by omega)⟩
        obtain ⟨ad, rfl, hbk, hrd⟩ := rw_val (HV.out.on hBo) hy
        have hI : (j : Int) < n := by omega
        have bN := below_alloc_ wo (.cells (vS.v y) 63)
        have hN : Blk (wo.alloc (.cells (vS.v y) 63)) wo.heap.size 63 (vS.v y) := Blk.new _ _ _
        have hKn := hKo.on bN
        have m0 : (wo.alloc (.cells (vS.v y) 63)).cell? ⟨w1.heap.size + 1, 12, none⟩ = some (.map (some w1.heap.size)) := (rn_tag (rn_blk hKn)).2
        have m1 := hKn.lt
        have m2 := (vf_blk hN).n
        have m3 := Shp.rd_blk hN
        have m4 := hN.lt
        obtain ⟨w6, hrun, hv6, hg6⟩ := (HVj.out.on bN).put (by omega) y
        have hsn : vals.take (j + 1) = vals.take j ++ [y] := by rw [List.take_add_one, hy]; rfl
        have hv7 : VmAt w6 w1.heap.size (j + 1) (D.fvs (vals.take (j + 1))) := by rw [hsn, D.fvs_snoc]; exact hv6
        have hf7 : Fr (· = w1.heap.size) ((w1.alloc (.map #[] 0)).alloc (.cells (rn0 x w1.heap.size) 146)) w6 := (HFj.out.alloc _).step (fr_grown_ hg6)
        have HV7 := Lib.hid hv7
        have HF7 := Lib.hid hf7
        clear hy hN hKn hKo hBo bN hsn hv6 hg6 hv7 hf7
        go_wp2
        go_roundw
        case rel => exact ⟨j + 1, by omega, by go_num, HV7, HF7⟩
        case measure => simp [intOf]; omega
      · obtain rfl : j = n := by omega
        have hall : vals.take j = vals := List.take_of_length_le (by omega)
        have hVa : VmAt wo w1.heap.size j (D.fvs vals) := by have := HVj.out; rwa [hall] at this
        have hRn := rn_blk hKo
        have hsz1 := HSZ.out
        have hRg : Rg (w1.heap.size + 1) w1.heap.size j (D.fvs vals) wo := ⟨fun W hW => by
          have hs : ∀ i, i < w.heap.size → W.heap[i]? = w.heap[i]? := fun i hi => (hW.low i (by omega) (by have := hBo.size; omega)).trans (hBo.block i hi)
          exact ⟨HG.out.e.lt_ hs, HTP.out.lt (B := 0) hs, hVa.to (hW.low _ (by omega) hVa.lt)⟩⟩
        have hPm := ((HP.out.keep (keeps_below hBo)).weaken (F' := fun i => i < w1.heap.size + 1) fun b hb hF => by have hF' : b < w.heap.size := hF; omega)
        have cM := rend_any x w1.heap.size (w1.heap.size + 1) j (D.fvs vals) HVF.out 3 false 0 wo _ l hPm HR.out (by omega) (by have := hKo.lt; omega) hRg (by omega) wo [] (Nu.refl _ _) hRn (by simp; omega)
        rw [HO.out] at cM
        have HBO := Lib.hid hBo
        have hkl := hKo.lt
        clear hall hVa hRn hRg hPm hKo hsz1 hBo
        cases o with
        | none =>
          have CM : Hid (Calls Tryz.prog 64 #[vr (w1.heap.size + 1), u, .int .u64 0] wo fun y w' => y = .returned (.int .i64 7) ∧ Nu (w1.heap.size + 1) wo w') := Lib.hid (cM.mono fun y w' ⟨h1, h2, h3⟩ => ⟨h1, h3⟩)
          clear cM
          go_wp2_with (go_at_call 64; (with_reducible refine CM.out.mono ?_); rintro e w5 ⟨rfl, n5⟩; have N5 := Lib.hid n5; clear n5)
          refine bodyPost_ret (v := .tuple #[.string ⟨#[]⟩, .int .i64 7]) (by simp [results, Tryz.results25, go_sem]) rfl ⟨rfl, ?_⟩
          exact HBO.out.trans ((N5.out.below (by omega)).mono (by omega))
        | some t =>
          have CM : Hid (Calls Tryz.prog 64 #[vr (w1.heap.size + 1), u, .int .u64 0] wo fun y w' => y = .returned (.int .i64 0) ∧ Rn x w1.heap.size (w1.heap.size + 1) w' t ∧ Nu (w1.heap.size + 1) wo w') := Lib.hid (cM.mono fun y w' ⟨h1, h2, h3⟩ => ⟨h1, by have := h2 t rfl; simpa using this, h3⟩)
          have H8 := Lib.hid (H256.out t rfl)
          clear cM
          go_wp2_with (first
            | (go_at_call 64; (with_reducible refine CM.out.mono ?_); rintro e w5 ⟨rfl, b5, n5⟩; have N5 := Lib.hid n5; have B5 := Lib.hid b5; clear n5 b5)
            | (go_at_call 43; (with_reducible refine (textB_any B5.out H8.out).mono ?_); rintro e w6 ⟨rfl, b6⟩; have B6 := Lib.hid b6; clear b6))
          refine bodyPost_ret (v := .tuple #[.string (D.sb t), .int .i64 0]) (by simp [results, Tryz.results25, go_sem]) rfl ⟨rfl, ?_⟩
          exact HBO.out.trans (((N5.out.below (by omega)).mono (by omega)).trans (B6.out.mono (by omega)))
end Go.Proofs.YtohhfcfnclafdaaGreatDoor
set_option linter.unusedVariables false
set_option linter.unusedSimpArgs false
set_option maxRecDepth 100000
namespace Go.Proofs.YtohhfcfnclafdaaGreatDoor
open Go.RowKit
attribute [local go_sem ↓] Go.wp_at_zero Go.wp_at_succ

namespace D
def kn1 : List Nat := [123, 110, 44, 32, 112, 108, 117, 114, 97, 108, 44, 32, 111, 110, 101, 123, 35, 32, 102, 105, 108, 101, 125, 32, 111, 116, 104, 101, 114, 123, 35, 32, 102, 105, 108, 101, 115, 125, 125]
def kn2 : List Nat := [123, 110, 44, 32, 112, 108, 117, 114, 97, 108, 44, 32, 111, 110, 101, 123, 97, 125, 125]
def knL : List Nd := [.mk 3 [] [110] [[111, 110, 101], [111, 116, 104, 101, 114]] [[.mk 5 [] [] [] [], .mk 0 [32, 102, 105, 108, 101] [] [] []], [.mk 5 [] [] [] [], .mk 0 [32, 102, 105, 108, 101, 115] [] [] []]]]
theorem kn1_is : rdM kn1 = ⟨knL, 0, 0⟩ := by kernel_rfl
theorem kn2_is : rdM kn2 = ⟨[], 18, 13⟩ := by kernel_rfl
def knV : Vl := ⟨Nm.D.pad (sb [110]), 1, ⟨#[]⟩⟩
theorem knV_is : vS.v knV = #[.int .u8 110, .int .u8 0, .int .u8 0, .int .u8 0, .int .u8 0, .int .u8 0, .int .u8 0, .int .u8 0, .int .u8 0, .int .u8 0, .int .u8 0, .int .u8 0, .int .u64 1, .string ⟨#[]⟩] := by kernel_rfl
theorem dg1 : dg 1 = [49] := by unfold dg; rw [Lib.decDigits_one (by decide)]; rfl
theorem vfo_kn : vfo (fvs [knV]) [110] = some (1, []) := by
  unfold vfo
  have : fvs [knV] (Nm.D.pad (sb [110])) = some knV := by
    show (if Nm.D.pad (sb [110]) = knV.n then some knV else none) = some knV
    exact if_pos rfl
  rw [this]
  rfl
theorem kn_ren : renA (gr zero) (vfo (fvs [knV])) knL = ([49, 32, 102, 105, 108, 101], 0) := by
  have hp : catW.getD (pof (gr zero) 1) [] = [111, 110, 101] := by decide
  have e : rnd (gr zero) (vfo (fvs [knV])) 3 0 knL = some [49, 32, 102, 105, 108, 101] := by
    show rnL (rnN _ _ (rnd _ _ 2) 0) knL = _
    have e1 : rnN (gr zero) (vfo (fvs [knV])) (rnd (gr zero) (vfo (fvs [knV])) 2) 0 (.mk 3 [] [110] [[111, 110, 101], [111, 116, 104, 101, 114]] [[.mk 5 [] [] [] [], .mk 0 [32, 102, 105, 108, 101] [] [] []], [.mk 5 [] [] [] [], .mk 0 [32, 102, 105, 108, 101, 115] [] [] []]]) = some [49, 32, 102, 105, 108, 101] := by
      unfold rnN
      simp only [Nd.k, Nd.n, Nd.ws, Nd.ks, vfo_kn]
      show rnd _ _ 2 1 (kid _ _ (catW.getD (pof (gr zero) 1) [])) = _
      rw [hp]
      show rnL (rnN _ _ _ 1) [.mk 5 [] [] [] [], .mk 0 [32, 102, 105, 108, 101] [] [] []] = _
      have e2 : ∀ K, rnN (gr zero) (vfo (fvs [knV])) K 1 (.mk 5 [] [] [] []) = some (dg 1) := fun K => rfl
      have e3 : ∀ K, rnN (gr zero) (vfo (fvs [knV])) K 1 (.mk 0 [32, 102, 105, 108, 101] [] [] []) = some [32, 102, 105, 108, 101] := fun K => rfl
      simp only [rnL, e2, e3, dg1]
      rfl
    simp only [knL, rnL, e1]
    rfl
  unfold renA
  rw [e]
  rfl
end D
/-- What is laid ahead of all. -/
structure Gw (w : World) : Prop where
  g : Gv w
  t : Tp w
theorem Gw.on {w w' : World} (h : Gw w) (b : Below w.heap.size w w') : Gw w' := ⟨h.g.on b, h.t.on b⟩
theorem kn_render (W w0 : World) (A : Option Addr) (n c : Nat) (hP : Pm (fun b => w0.heap.size ≤ b) W 3 (.slice A n c) D.knL) (hG : Gw W) :
    Calls Tryz.prog 25 #[.slice A n c, .agg #[.int .u8 0, .int .u8 0, .int .u8 0, .int .u8 0, .int .u8 0, .int .u8 0, .int .u8 0, .int .u8 0, .int .u8 0, .int .u8 0], .slice (some ⟨W.heap.size, 0, none⟩) 1 1] (W.alloc (.cells #[.int .u8 110, .int .u8 0, .int .u8 0, .int .u8 0, .int .u8 0, .int .u8 0, .int .u8 0, .int .u8 0, .int .u8 0, .int .u8 0, .int .u8 0, .int .u8 0, .int .u64 1, .string ⟨#[]⟩] 63)) fun e w' => e = .returned (.tuple #[.string ⟨#[49, 32, 102, 105, 108, 101]⟩, .int .i64 0]) ∧ Below W.heap.size W w' := by
  have bA := below_alloc_ W (.cells (vS.v D.knV) 63)
  have hRt : D.Rt 3 false D.knL := by
    have := D.rdM_good (l := D.kn1) (by rw [D.kn1_is])
    rwa [D.kn1_is] at this
  have hRw : Rw 14 (W.alloc (.cells (vS.v D.knV) 63)) (some ⟨W.heap.size, 0, none⟩) 1 (vS.rcs [D.knV]) := by
    have := rw_new W 14 63 1 (vS.v D.knV) (by rw [vS.v_size]; rfl)
    simpa [Shp.v, Shp.rcs] using this
  have h := render_any (fun b => w0.heap.size ≤ b) _ _ D.knL D.zero _ 1 1 [D.knV] (hP.keep (keeps_below bA)) hRt (by decide) (hG.on bA).g (hG.on bA).t hRw (by omega) (fun z hz => by
    simp at hz
    subst hz
    exact ⟨by decide, by decide⟩)
  rw [D.kn_ren, D.knV_is] at h
  rw [D.knV_is] at bA
  exact h.mono fun e w' ⟨h1, h2⟩ => ⟨h1, bA.trans (h2.mono bA.size)⟩
set_option maxHeartbeats 2000000 in
theorem known_any (w : World) (hG : Gw w) : Calls Tryz.prog 14 #[] w fun e w' => e = .returned (.bool true) ∧ Below w.heap.size w w' := by
  have p1 := fun W (b : Below w.heap.size w W) => parse_any ⟨#[123, 110, 44, 32, 112, 108, 117, 114, 97, 108, 44, 32, 111, 110, 101, 123, 35, 32, 102, 105, 108, 101, 125, 32, 111, 116, 104, 101, 114, 123, 35, 32, 102, 105, 108, 101, 115, 125, 125]⟩ W (hG.on b).g (by decide)
  have p2 := fun W (b : Below w.heap.size w W) => parse_any ⟨#[123, 110, 44, 32, 112, 108, 117, 114, 97, 108, 44, 32, 111, 110, 101, 123, 97, 125, 125]⟩ W (hG.on b).g (by decide)
  have e1 : D.rdM (D.ns ⟨#[123, 110, 44, 32, 112, 108, 117, 114, 97, 108, 44, 32, 111, 110, 101, 123, 35, 32, 102, 105, 108, 101, 125, 32, 111, 116, 104, 101, 114, 123, 35, 32, 102, 105, 108, 101, 115, 125, 125]⟩) = ⟨D.knL, 0, 0⟩ := D.kn1_is
  have e2 : D.rdM (D.ns ⟨#[123, 110, 44, 32, 112, 108, 117, 114, 97, 108, 44, 32, 111, 110, 101, 123, 97, 125, 125]⟩) = ⟨[], 18, 13⟩ := D.kn2_is
  have P1 : Hid (∀ W, Below w.heap.size w W → Calls Tryz.prog 13 #[.string ⟨#[123, 110, 44, 32, 112, 108, 117, 114, 97, 108, 44, 32, 111, 110, 101, 123, 35, 32, 102, 105, 108, 101, 125, 32, 111, 116, 104, 101, 114, 123, 35, 32, 102, 105, 108, 101, 115, 125, 125]⟩] W fun e w' => ∃ (A : Option Addr) (n c : Nat), e = .returned (.tuple #[.slice A n c, .int .i64 0, .int .i64 0]) ∧ Below W.heap.size W w' ∧ Pm (fun b => W.heap.size ≤ b) w' 3 (.slice A n c) D.knL) := Lib.hid fun W b => by
    have h := p1 W b
    rw [e1] at h
    exact h.mono fun e w' ⟨h1, A, n, c, h2, h3⟩ => ⟨A, n, c, h2, h1, h3⟩
  have P2 : Hid (∀ W, Below w.heap.size w W → Calls Tryz.prog 13 #[.string ⟨#[123, 110, 44, 32, 112, 108, 117, 114, 97, 108, 44, 32, 111, 110, 101, 123, 97, 125, 125]⟩] W fun e w' => ∃ (A : Option Addr) (n c : Nat), e = .returned (.tuple #[.slice A n c, .int .i64 18, .int .i64 13]) ∧ Below W.heap.size W w') := Lib.hid fun W b => by
    have h := p2 W b
    rw [e2] at h
    exact h.mono fun e w' ⟨h1, A, n, c, h2, h3⟩ => ⟨A, n, c, h2, h1⟩
  have HG := Lib.hid hG
  have HR := Lib.hid (Below.refl w.heap.size w)
  clear p1 p2 e1 e2 hG
  go_enter Tryz.func14, Tryz.ntmps14
  go_wp2_with (first
    | (go_at_call 13; (with_reducible refine (P1.out _ HR.out).mono ?_); rintro e w1 ⟨A1, n1, c1, rfl, b1, pm1⟩; have B1 := Lib.hid b1; have PM1 := Lib.hid pm1; clear b1 pm1)
    | (go_at_call 13; (with_reducible refine (P2.out _ B1.out).mono ?_); rintro e w2 ⟨A2, n2, c2, rfl, b2⟩; have B2 := Lib.hid (B1.out.trans (b2.mono B1.out.size)); have PM2 := Lib.hid (PM1.out.keep (keeps_below b2)); clear b2)
    | (go_at_call 25; (with_reducible refine (kn_render _ _ _ _ _ PM2.out (HG.out.on B2.out)).mono ?_); rintro e w3 ⟨rfl, b3⟩; have B3 := Lib.hid (B2.out.trans (b3.mono B2.out.size)); clear b3))
  go_ret
  exact ⟨rfl, B3.out⟩
end Go.Proofs.YtohhfcfnclafdaaGreatDoor
set_option linter.unusedVariables false
set_option linter.unusedSimpArgs false
set_option maxRecDepth 100000
namespace Go.Proofs.YtohhfcfnclafdaaGreatDoor
open Go.RowKit

theorem D.rdM_rt (l : List Nat) : D.Rt 3 false (D.rdM l).l ∧ (D.prL (D.rdM l).l).length ≤ 1000 := by
  by_cases h : (D.rdM l).e = 0
  · exact ⟨D.rdM_good h, by have := D.rdM_sz h; omega⟩
  · have e : (D.rdM l).l = [] := by
      revert h
      unfold D.rdM
      split
      · intro _; rfl
      · dsimp only
        split
        · intro _; rfl
        · split
          · intro _; rfl
          · intro h; exact absurd rfl h
    rw [e]
    exact ⟨trivial, by simp [D.prL]⟩
/-- The text's first bytes. -/
theorem cut_le (s : ByteArray) (m : Nat) (h : m ≤ s.size) : (s.extract 0 m).size ≤ m := by simp; omega
end Go.Proofs.YtohhfcfnclafdaaGreatDoor
