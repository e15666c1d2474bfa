/-
  Fields as bytes, as lists of plain numbers: what is written of fields into some room, and what is read of any bytes. No program is spoken of.
-/
import Derived.Test.YtcnbdfobhablbaaDig
set_option linter.unusedVariables false
set_option maxRecDepth 100000
set_option linter.unusedSimpArgs false
namespace Go.Proofs.Ytcnbdfobhablbaa
namespace D

theorem app_right {a b c d : List Nat} (h : a ++ b = c ++ d) (e : a.length = c.length) : a = c ∧ b = d := List.append_inj h e

/-- The lowest k bytes of a number, the highest first. -/
def be (n : Nat) : Nat → List Nat
  | 0 => []
  | k + 1 => (n / 256 ^ k % 256) :: be n k
theorem be_len (n k : Nat) : (be n k).length = k := by induction k with
  | zero => rfl
  | succ k ih => rw [be, List.length_cons, ih]
theorem be_lt (n k : Nat) : ∀ b ∈ be n k, b < 256 := by
  induction k with
  | zero => intro b hb; simp [be] at hb
  | succ k ih =>
    intro b hb
    rw [be] at hb
    rcases List.mem_cons.1 hb with rfl | hb
    · exact Nat.mod_lt _ (by decide)
    · exact ih b hb
theorem val_be (n k : Nat) : val (be n k) = n % 256 ^ k := by
  induction k with
  | zero => simp [be, val]; omega
  | succ k ih => rw [be, val_cons, be_len, ih, Nat.pow_succ, Nat.mod_mul, Nat.add_comm, Nat.mul_comm]
theorem be_one (n : Nat) : be n 1 = [n % 256] := by simp [be]

/-- A text's bytes, and the text of bytes. -/
def ns (s : ByteArray) : List Nat := s.data.toList.map (·.toNat)
def sb (l : List Nat) : ByteArray := ⟨(l.map UInt8.ofNat).toArray⟩
theorem ns_len (s : ByteArray) : (ns s).length = s.size := by simp [ns]
theorem ns_lt (s : ByteArray) : ∀ b ∈ ns s, b < 256 := by
  intro b hb
  obtain ⟨u, _, rfl⟩ := List.mem_map.1 hb
  exact u.toNat_lt
theorem sb_ns (s : ByteArray) : sb (ns s) = s := by
  have e : (UInt8.ofNat ∘ fun x : UInt8 => x.toNat) = id := by funext x; simp
  have : (ns s).map UInt8.ofNat = s.data.toList := by rw [ns, List.map_map, e, List.map_id]
  rw [sb, this]
theorem sb_nil : sb [] = ⟨#[]⟩ := rfl

/-- A field: its kind, its number, its text. -/
structure Fd where
  k : Int
  n : Nat
  s : ByteArray
structure Fd.ok (f : Fd) : Prop where
  k0 : 0 ≤ f.k
  k4 : f.k ≤ 4
  n : f.n < 18446744073709551616
  s : f.s.size ≤ 200
def enc (f : Fd) : List Nat := if f.k = 0 then [f.n % 256] else if f.k = 1 then be (f.n % 65536) 2 else if f.k = 2 then be f.n 8 else if f.k = 3 then sm f.n else sm f.s.size ++ ns f.s
theorem enc0 {f : Fd} (h : f.k = 0) : enc f = [f.n % 256] := by rw [enc, if_pos h]
theorem enc1 {f : Fd} (h : f.k = 1) : enc f = be (f.n % 65536) 2 := by rw [enc, if_neg (by omega), if_pos h]
theorem enc2 {f : Fd} (h : f.k = 2) : enc f = be f.n 8 := by rw [enc, if_neg (by omega), if_neg (by omega), if_pos h]
theorem enc3 {f : Fd} (h : f.k = 3) : enc f = sm f.n := by rw [enc, if_neg (by omega), if_neg (by omega), if_neg (by omega), if_pos h]
theorem enc4 {f : Fd} (h : f.k = 4) : enc f = sm f.s.size ++ ns f.s := by rw [enc, if_neg (by omega), if_neg (by omega), if_neg (by omega), if_neg (by omega)]
theorem Fd.ok.cases {f : Fd} (h : f.ok) : f.k = 0 ∨ f.k = 1 ∨ f.k = 2 ∨ f.k = 3 ∨ f.k = 4 := by have := h.k0; have := h.k4; omega
theorem enc_len {f : Fd} (h : f.ok) : 1 ≤ (enc f).length ∧ (enc f).length ≤ 210 := by
  have hn := h.n
  have hs := h.s
  rcases h.cases with e | e | e | e | e
  · rw [enc0 e]; simp
  · rw [enc1 e, be_len]; omega
  · rw [enc2 e, be_len]; omega
  · rw [enc3 e]; have := sm_len10 hn; have := sm_len1 f.n; omega
  · rw [enc4 e, List.length_append, ns_len]; have := sm_len10 (n := f.s.size) (by omega); have := sm_len1 f.s.size; omega
theorem enc_lt {f : Fd} (h : f.ok) : ∀ b ∈ enc f, b < 256 := by
  rcases h.cases with e | e | e | e | e
  · rw [enc0 e]; intro b hb; have := List.mem_singleton.1 hb; omega
  · rw [enc1 e]; exact be_lt _ _
  · rw [enc2 e]; exact be_lt _ _
  · rw [enc3 e]; exact sm_lt _
  · rw [enc4 e]
    intro b hb
    rcases List.mem_append.1 hb with hb | hb
    · exact sm_lt _ b hb
    · exact ns_lt _ b hb

/-- What a writer holds: what was written, and the first error. -/
structure St where
  out : List Nat
  err : Nat
/-- A field is put: its bytes, or its error. -/
def wput (room : Nat) (s : St) (r : List Nat) (e : Nat) : St :=
  if s.err ≠ 0 then s else if e ≠ 0 then ⟨s.out, e⟩ else if room < s.out.length + r.length then ⟨s.out, 2⟩ else ⟨s.out ++ r, 0⟩
theorem wput_stuck {room : Nat} {s : St} {r : List Nat} {e : Nat} (h : s.err ≠ 0) : wput room s r e = s := by rw [wput, if_pos h]
theorem wput_bad {room : Nat} {s : St} {r : List Nat} {e : Nat} (h : s.err = 0) (he : e ≠ 0) : wput room s r e = ⟨s.out, e⟩ := by rw [wput, if_neg (by omega), if_pos he]
theorem wput_long {room : Nat} {s : St} {r : List Nat} (h : s.err = 0) (hl : room < s.out.length + r.length) : wput room s r 0 = ⟨s.out, 2⟩ := by rw [wput, if_neg (by omega), if_neg (by omega), if_pos hl]
theorem wput_fits {room : Nat} {s : St} {r : List Nat} (h : s.err = 0) (hl : s.out.length + r.length ≤ room) : wput room s r 0 = ⟨s.out ++ r, 0⟩ := by rw [wput, if_neg (by omega), if_neg (by omega), if_neg (by omega)]
def writes (room : Nat) (s : St) (l : List Fd) : St := l.foldl (fun s f => wput room s (enc f) 0) s
theorem writes_snoc (room : Nat) (s : St) (l : List Fd) (f : Fd) : writes room s (l ++ [f]) = wput room (writes room s l) (enc f) 0 := by simp [writes]
theorem writes_next {room : Nat} {s : St} {l : List Fd} {i : Nat} {f : Fd} (h : l[i]? = some f) : writes room s (l.take (i + 1)) = wput room (writes room s (l.take i)) (enc f) 0 := by
  rw [List.take_add_one, h]; exact writes_snoc _ _ _ _
theorem writes_stuck {room : Nat} {s : St} (l : List Fd) (h : s.err ≠ 0) : writes room s l = s := by
  induction l with
  | nil => rfl
  | cons f l ih => rw [writes, List.foldl_cons, wput_stuck h]; exact ih
theorem writes_split (room : Nat) (s : St) (l : List Fd) (i : Nat) : writes room s l = writes room (writes room s (l.take i)) (l.drop i) := by
  unfold writes
  rw [← List.foldl_append, List.take_append_drop]
/-- All bytes of some fields. -/
def encs (l : List Fd) : List Nat := l.flatMap enc
theorem encs_nil : encs [] = [] := rfl
theorem encs_cons (f : Fd) (l : List Fd) : encs (f :: l) = enc f ++ encs l := rfl
theorem encs_len {l : List Fd} (h : ∀ f ∈ l, f.ok) : (encs l).length ≤ 210 * l.length := by
  induction l with
  | nil => simp [encs]
  | cons f l ih =>
    rw [encs_cons, List.length_append, List.length_cons]
    have := (enc_len (h f (List.mem_cons_self ..))).2
    have := ih fun g hg => h g (List.mem_cons_of_mem _ hg)
    omega
theorem encs_lt {l : List Fd} (h : ∀ f ∈ l, f.ok) : ∀ b ∈ encs l, b < 256 := by
  intro b hb
  obtain ⟨f, hf, hb⟩ := List.mem_flatMap.1 hb
  exact enc_lt (h f hf) b hb
/-- With room for all of it all is written; with less there is an error. -/
theorem writes_all (room : Nat) : ∀ (l : List Fd) (o : List Nat), o.length + (encs l).length ≤ room → writes room ⟨o, 0⟩ l = ⟨o ++ encs l, 0⟩
  | [], o, _ => by simp [writes, encs]
  | f :: l, o, h => by
    rw [encs_cons, List.length_append] at h
    rw [writes, List.foldl_cons, wput_fits rfl (by simp; omega)]
    have := writes_all room l (o ++ enc f) (by simp; omega)
    rw [writes] at this
    rw [this, encs_cons, List.append_assoc]
theorem writes_less (room : Nat) : ∀ (l : List Fd) (o : List Nat), room < o.length + (encs l).length → o.length ≤ room → (writes room ⟨o, 0⟩ l).err = 2
  | [], o, h, h2 => by simp [encs] at h; omega
  | f :: l, o, h, h2 => by
    rw [encs_cons, List.length_append] at h
    rw [writes, List.foldl_cons]
    by_cases hf : room < o.length + (enc f).length
    · rw [wput_long rfl hf]
      have := writes_stuck (room := room) (s := ⟨o, 2⟩) l (by simp)
      rw [writes] at this
      rw [this]
    · rw [wput_fits rfl (by simp; omega)]
      have := writes_less room l (o ++ enc f) (by simp; omega) (by simp; omega)
      rw [writes] at this
      exact this
theorem writes_err {room : Nat} : ∀ (l : List Fd) (s : St), s.err = 0 → (writes room s l).err = 0 ∨ (writes room s l).err = 2
  | [], s, h => .inl h
  | f :: l, s, h => by
    rw [writes, List.foldl_cons]
    by_cases hf : room < s.out.length + (enc f).length
    · rw [wput_long h hf]
      have := writes_stuck (room := room) (s := ⟨s.out, 2⟩) l (by simp)
      rw [writes] at this
      rw [this]; exact .inr rfl
    · rw [wput_fits h (by omega)]
      have := writes_err l (room := room) ⟨s.out ++ enc f, 0⟩ rfl
      rw [writes] at this
      exact this
theorem writes_out {room : Nat} : ∀ (l : List Fd) (s : St), (∀ f ∈ l, f.ok) → (writes room s l).out.length ≤ s.out.length + 210 * l.length
  | [], s, h => by simp [writes]
  | f :: l, s, h => by
    have h1 := (enc_len (h f (List.mem_cons_self ..))).2
    have ih := writes_out (room := room) l (wput room s (enc f) 0) fun g hg => h g (List.mem_cons_of_mem _ hg)
    rw [writes, List.foldl_cons]
    rw [writes] at ih
    have : (wput room s (enc f) 0).out.length ≤ s.out.length + 210 := by
      rw [wput]
      split
      · omega
      · split
        · simp
        · split
          · simp
          · simp; omega
    rw [List.length_cons]
    omega

/-- What is read of the bytes that are left: the number, the text, how many bytes, the error. -/
structure An where
  x : Nat
  s : List Nat
  k : Nat
  e : Nat
def fix (z : Nat) (r : List Nat) : An := if r.length < z then ⟨0, [], 0, 4⟩ else ⟨val (r.take z), [], z, 0⟩
def num (m : Nat) (r : List Nat) : An := if (readS r).2.2 ≠ 0 then ⟨0, [], 0, (readS r).2.2⟩ else if m < (readS r).1 then ⟨0, [], 0, 5⟩ else ⟨(readS r).1, [], (readS r).2.1, 0⟩
def txt (m : Nat) (r : List Nat) : An := if (readS r).2.2 ≠ 0 then ⟨0, [], 0, (readS r).2.2⟩ else if m < (readS r).1 then ⟨0, [], 0, 2⟩ else if r.length - (readS r).2.1 < (readS r).1 then ⟨0, [], 0, 4⟩ else ⟨0, (r.drop (readS r).2.1).take (readS r).1, (readS r).2.1 + (readS r).1, 0⟩
def rd (k : Int) (m : Nat) (r : List Nat) : An := if k = 0 then fix 1 r else if k = 1 then fix 2 r else if k = 2 then fix 8 r else if k = 3 then num m r else txt m r
theorem rd0 {m : Nat} {r : List Nat} : rd 0 m r = fix 1 r := rfl
theorem rd1 {m : Nat} {r : List Nat} : rd 1 m r = fix 2 r := rfl
theorem rd2 {m : Nat} {r : List Nat} : rd 2 m r = fix 8 r := rfl
theorem rd3 {m : Nat} {r : List Nat} : rd 3 m r = num m r := rfl
theorem rd4 {m : Nat} {r : List Nat} : rd 4 m r = txt m r := rfl
/-- What an answer keeps to. -/
structure An.fine (a : An) (n : Nat) : Prop where
  bad : a.e ≠ 0 → a.x = 0 ∧ a.s = [] ∧ a.k = 0
  le : a.k ≤ n
  x : a.x < 18446744073709551616
  e : a.e ≤ 5
theorem readS_e {l : List Nat} : (readS l).2.2 ≤ 4 := by
  have : ∀ (l : List Nat) (i a : Nat), (rs l i a).2.2 ≤ 4 := by
    intro l
    induction l with
    | nil => intro i a; simp [rs]
    | cons b t ih =>
      intro i a
      rw [rs]
      split
      · simp
      · split
        · simp
        · exact ih _ _
  exact this l 0 0
theorem fix_fine {z : Nat} {r : List Nat} (hl : ∀ b ∈ r, b < 256) (hz : z ≤ 8) : (fix z r).fine r.length := by
  unfold fix
  split
  · exact ⟨fun _ => ⟨rfl, rfl, rfl⟩, by simp, by simp, by simp⟩
  · refine ⟨fun h => absurd rfl h, by simp; omega, ?_, by simp⟩
    have := val_lt (l := r.take z) fun b hb => hl b (List.mem_of_mem_take hb)
    have h4 : 256 ^ (r.take z).length ≤ 256 ^ 8 := Nat.pow_le_pow_right (by decide) (by simp; omega)
    simp only
    omega
theorem num_fine {m : Nat} {r : List Nat} (hl : ∀ b ∈ r, b < 256) : (num m r).fine r.length := by
  have he := readS_e (l := r)
  unfold num
  split
  · exact ⟨fun _ => ⟨rfl, rfl, rfl⟩, by simp, by simp, by simp; omega⟩
  · split
    · exact ⟨fun _ => ⟨rfl, rfl, rfl⟩, by simp, by simp, by simp⟩
    · rename_i h1 h2
      rcases hr : readS r with ⟨x, k, e⟩
      rw [hr] at h1 h2
      simp only [ne_eq, Decidable.not_not] at h1
      subst h1
      have h3 := readS_just hl hr
      have h4 := readS_bd hl hr
      exact ⟨fun h => absurd rfl h, h3.2.1, h4, by simp⟩
theorem txt_fine {m : Nat} {r : List Nat} (hl : ∀ b ∈ r, b < 256) : (txt m r).fine r.length := by
  have he := readS_e (l := r)
  unfold txt
  split
  · exact ⟨fun _ => ⟨rfl, rfl, rfl⟩, by simp, by simp, by simp; omega⟩
  · split
    · exact ⟨fun _ => ⟨rfl, rfl, rfl⟩, by simp, by simp, by simp⟩
    · split
      · exact ⟨fun _ => ⟨rfl, rfl, rfl⟩, by simp, by simp, by simp⟩
      · rename_i h1 h2 h5
        rcases hr : readS r with ⟨x, k, e⟩
        rw [hr] at h1 h2 h5
        simp only [ne_eq, Decidable.not_not] at h1
        subst h1
        have h3 := readS_just hl hr
        simp only at h5
        exact ⟨fun h => absurd rfl h, by simp only; omega, by simp, by simp⟩
theorem rd_fine {k : Int} {m : Nat} {r : List Nat} (hl : ∀ b ∈ r, b < 256) : (rd k m r).fine r.length := by
  unfold rd
  split
  · exact fix_fine hl (by omega)
  · split
    · exact fix_fine hl (by omega)
    · split
      · exact fix_fine hl (by omega)
      · split
        · exact num_fine hl
        · exact txt_fine hl

/-- What a field is read as, where it was written. -/
def most (f : Fd) : Nat := if f.k = 4 then f.s.size else f.n
def num_ (f : Fd) : Nat := if f.k = 0 then f.n % 256 else if f.k = 1 then f.n % 65536 else if f.k = 4 then 0 else f.n
def txt_ (f : Fd) : List Nat := if f.k = 4 then ns f.s else []
theorem fix_back (n z : Nat) (r : List Nat) : fix z (be n z ++ r) = ⟨n % 256 ^ z, [], z, 0⟩ := by
  rw [fix, if_neg (by simp [be_len]), List.take_left' (be_len n z), val_be]
theorem rd_back {f : Fd} (h : f.ok) (r : List Nat) : rd f.k (most f) (enc f ++ r) = ⟨num_ f, txt_ f, (enc f).length, 0⟩ := by
  have hn := h.n
  have hs := h.s
  rcases h.cases with e | e | e | e | e
  · rw [enc0 e, e, rd0, ← be_one, fix_back, be_len]; simp [num_, txt_, e]
  · rw [enc1 e, e, rd1, fix_back, be_len]; simp [num_, txt_, e]
  · rw [enc2 e, e, rd2, fix_back, be_len, Nat.mod_eq_of_lt (show f.n < 256 ^ 8 from hn)]; simp [num_, txt_, e]
  · rw [enc3 e, e, rd3, num, readS_back hn]; simp [num_, txt_, e, most]
  · have hl := ns_len f.s
    have h2 : ¬ f.s.size + r.length < f.s.size := by omega
    rw [enc4 e, e, rd4, txt, List.append_assoc, readS_back (by omega)]; simp [num_, txt_, e, most, hl, h2]

/-- What a reader holds: the bytes that are left, and the first error. -/
structure Rs where
  r : List Nat
  e : Nat
def rnext (s : Rs) (a : An) : Rs := if s.e ≠ 0 then s else ⟨s.r.drop a.k, a.e⟩
def rnum (s : Rs) (a : An) : Nat := if s.e ≠ 0 then 0 else a.x
def rtxt (s : Rs) (a : An) : List Nat := if s.e ≠ 0 then [] else a.s
end D
end Go.Proofs.Ytcnbdfobhablbaa
