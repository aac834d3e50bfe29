/-
  Plain facts: what is decoded is valid UTF-8, and is decoded to itself.
-/
import Derived.Test.YthmhljnfjjblcaaRc
import Derived.Laws.Cover4
set_option linter.unusedSimpArgs false
set_option linter.unusedVariables false
namespace Go.Proofs.Ythmhljnfjjblcaa

theorem dec1 (s : ByteArray) (i r : Nat) (h0 : (s.get! (i + 0)).toNat = r) (hr : r < 128) : Utf8.decode s i = (r, 1) := by
  simp only [Utf8.decode, h0]
  rw [if_pos hr]

theorem dec2 (s : ByteArray) (i r : Nat) (h0 : (s.get! (i + 0)).toNat = 192 + r / 64) (h1 : (s.get! (i + 1)).toNat = 128 + r % 64) (hs : i + 1 < s.size) (hr : 128 ≤ r ∧ r < 2048) : Utf8.decode s i = (r, 2) := by
  simp only [Utf8.decode, h0, h1]
  rw [if_neg (by omega), if_pos (by simp; omega)]
  have e : (192 + r / 64) % 32 * 64 + (128 + r % 64) % 64 = r := by omega
  rw [e, if_pos (by omega)]

theorem dec3 (s : ByteArray) (i r : Nat) (h0 : (s.get! (i + 0)).toNat = 224 + r / 4096) (h1 : (s.get! (i + 1)).toNat = 128 + r / 64 % 64) (h2 : (s.get! (i + 2)).toNat = 128 + r % 64) (hs : i + 2 < s.size) (hr : 2048 ≤ r ∧ r < 65536) (hv : Utf8.valid r = true) : Utf8.decode s i = (r, 3) := by
  simp only [Utf8.decode, h0, h1, h2]
  rw [if_neg (by omega), if_neg (by simp; omega), if_pos (by simp; omega)]
  have e : (224 + r / 4096) % 16 * 4096 + (128 + r / 64 % 64) % 64 * 64 + (128 + r % 64) % 64 = r := by omega
  rw [e, if_pos (by simp [hv]; omega)]

theorem dec4 (s : ByteArray) (i r : Nat) (h0 : (s.get! (i + 0)).toNat = 240 + r / 262144) (h1 : (s.get! (i + 1)).toNat = 128 + r / 4096 % 64) (h2 : (s.get! (i + 2)).toNat = 128 + r / 64 % 64) (h3 : (s.get! (i + 3)).toNat = 128 + r % 64) (hs : i + 3 < s.size) (hr : 65536 ≤ r ∧ r < 1114112) (hv : Utf8.valid r = true) : Utf8.decode s i = (r, 4) := by
  simp only [Utf8.decode, h0, h1, h2, h3]
  rw [if_neg (by omega), if_neg (by simp; omega), if_neg (by simp; omega), if_pos (by simp; omega)]
  have e : (240 + r / 262144) % 8 * 262144 + (128 + r / 4096 % 64) % 64 * 4096 + (128 + r / 64 % 64) % 64 * 64 + (128 + r % 64) % 64 = r := by omega
  rw [e, if_pos (by simp [hv]; omega)]

theorem get_byte (s : ByteArray) (n : Nat) (c : UInt8) (h : s.data.toList[n]? = some c) : s.get! n = c := by
  obtain ⟨hlt, e⟩ := List.getElem?_eq_some_iff.1 h
  have hn : n < s.size := by simpa using hlt
  have : s.get! n = s[n]'hn := by simp [ByteArray.get!, getElem!_pos, hn]; rfl
  rw [this]
  exact e

theorem at_mid (A E B : List UInt8) (k : Nat) (hk : k < E.length) : (A ++ E ++ B)[A.length + k]? = some E[k] := by
  rw [List.append_assoc, List.getElem?_append_right (by omega), List.getElem?_append_left (by omega)]
  simp [hk]

theorem u8_nat (n : Nat) (h : n < 256) : (UInt8.ofNat n).toNat = n := by
  have : (UInt8.ofNat n).toNat = n % 256 := by simp
  rw [this]; omega

theorem valid_iff (r : Nat) : Utf8.valid r = true ↔ (r < 55296 ∨ 57344 ≤ r) ∧ r ≤ 1114111 := by
  unfold Utf8.valid
  simp
  omega

theorem enc_bytes (r : Nat) (hv : Utf8.valid r = true) : Lib.encodeRune r =
    if r < 128 then [UInt8.ofNat r] else if r < 2048 then [UInt8.ofNat (192 + r / 64), UInt8.ofNat (128 + r % 64)] else if r < 65536 then [UInt8.ofNat (224 + r / 4096), UInt8.ofNat (128 + r / 64 % 64), UInt8.ofNat (128 + r % 64)]
    else [UInt8.ofNat (240 + r / 262144), UInt8.ofNat (128 + r / 4096 % 64), UInt8.ofNat (128 + r / 64 % 64), UInt8.ofNat (128 + r % 64)] := by
  rw [← enc_eq]
  unfold Utf8.encode
  simp only [hv, if_true, Int.toNat_natCast]
  split
  · rfl
  · split
    · rfl
    · split <;> rfl

/-- A rune that was encoded is decoded to itself, wherever it stands. -/
theorem decode_enc (s : ByteArray) (A B : List UInt8) (r : Nat) (hv : Utf8.valid r = true) (hs : s.data.toList = A ++ Lib.encodeRune r ++ B) : Utf8.decode s A.length = (r, (Lib.encodeRune r).length) := by
  have hvr := (valid_iff r).1 hv
  have hsz : s.size = A.length + (Lib.encodeRune r).length + B.length := by rw [Lib.size_eq, hs]; simp; omega
  have he := enc_bytes r hv
  have hget : ∀ k (hk : k < (Lib.encodeRune r).length), s.get! (A.length + k) = (Lib.encodeRune r)[k] := fun k hk => get_byte s _ _ (by rw [hs]; exact at_mid A _ B k hk)
  by_cases c1 : r < 128
  · rw [if_pos c1] at he
    rw [he] at hget hsz ⊢
    have g0 := hget 0 (by simp)
    rw [dec1 s A.length r (by rw [g0]; exact u8_nat r (by omega)) c1]
    rfl
  rw [if_neg c1] at he
  by_cases c2 : r < 2048
  · rw [if_pos c2] at he
    rw [he] at hget hsz ⊢
    have g0 := hget 0 (by simp)
    have g1 := hget 1 (by simp)
    rw [dec2 s A.length r (by rw [g0]; exact u8_nat _ (by omega)) (by rw [g1]; exact u8_nat _ (by omega)) (by rw [hsz]; simp; omega) (by omega)]
    rfl
  rw [if_neg c2] at he
  by_cases c3 : r < 65536
  · rw [if_pos c3] at he
    rw [he] at hget hsz ⊢
    have g0 := hget 0 (by simp)
    have g1 := hget 1 (by simp)
    have g2 := hget 2 (by simp)
    rw [dec3 s A.length r (by rw [g0]; exact u8_nat _ (by omega)) (by rw [g1]; exact u8_nat _ (by omega)) (by rw [g2]; exact u8_nat _ (by omega)) (by rw [hsz]; simp; omega) (by omega) hv]
    rfl
  rw [if_neg c3] at he
  · rw [he] at hget hsz ⊢
    have g0 := hget 0 (by simp)
    have g1 := hget 1 (by simp)
    have g2 := hget 2 (by simp)
    have g3 := hget 3 (by simp)
    rw [dec4 s A.length r (by rw [g0]; exact u8_nat _ (by omega)) (by rw [g1]; exact u8_nat _ (by omega)) (by rw [g2]; exact u8_nat _ (by omega)) (by rw [g3]; exact u8_nat _ (by omega)) (by rw [hsz]; simp; omega) (by omega) hv]
    rfl

theorem decode_valid (s : ByteArray) (i : Nat) : Utf8.valid (Utf8.decode s i).1 = true := by
  have hb : ∀ k, (s.get! (i + k)).toNat < 256 := fun k => (s.get! (i + k)).toNat_lt
  have h0 := hb 0
  have h1 := hb 1
  simp only [Utf8.decode]
  split
  · rw [valid_iff]; simp only; omega
  · split
    · split
      · rw [valid_iff]; simp only
        have := Nat.mod_lt ((s.get! (i + 0)).toNat) (show 32 > 0 by omega)
        omega
      · rfl
    · split
      · split
        · rename_i h; simp at h; exact h.2
        · rfl
      · split
        · split
          · rename_i h; simp at h; exact h.2
          · rfl
        · rfl

theorem enc_le (r : Int) : (Lib.encodeRune r).length ≤ 4 := by
  have := Lib.encodeRuneZ_length r
  unfold Lib.encodeRune
  rw [List.length_map]
  exact this.2

theorem recFrom_le (s : ByteArray) : ∀ (fuel pos : Nat), (recFrom s fuel pos).length ≤ 4 * fuel := by
  intro fuel
  induction fuel with
  | zero => intro pos; simp [recFrom]
  | succ f ih =>
    intro pos
    unfold recFrom
    split
    · have h1 := ih (pos + (Utf8.decode s pos).2)
      have h2 := enc_le ((Utf8.decode s pos).1 : Int)
      rw [List.length_append]
      have h3 : (Lib.encodeRune ↑(Utf8.decode s pos).fst).length ≤ 4 := h2
      omega
    · simp

theorem dec_le (l : List UInt8) : (dec l).length ≤ 4 * l.length := by
  refine Nat.le_trans (recFrom_le _ _ _) ?_
  have : (ByteArray.mk (Lib.trimPrefix l bom).toArray).size ≤ l.length := by
    rw [Lib.size_eq]
    unfold Lib.trimPrefix
    simp only
    split <;> simp
  omega

/-- Runes, each encoded. -/
def runesOf (rs : List Nat) : List UInt8 := rs.flatMap fun (r : Nat) => Lib.encodeRune (r : Int)

theorem enc_pos (r : Int) : 1 ≤ (Lib.encodeRune r).length := by
  have := Lib.encodeRuneZ_length r
  unfold Lib.encodeRune
  rw [List.length_map]
  exact this.1

theorem runesOf_len (rs : List Nat) : rs.length ≤ (runesOf rs).length := by
  induction rs with
  | nil => simp
  | cons r rs ih =>
    have := enc_pos r
    simp [runesOf] at ih ⊢
    omega

theorem recFrom_runes (s : ByteArray) (rs : List Nat) : ∀ (A : List UInt8) (fuel : Nat), (∀ r ∈ rs, Utf8.valid r = true) → s.data.toList = A ++ runesOf rs → rs.length ≤ fuel → recFrom s fuel A.length = runesOf rs := by
  induction rs with
  | nil =>
    intro A fuel _ hs _
    refine recFrom_end s fuel _ ?_
    rw [Lib.size_eq, hs]; simp [runesOf]
  | cons r rs ih =>
    intro A fuel hv hs hf
    obtain ⟨f, rfl⟩ : ∃ f, fuel = f + 1 := ⟨fuel - 1, by simp at hf; omega⟩
    have hs' : s.data.toList = A ++ Lib.encodeRune r ++ runesOf rs := by rw [hs]; simp [runesOf]
    have hlt : A.length < s.size := by
      have := enc_pos r
      rw [Lib.size_eq, hs']; simp; omega
    have hd := decode_enc s A (runesOf rs) r (hv r (by simp)) hs'
    have hih := ih (A ++ Lib.encodeRune r) f (fun x hx => hv x (by simp [hx])) hs' (by simp at hf; omega)
    show (if A.length < s.size then _ else _) = _
    rw [if_pos hlt, hd]
    simp only
    rw [List.length_append] at hih
    rw [hih]
    simp [runesOf]

theorem recode_runes (s : ByteArray) (rs : List Nat) (hv : ∀ r ∈ rs, Utf8.valid r = true) (hs : s.data.toList = runesOf rs) : recode s = s.data.toList := by
  have := recFrom_runes s rs [] s.size hv (by simpa using hs) (by rw [Lib.size_eq, hs]; exact runesOf_len rs)
  rw [hs]
  exact this

theorem recFrom_form (s : ByteArray) : ∀ (fuel pos : Nat), ∃ rs : List Nat, (∀ r ∈ rs, Utf8.valid r = true) ∧ recFrom s fuel pos = runesOf rs := by
  intro fuel
  induction fuel with
  | zero => intro pos; exact ⟨[], by simp, rfl⟩
  | succ f ih =>
    intro pos
    by_cases h : pos < s.size
    · obtain ⟨rs, hv, e⟩ := ih (pos + (Utf8.decode s pos).2)
      refine ⟨(Utf8.decode s pos).1 :: rs, ?_, ?_⟩
      · intro r hr
        rcases List.mem_cons.1 hr with rfl | hr
        · exact decode_valid s pos
        · exact hv r hr
      · show (if pos < s.size then _ else _) = _
        rw [if_pos h, e]
        simp [runesOf]
    · exact ⟨[], by simp, recFrom_end s _ pos h⟩

theorem dec_form (l : List UInt8) : ∃ rs : List Nat, (∀ r ∈ rs, Utf8.valid r = true) ∧ dec l = runesOf rs := recFrom_form _ _ _

theorem enc_x : Lib.encodeRune (120 : Nat) = [120] := by decide

theorem trim_x (t : List UInt8) : Lib.trimPrefix (120 :: t) bom = 120 :: t := by
  unfold Lib.trimPrefix
  have : Lib.hasPrefix (120 :: t) bom = false := by
    rw [← Lib.hasPrefix_of_take, Bool.and_eq_false_iff]
    right
    rw [beq_eq_false_iff_ne]
    intro e
    have := congrArg List.head? e
    simp [bom] at this
  simp [this]

theorem trim_bom (t : List UInt8) : Lib.trimPrefix (bom ++ t) bom = t := by
  unfold Lib.trimPrefix
  have : Lib.hasPrefix (bom ++ t) bom = true := by
    rw [← Lib.hasPrefix_of_take]; simp
  simp [this]

theorem recode_x (l : List UInt8) : recode ⟨(120 :: dec l).toArray⟩ = 120 :: dec l := by
  obtain ⟨rs, hv, e⟩ := dec_form l
  refine recode_runes _ (120 :: rs) ?_ ?_
  · intro r hr
    rcases List.mem_cons.1 hr with rfl | hr
    · decide
    · exact hv r hr
  · show 120 :: dec l = _
    rw [e]
    show _ = Lib.encodeRune (120 : Nat) ++ runesOf rs
    rw [enc_x]; rfl

theorem dec_x (l : List UInt8) : dec (120 :: dec l) = 120 :: dec l := by
  show recode ⟨(Lib.trimPrefix (120 :: dec l) bom).toArray⟩ = _
  rw [trim_x]; exact recode_x l

theorem dec_bom (l : List UInt8) : dec (bom ++ 120 :: dec l) = 120 :: dec l := by
  show recode ⟨(Lib.trimPrefix (bom ++ 120 :: dec l) bom).toArray⟩ = _
  rw [trim_bom]; exact recode_x l

/-- The runes of a text. -/
def runesN (s : ByteArray) : Nat → Nat → List Nat
  | 0, _ => []
  | b + 1, i => if i < s.size then (Utf8.decode s i).1 :: runesN s b (i + (Utf8.decode s i).2) else []

theorem runesN_from (s : ByteArray) : ∀ (b i : Nat) (acc : Array Value), Conv.runesFrom s b i acc = acc ++ ((runesN s b i).map fun r => Value.int .i32 (Int.ofNat r)).toArray := by
  intro b
  induction b with
  | zero => intro i acc; simp [Conv.runesFrom, runesN]
  | succ b ih =>
    intro i acc
    unfold Conv.runesFrom runesN
    by_cases h : i < s.size
    · simp only [h, if_true]
      rw [ih]
      simp
    · simp [h]

theorem runesN_rec (s : ByteArray) : ∀ (b i : Nat), runesOf (runesN s b i) = recFrom s b i := by
  intro b
  induction b with
  | zero => intro i; rfl
  | succ b ih =>
    intro i
    unfold runesN recFrom
    by_cases h : i < s.size
    · simp only [h, if_true]
      rw [← ih]
      simp [runesOf]
    · simp [h, runesOf]

theorem runesBytes_of (rs : List Nat) : (runesBytes (rs.map Int.ofNat)).data.toList = runesOf rs := by
  unfold runesBytes
  suffices h : ∀ (rs : List Nat) (s : ByteArray), ((rs.map Int.ofNat).foldl (fun r n => r ++ Utf8.encode n) s).data.toList = s.data.toList ++ runesOf rs by
    have := h rs ByteArray.empty
    simpa using this
  intro rs
  induction rs with
  | nil => intro s; simp [runesOf]
  | cons r rs ih =>
    intro s
    simp only [List.map_cons, List.foldl_cons]
    rw [ih, ByteArray.data_append, Array.toList_append, enc_eq]
    simp [runesOf]

/-- 'string([]rune(s))' of a text that was decoded is the text. -/
theorem dec_runes (l : List UInt8) (s : ByteArray) (hs : s.data.toList = dec l) : runesBytes ((runesN s s.size 0).map Int.ofNat) = s := by
  obtain ⟨rs, hv, e⟩ := dec_form l
  have h1 := runesBytes_of (runesN s s.size 0)
  rw [runesN_rec] at h1
  have h2 : recode s = s.data.toList := recode_runes s rs hv (by rw [hs, e])
  apply ByteArray.ext
  apply Array.toList_inj.1
  rw [h1]
  exact h2

end Go.Proofs.Ythmhljnfjjblcaa
