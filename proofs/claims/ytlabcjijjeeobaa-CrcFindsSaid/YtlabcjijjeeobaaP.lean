/-
  What those functions come to, told by plain functions of lists and numbers. Conditions: as each theorem says.
-/
import Derived.Test.YtlabcjijjeeobaaGb
import Derived.Test.YtlabcjijjeeobaaSyZ
import Derived.Laws.BitsAllLaws
namespace Go.Proofs.Ytlabcjijjeeobaa
open Go Go.Sy Go.RowKit Go.ChangeShapes Go.WideShapes Go.ChangeAt
set_option linter.unusedVariables false
set_option linter.unusedSimpArgs false
set_option maxRecDepth 100000

/-! Numbers of 32 bits, shifted and summed. -/
def half (n : Nat) : Nat := if n % 2 = 1 then (n / 2) ^^^ 3988292384 else n / 2
def half8 (n : Nat) : Nat := half (half (half (half (half (half (half (half n)))))))
def onN (s : Nat) (l : List Nat) : Nat := l.foldl (fun s c => half8 (s ^^^ c)) s

theorem x32 {a b : Nat} (ha : a < 4294967296) (hb : b < 4294967296) : a ^^^ b < 4294967296 := Nat.xor_lt_two_pow (n := 32) ha hb
theorem half_lt {n : Nat} (h : n < 4294967296) : half n < 4294967296 := by
  unfold half
  split
  · exact x32 (by omega) (by omega)
  · omega
theorem half8_lt {n : Nat} (h : n < 4294967296) : half8 n < 4294967296 := by
  unfold half8
  exact half_lt (half_lt (half_lt (half_lt (half_lt (half_lt (half_lt (half_lt h)))))))
theorem xor_div2 (a b : Nat) : (a ^^^ b) / 2 = a / 2 ^^^ b / 2 := Nat.xor_div_two
theorem xor_mod2 (a b : Nat) : (a ^^^ b) % 2 = (a + b) % 2 := by
  have h := Nat.xor_mod_two_eq_one (a := a) (b := b)
  by_cases h1 : a % 2 = 1 <;> by_cases h2 : b % 2 = 1 <;> simp only [h1, h2, not_true, not_false_eq_true, iff_true, iff_false, true_iff, false_iff, iff_self] at h <;> omega
theorem xor_zero_eq {a b : Nat} (h : a ^^^ b = 0) : a = b := by
  have h1 : a ^^^ b ^^^ b = 0 ^^^ b := by rw [h]
  rwa [Nat.xor_assoc, Nat.xor_self, Nat.xor_zero, Nat.zero_xor] at h1
theorem half_xor (a b : Nat) : half (a ^^^ b) = half a ^^^ half b := by
  unfold half
  rw [xor_div2]
  have hm := xor_mod2 a b
  by_cases h1 : a % 2 = 1 <;> by_cases h2 : b % 2 = 1
  · rw [if_pos h1, if_pos h2, if_neg (by omega)]
    have : a / 2 ^^^ 3988292384 ^^^ (b / 2 ^^^ 3988292384) = (a / 2 ^^^ b / 2) ^^^ (3988292384 ^^^ 3988292384) := by ac_rfl
    rw [this, Nat.xor_self, Nat.xor_zero]
  · rw [if_pos h1, if_neg h2, if_pos (by omega)]; ac_rfl
  · rw [if_neg h1, if_pos h2, if_pos (by omega)]; ac_rfl
  · rw [if_neg h1, if_neg h2, if_neg (by omega)]
theorem half8_xor (a b : Nat) : half8 (a ^^^ b) = half8 a ^^^ half8 b := by unfold half8; simp only [half_xor]
theorem half_zero {n : Nat} (hn : n < 4294967296) (h : half n = 0) : n = 0 := by
  unfold half at h
  split at h
  · have : n / 2 = 3988292384 := xor_zero_eq h
    omega
  · omega
theorem half8_zero {n : Nat} (hn : n < 4294967296) (h : half8 n = 0) : n = 0 := by
  unfold half8 at h
  have l1 := half_lt hn
  have l2 := half_lt l1
  have l3 := half_lt l2
  have l4 := half_lt l3
  have l5 := half_lt l4
  have l6 := half_lt l5
  have l7 := half_lt l6
  exact half_zero hn (half_zero l1 (half_zero l2 (half_zero l3 (half_zero l4 (half_zero l5 (half_zero l6 (half_zero l7 h)))))))

theorem onN_nil (s : Nat) : onN s [] = s := rfl
theorem onN_cons (s c : Nat) (l : List Nat) : onN s (c :: l) = onN (half8 (s ^^^ c)) l := rfl
theorem onN_append (s : Nat) (l m : List Nat) : onN s (l ++ m) = onN (onN s l) m := by unfold onN; rw [List.foldl_append]
def bytesP (l : List Nat) : Prop := ∀ c ∈ l, c < 256
theorem onN_lt {l : List Nat} : ∀ {s : Nat}, s < 4294967296 → bytesP l → onN s l < 4294967296 := by
  induction l with
  | nil => intro s hs _; exact hs
  | cons c l ih =>
    intro s hs hl
    rw [onN_cons]
    have := hl c (List.mem_cons_self ..)
    exact ih (half8_lt (x32 hs (by omega))) (fun x hx => hl x (List.mem_cons_of_mem _ hx))
theorem onN_xor : ∀ (l m : List Nat) (s t : Nat), l.length = m.length → onN (s ^^^ t) (List.zipWith (· ^^^ ·) l m) = onN s l ^^^ onN t m := by
  intro l
  induction l with
  | nil => intro m s t h; cases m with
    | nil => rfl
    | cons _ _ => cases h
  | cons c l ih =>
    intro m s t h
    cases m with
    | nil => cases h
    | cons d m =>
      rw [List.zipWith_cons_cons, onN_cons, onN_cons, onN_cons]
      rw [← ih m _ _ (by simpa using h), ← half8_xor]
      congr 2; ac_rfl
theorem half8_inj {a b : Nat} (ha : a < 4294967296) (hb : b < 4294967296) (h : half8 a = half8 b) : a = b := by
  have h1 : half8 (a ^^^ b) = 0 := by rw [half8_xor, h, Nat.xor_self]
  exact xor_zero_eq (half8_zero (x32 ha hb) h1)
theorem onN_inj : ∀ {l : List Nat} {s t : Nat}, s < 4294967296 → t < 4294967296 → bytesP l → onN s l = onN t l → s = t := by
  intro l
  induction l with
  | nil => intro s t _ _ _ h; exact h
  | cons c l ih =>
    intro s t hs ht hl h
    have hc := hl c (List.mem_cons_self ..)
    have h1 : s ^^^ c < 4294967296 := x32 hs (by omega)
    have h2 : t ^^^ c < 4294967296 := x32 ht (by omega)
    have h3 := half8_inj h1 h2 (ih (half8_lt h1) (half8_lt h2) (fun x hx => hl x (List.mem_cons_of_mem _ hx)) h)
    have h4 : s ^^^ c ^^^ c = t ^^^ c ^^^ c := by rw [h3]
    rwa [Nat.xor_assoc, Nat.xor_self, Nat.xor_zero, Nat.xor_assoc, Nat.xor_self, Nat.xor_zero] at h4

/-- A number of 32 bits by its bytes, the lowest first. -/
def word (a b c d : Nat) : Nat := a + b * 256 + c * 65536 + d * 16777216
theorem half_shift {m : Nat} (h : m % 2 = 0) : half m = m / 2 := by unfold half; rw [if_neg (by omega)]
theorem half8_shift (v : Nat) : half8 (v * 256) = v := by
  have h : ∀ m, half (m * 2) = m := fun m => by rw [half_shift (by omega)]; omega
  have e : v * 256 = v * 2 * 2 * 2 * 2 * 2 * 2 * 2 * 2 := by omega
  unfold half8
  rw [e, h, h, h, h, h, h, h, h]
theorem xor_add {a v : Nat} (ha : a < 256) : a ^^^ (v * 256) = a + v * 256 := by
  have h := Nat.two_pow_add_eq_or_of_lt (i := 8) (b := a) ha v
  have h2 : v * 256 = 2 ^ 8 * v := by omega
  rw [h2, Nat.add_comm, h]
  apply Nat.eq_of_testBit_eq
  intro i
  rw [Nat.testBit_xor, Nat.testBit_or, Nat.testBit_two_pow_mul]
  by_cases hi : 8 ≤ i
  · have : a.testBit i = false := Nat.testBit_lt_two_pow (Nat.lt_of_lt_of_le ha (Nat.pow_le_pow_right (n := 2) (by decide) hi))
    simp [this]
  · simp [hi]
theorem on4 {s a b c d : Nat} (ha : a < 256) (hb : b < 256) (hc : c < 256) : onN s [a, b, c, d] = half8 (half8 (half8 (half8 (s ^^^ word a b c d)))) := by
  have w3 : word a b c d = a ^^^ ((b ^^^ ((c ^^^ (d * 256)) * 256)) * 256) := by
    rw [xor_add hc, xor_add hb, xor_add ha]; unfold word; omega
  rw [w3]
  show half8 (half8 (half8 (half8 (s ^^^ a) ^^^ b) ^^^ c) ^^^ d) = _
  have e1 : s ^^^ (a ^^^ ((b ^^^ ((c ^^^ (d * 256)) * 256)) * 256)) = (s ^^^ a) ^^^ ((b ^^^ ((c ^^^ (d * 256)) * 256)) * 256) := by ac_rfl
  rw [e1, half8_xor (s ^^^ a), half8_shift]
  have e2 : half8 (s ^^^ a) ^^^ (b ^^^ ((c ^^^ (d * 256)) * 256)) = (half8 (s ^^^ a) ^^^ b) ^^^ ((c ^^^ (d * 256)) * 256) := by ac_rfl
  rw [e2, half8_xor (half8 (s ^^^ a) ^^^ b), half8_shift]
  have e3 : half8 (half8 (s ^^^ a) ^^^ b) ^^^ (c ^^^ (d * 256)) = (half8 (half8 (s ^^^ a) ^^^ b) ^^^ c) ^^^ (d * 256) := by ac_rfl
  rw [e3, half8_xor (half8 (half8 (s ^^^ a) ^^^ b) ^^^ c), half8_shift]
theorem word_lt {a b c d : Nat} (ha : a < 256) (hb : b < 256) (hc : c < 256) (hd : d < 256) : word a b c d < 4294967296 := by unfold word; omega
theorem xor_keep {p a : Nat} (h : p ^^^ a = p) : a = 0 := by
  have : p ^^^ (p ^^^ a) = p ^^^ p := by rw [h]
  rwa [← Nat.xor_assoc, Nat.xor_self, Nat.zero_xor] at this
theorem word_inj {a b c d a' b' c' d' : Nat} (ha : a < 256) (hb : b < 256) (hc : c < 256) (ha' : a' < 256) (hb' : b' < 256) (hc' : c' < 256) (h : word a b c d = word a' b' c' d') :
    a = a' ∧ b = b' ∧ c = c' ∧ d = d' := by unfold word at h; omega
theorem x8 {a b : Nat} (ha : a < 256) (hb : b < 256) : a ^^^ b < 256 := Nat.xor_lt_two_pow (n := 8) ha hb
theorem h84_inj {a b : Nat} (ha : a < 4294967296) (hb : b < 4294967296) (h : half8 (half8 (half8 (half8 a))) = half8 (half8 (half8 (half8 b)))) : a = b :=
  half8_inj ha hb (half8_inj (half8_lt ha) (half8_lt hb) (half8_inj (half8_lt (half8_lt ha)) (half8_lt (half8_lt hb)) (half8_inj (half8_lt (half8_lt (half8_lt ha))) (half8_lt (half8_lt (half8_lt hb))) h)))
theorem xor_left {s a b : Nat} (h : s ^^^ a = s ^^^ b) : a = b := by
  have : s ^^^ (s ^^^ a) = s ^^^ (s ^^^ b) := by rw [h]
  rwa [← Nat.xor_assoc, ← Nat.xor_assoc, Nat.xor_self, Nat.zero_xor, Nat.zero_xor] at this
/-- One to four bytes that stand together, changed, are seen. -/
theorem burst_on {pre suf : List Nat} {p q r s a b c d t : Nat} (ht : t < 4294967296) (hl : bytesP (pre ++ p :: q :: r :: s :: suf)) (ha : a < 256) (hb : b < 256) (hc : c < 256) (hd : d < 256) (h : ¬ (a = 0 ∧ b = 0 ∧ c = 0 ∧ d = 0)) :
    onN t (pre ++ (p ^^^ a) :: (q ^^^ b) :: (r ^^^ c) :: (s ^^^ d) :: suf) ≠ onN t (pre ++ p :: q :: r :: s :: suf) := by
  intro he
  have hpre : bytesP pre := fun x hx => hl x (by simp [hx])
  have hsuf : bytesP suf := fun x hx => hl x (by simp [hx])
  have hp := hl p (by simp)
  have hq := hl q (by simp)
  have hr := hl r (by simp)
  have hs := hl s (by simp)
  have ht' := onN_lt ht hpre
  have e1 : ∀ w x y z : Nat, onN t (pre ++ w :: x :: y :: z :: suf) = onN (onN (onN t pre) [w, x, y, z]) suf := fun w x y z => by
    rw [onN_append]
    exact onN_append (onN t pre) [w, x, y, z] suf
  rw [e1, e1] at he
  have b4 : ∀ w x y z : Nat, w < 256 → x < 256 → y < 256 → z < 256 → bytesP [w, x, y, z] := fun w x y z h1 h2 h3 h4 v hv => by
    simp at hv
    rcases hv with rfl | rfl | rfl | rfl <;> assumption
  have h1 := onN_inj (onN_lt ht' (b4 _ _ _ _ (x8 hp ha) (x8 hq hb) (x8 hr hc) (x8 hs hd))) (onN_lt ht' (b4 _ _ _ _ hp hq hr hs)) hsuf he
  rw [on4 (x8 hp ha) (x8 hq hb) (x8 hr hc), on4 hp hq hr] at h1
  have h2 := xor_left (h84_inj (x32 ht' (word_lt (x8 hp ha) (x8 hq hb) (x8 hr hc) (x8 hs hd))) (x32 ht' (word_lt hp hq hr hs)) h1)
  obtain ⟨g1, g2, g3, g4⟩ := word_inj (x8 hp ha) (x8 hq hb) (x8 hr hc) hp hq hr h2
  exact h ⟨xor_keep g1, xor_keep g2, xor_keep g3, xor_keep g4⟩

theorem compl {x : Nat} (h : x < 4294967296) : 4294967295 ^^^ x = 4294967295 - x := by
  apply Nat.eq_of_testBit_eq
  intro i
  have e1 : 4294967295 - x = 2 ^ 32 - (x + 1) := by omega
  have e2 : (4294967295 : Nat) = 2 ^ 32 - (0 + 1) := by omega
  rw [e1, Nat.testBit_two_pow_sub_succ h, Nat.testBit_xor, e2, Nat.testBit_two_pow_sub_succ (by decide)]
  by_cases hi : i < 32
  · simp [hi]
  · have : x.testBit i = false := Nat.testBit_lt_two_pow (Nat.lt_of_lt_of_le h (Nat.pow_le_pow_right (n := 2) (i := 32) (by decide) (by omega)))
    simp [hi, this]
theorem xor_back (m x : Nat) : m ^^^ (m ^^^ x) = x := by rw [← Nat.xor_assoc, Nat.xor_self, Nat.zero_xor]

/-- The checksum of a row. -/
def crcN (l : List Nat) : Nat := 4294967295 ^^^ onN 4294967295 l
theorem crcN_lt {l : List Nat} (h : bytesP l) : crcN l < 4294967296 := x32 (by decide) (onN_lt (by decide) h)
def res : Nat := half8 (half8 (half8 (half8 4294967295)))
theorem valid_iff {m : List Nat} {a b c d : Nat} (h : bytesP (m ++ [a, b, c, d])) : word a b c d = crcN m ↔ onN 4294967295 (m ++ [a, b, c, d]) = res := by
  have hm : bytesP m := fun x hx => h x (by simp [hx])
  have ha := h a (by simp)
  have hb := h b (by simp)
  have hc := h c (by simp)
  have hd := h d (by simp)
  have hs := onN_lt (s := 4294967295) (by decide) hm
  rw [onN_append, on4 ha hb hc]
  unfold crcN res
  constructor
  · intro e; rw [e, Nat.xor_comm 4294967295, ← Nat.xor_assoc, Nat.xor_self, Nat.zero_xor]
  · intro e
    have := h84_inj (x32 hs (word_lt ha hb hc hd)) (by decide) e
    generalize onN 4294967295 m = S at this
    generalize word a b c d = W at this
    rw [← this, Nat.xor_comm S, Nat.xor_assoc, Nat.xor_self, Nat.xor_zero]

def up (l : List Nat) : List Int := l.map fun n : Nat => (n : Int)
theorem up_len (l : List Nat) : (up l).length = l.length := by simp [up]
theorem up_append (l m : List Nat) : up (l ++ m) = up l ++ up m := by simp [up]
theorem up_cons (x : Nat) (l : List Nat) : up (x :: l) = (x : Int) :: up l := rfl
theorem up_inj {l m : List Nat} (h : up l = up m) : l = m := by
  have := congrArg (List.map Int.toNat) h
  simpa [up, Function.comp_def] using this
theorem up_of {xs : List Int} (h : WfL (WfI .u8) xs) : ∃ l, xs = up l ∧ bytesP l ∧ l.length = xs.length := by
  refine ⟨xs.map Int.toNat, ?_, ?_, by simp⟩
  · unfold up
    rw [List.map_map]
    have : ∀ x ∈ xs, ((fun n : Nat => (n : Int)) ∘ Int.toNat) x = x := fun x hx => by
      have := wf_u8 (h.2 x hx); simp; omega
    rw [List.map_congr_left this]; simp
  · intro c hc
    rw [List.mem_map] at hc
    obtain ⟨x, hx, rfl⟩ := hc
    have := wf_u8 (h.2 x hx); omega

def it : Nat → Nat → Nat
  | 0, n => n
  | i + 1, n => half (it i n)
theorem it_lt {n : Nat} (h : n < 4294967296) : ∀ i, it i n < 4294967296
  | 0 => h
  | i + 1 => half_lt (it_lt h i)
theorem it8 (n : Nat) : it 8 n = half8 n := rfl

theorem step_eq {s c : Nat} (hs : s < 4294967296) (hc : c < 256) : crc_Step s c = some ((half8 (s ^^^ c) : Nat) : Int) := by
  unfold crc_Step
  have hx : s ^^^ c < 4294967296 := x32 hs (by omega)
  rw [wu32 (by omega) (by omega), u32_xor_nat s c hs (by omega)]
  refine bind_of (fun o => o = ((half8 (s ^^^ c) : Nat) : Int)) (loop_count 8 (fun i => (((it i (s ^^^ c) : Nat) : Int), (i : Int))) (fun _ => True) _ rfl trivial (fun i hi _ => .inl ⟨?_, trivial⟩) (fun _ => ⟨_, rfl, rfl⟩) (by omega)) ?_
  · have hit := it_lt hx i
    simp only
    generalize hn : it i (s ^^^ c) = n at hit
    have e1 : bits .and .u32 (n : Int) 1 = ((n % 2 : Nat) : Int) := by
      have := u32_and_nat n 1 hit (by omega)
      rw [Nat.and_one_is_mod] at this
      exact this
    have e2 : Int.fdiv (n : Int) 2 = ((n / 2 : Nat) : Int) := by rw [Int.fdiv_eq_ediv_of_nonneg _ (by omega)]; omega
    have e3 : bits .xor .u32 ((n / 2 : Nat) : Int) 3988292384 = ((n / 2 ^^^ 3988292384 : Nat) : Int) := u32_xor_nat (n / 2) 3988292384 (by omega) (by omega)
    have e4 : it (i + 1) (s ^^^ c) = half n := by show half (it i (s ^^^ c)) = half n; rw [hn]
    rw [e1, e2, e3, e4, dT (show (i : Int) < 8 by omega), w64 (by omega) (by omega)]
    unfold half
    by_cases h : n % 2 = 1
    · rw [if_pos h, dT (by omega)]; rfl
    · rw [if_neg h, dF (by omega)]; rfl
  · rintro o rfl; rfl
theorem rstep_eq {s c : Nat} (hs : s < 4294967296) (hc : c < 256) : exergueref08_Step s c = some ((half8 (s ^^^ c) : Nat) : Int) := by
  unfold exergueref08_Step
  have hx : s ^^^ c < 4294967296 := x32 hs (by omega)
  rw [wu32 (by omega) (by omega), u32_xor_nat s c hs (by omega)]
  refine bind_of (fun o => o = ((half8 (s ^^^ c) : Nat) : Int)) (loop_count 8 (fun i => (((it i (s ^^^ c) : Nat) : Int), (i : Int))) (fun _ => True) _ rfl trivial (fun i hi _ => .inl ⟨?_, trivial⟩) (fun _ => ⟨_, rfl, rfl⟩) (by omega)) ?_
  · have hit := it_lt hx i
    simp only
    generalize hn : it i (s ^^^ c) = n at hit
    have e1 : Int.tmod (n : Int) 2 = ((n % 2 : Nat) : Int) := by rw [Int.tmod_eq_emod_of_nonneg (by omega)]; omega
    have e2 : Int.tdiv (n : Int) 2 = ((n / 2 : Nat) : Int) := by rw [Int.tdiv_eq_ediv_of_nonneg (by omega)]; omega
    have e3 : bits .xor .u32 ((n / 2 : Nat) : Int) 3988292384 = ((n / 2 ^^^ 3988292384 : Nat) : Int) := u32_xor_nat (n / 2) 3988292384 (by omega) (by omega)
    have e4 : it (i + 1) (s ^^^ c) = half n := by show half (it i (s ^^^ c)) = half n; rw [hn]
    rw [e1, e2, wu32 (by omega) (by omega), e3, e4, dT (show (i : Int) < 8 by omega), w64 (by omega) (by omega)]
    unfold half
    by_cases h : n % 2 = 1
    · rw [if_pos h, dT (by omega)]; rfl
    · rw [if_neg h, dF (by omega)]; rfl
  · rintro o rfl; rfl

theorem through_eq {l : List Nat} {s : Nat} (hl : bytesP l) (hs : s < 4294967296) (hb : l.length ≤ 140737488355332) : crc_through_s0 (up l) s = some ((onN s l : Nat) : Int) := by
  unfold crc_through_s0
  rw [loop_fold l (fun pre => (((up pre).length : Int), ((onN s pre : Nat) : Int))) ((onN s l : Nat) : Int)]
  · rfl
  · intro pre x suf h
    have hx := hl x (by rw [h]; simp)
    have hp : bytesP pre := fun y hy => hl y (by rw [h]; simp [hy])
    have hu : up l = up pre ++ (x : Int) :: up suf := by rw [h, up_append, up_cons]
    have hl' : (up pre ++ (x : Int) :: up suf).length ≤ 4611686018427387904 := by rw [← hu, up_len]; omega
    have e1 : up (pre ++ [x]) = up pre ++ [(x : Int)] := by rw [up_append]; rfl
    simp only
    rw [hu, lt_mid, inR_mid, nth_mid, w_mid hl', e1, onN_append]
    unfold crc_On_1_s0
    rw [step_eq (onN_lt hs hp) hx]
    rfl
  · simp only; rw [lt_end]; rfl
  · omega

theorem on_eq {l : List Nat} {s : Nat} (hl : bytesP l) (hs : s < 4294967296) (hb : l.length ≤ 140737488355332) : crc_On s (up l) = some ((4294967295 ^^^ onN (4294967295 ^^^ s) l : Nat) : Int) := by
  unfold crc_On
  have e0 : bits .xor .u32 4294967295 (s : Int) = ((4294967295 ^^^ s : Nat) : Int) := u32_xor_nat 4294967295 s (by decide) hs
  have h1 : 4294967295 ^^^ s < 4294967296 := x32 (by decide) hs
  rw [e0, through_eq hl h1 hb]
  simp only [Option.bind_some]
  have e1 : bits .xor .u32 4294967295 ((onN (4294967295 ^^^ s) l : Nat) : Int) = ((4294967295 ^^^ onN (4294967295 ^^^ s) l : Nat) : Int) := u32_xor_nat 4294967295 _ (by decide) (onN_lt h1 hl)
  rw [e1]
theorem of_eq {l : List Nat} (hl : bytesP l) (hb : l.length ≤ 140737488355332) : crc_Of (up l) = some ((crcN l : Nat) : Int) := by
  unfold crc_Of
  have := on_eq (s := 0) hl (by decide) hb
  rw [show ((0 : Nat) : Int) = 0 from rfl] at this
  rw [this]; rfl

theorem ron_eq {l : List Nat} {s : Nat} (hl : bytesP l) (hs : s < 4294967296) (hb : l.length ≤ 4294967296) : exergueref08_On s (up l) = some ((4294967295 ^^^ onN (4294967295 ^^^ s) l : Nat) : Int) := by
  unfold exergueref08_On
  have h1 : 4294967295 ^^^ s < 4294967296 := x32 (by decide) hs
  have h2 := onN_lt h1 hl
  have e0 : IntKind.wrap .u32 (4294967295 - (s : Int)) = ((4294967295 ^^^ s : Nat) : Int) := by rw [wu32 (by omega) (by omega), compl hs]; omega
  rw [e0]
  rw [loop_fold l (fun pre => (((onN (4294967295 ^^^ s) pre : Nat) : Int), ((up pre).length : Int))) ((onN (4294967295 ^^^ s) l : Nat) : Int)]
  · simp only [Option.bind_some]
    rw [wu32 (by omega) (by omega), compl h2]; congr 1; omega
  · rfl
  · intro pre x suf h
    have hx := hl x (by rw [h]; simp)
    have hp : bytesP pre := fun y hy => hl y (by rw [h]; simp [hy])
    have hu : up l = up pre ++ (x : Int) :: up suf := by rw [h, up_append, up_cons]
    have hl' : (up pre ++ (x : Int) :: up suf).length ≤ 4611686018427387904 := by rw [← hu, up_len]; omega
    have e1 : up (pre ++ [x]) = up pre ++ [(x : Int)] := by rw [up_append]; rfl
    simp only
    rw [hu, lt_mid, inR_mid, nth_mid, w_mid hl', e1, onN_append, rstep_eq (onN_lt h1 hp) hx]
    rfl
  · simp only; rw [lt_end]; rfl
  · omega
theorem rof_eq {l : List Nat} (hl : bytesP l) (hb : l.length ≤ 4294967296) : exergueref08_Of (up l) = some ((crcN l : Nat) : Int) := by
  unfold exergueref08_Of
  have := ron_eq (s := 0) hl (by decide) hb
  rw [show ((0 : Nat) : Int) = 0 from rfl] at this
  rw [this]; rfl

theorem u8m (n : Int) : IntKind.u8.wrap n = n % 256 := by
  unfold IntKind.wrap
  simp only [IntKind.signed, IntKind.bits, Bool.false_and, Bool.false_eq_true, if_false]
  rfl
def tailN (y : Nat) : List Nat := [y % 256, y / 256 % 256, y / 65536 % 256, y / 16777216 % 256]
theorem tailN_word {y : Nat} (h : y < 4294967296) : word (y % 256) (y / 256 % 256) (y / 65536 % 256) (y / 16777216 % 256) = y := by unfold word; omega
theorem tail_eq {l : List Nat} (hl : bytesP l) (hb : l.length ≤ 140737488355332) : crc_tail (up l) = some ⟨((crcN l % 256 : Nat) : Int), ((crcN l / 256 % 256 : Nat) : Int), ((crcN l / 65536 % 256 : Nat) : Int), ((crcN l / 16777216 % 256 : Nat) : Int)⟩ := by
  unfold crc_tail
  rw [of_eq hl hb]
  simp only [Option.bind_some]
  generalize crcN l = y
  have f : ∀ k : Nat, Int.fdiv (y : Int) (k : Int) = ((y / k : Nat) : Int) := fun k => by rw [Int.fdiv_eq_ediv_of_nonneg _ (by omega)]; rfl
  have f1 : Int.fdiv (y : Int) 256 = ((y / 256 : Nat) : Int) := f 256
  have f2 : Int.fdiv (y : Int) 65536 = ((y / 65536 : Nat) : Int) := f 65536
  have f3 : Int.fdiv (y : Int) 16777216 = ((y / 16777216 : Nat) : Int) := f 16777216
  rw [f1, f2, f3, u8m, u8m, u8m, u8m]
  rfl
theorem clone_eq {xs : List Int} (hl : xs.length ≤ 140737488355332) : slices_Clone xs = some xs := by
  unfold slices_Clone; exact clone_idB (by omega)
theorem put_eq {l : List Nat} (hl : bytesP l) (hb : l.length ≤ 140737488355328) : crc_Put (up l) = some (up (l ++ tailN (crcN l))) := by
  unfold crc_Put
  rw [tail_eq hl (by omega)]
  simp only [Option.bind_some]
  rw [clone_eq (by rw [up_len]; omega)]
  simp only [Option.bind_some]
  rw [roomB_of (by rw [up_len]; simp; omega), up_append]
  rfl
theorem rput_eq {l : List Nat} (hl : bytesP l) (hb : l.length ≤ 4294967290) : exergueref08_Put (up l) = some (up (l ++ tailN (crcN l))) := by
  unfold exergueref08_Put
  have hy := crcN_lt hl
  rw [rof_eq hl (by omega)]
  simp only [Option.bind_some]
  generalize crcN l = y at hy
  have d : ∀ k : Nat, Int.tdiv (y : Int) (k : Int) = ((y / k : Nat) : Int) := fun k => by rw [Int.tdiv_eq_ediv_of_nonneg (by omega)]; rfl
  have d1 : Int.tdiv (y : Int) 256 = ((y / 256 : Nat) : Int) := d 256
  have d2 : Int.tdiv (y : Int) 65536 = ((y / 65536 : Nat) : Int) := d 65536
  have d3 : Int.tdiv (y : Int) 16777216 = ((y / 16777216 : Nat) : Int) := d 16777216
  have m : ∀ z : Nat, Int.tmod (z : Int) 256 = ((z % 256 : Nat) : Int) := fun z => by rw [Int.tmod_eq_emod_of_nonneg (by omega)]; rfl
  rw [d1, d2, d3, wu32 (by omega) (by omega), wu32 (by omega) (by omega), wu32 (by omega) (by omega), m, m, m, w8 (by omega) (by omega), w8 (by omega) (by omega), w8 (by omega) (by omega), w8 (by omega) (by omega),
    room_of (by rw [up_len]; omega), room_of (by rw [up_len]; simp; omega), up_append]
  have e3 : y / 16777216 = y / 16777216 % 256 := by omega
  rw [e3]
  rfl

theorem cut_short {l : List Nat} (h : l.length < 4) : crc_Cut (up l) = some ([], 2) := by
  unfold crc_Cut
  rw [up_len, w64 (by omega) (by omega), dT (by omega)]; rfl
theorem rcut_short {l : List Nat} (h : l.length < 4) : exergueref08_Cut (up l) = some ([], 2) := by
  unfold exergueref08_Cut
  rw [up_len, w64 (by omega) (by omega), dT (by omega)]; rfl
theorem cut_pre {xs ys : List Int} : cut (xs ++ ys) 0 (xs.length : Int) = xs := by simp [cut]
theorem cut_suf {xs ys : List Int} {n : Int} (h : n = (xs ++ ys).length) : cut (xs ++ ys) (xs.length : Int) n = ys := by subst h; unfold cut; rw [Int.toNat_natCast, Int.toNat_natCast, List.take_length]; simp
theorem tailN_eq {a b c d y : Nat} (ha : a < 256) (hb : b < 256) (hc : c < 256) (hd : d < 256) (hy : y < 4294967296) :
    word a b c d = y ↔ (a = y % 256 ∧ b = y / 256 % 256 ∧ c = y / 65536 % 256 ∧ d = y / 16777216 % 256) := by unfold word; omega
theorem cut_eq {m : List Nat} {a b c d : Nat} (hl : bytesP (m ++ [a, b, c, d])) (hb : m.length ≤ 4294967290) : crc_Cut (up (m ++ [a, b, c, d])) = some (if word a b c d = crcN m then (up m, 0) else ([], 6)) := by
  unfold crc_Cut
  have hm : bytesP m := fun x hx => hl x (by simp [hx])
  have ha := hl a (by simp)
  have hb' := hl b (by simp)
  have hc := hl c (by simp)
  have hd := hl d (by simp)
  have hy := crcN_lt hm
  have e0 : IntKind.wrap .i64 (((up (m ++ [a, b, c, d])).length : Int) - 4) = ((up m).length : Int) := by
    rw [up_len, up_len]
    simp
    exact w64 (by omega) (by omega)
  have hu : up (m ++ [a, b, c, d]) = up m ++ [(a : Int), (b : Int), (c : Int), (d : Int)] := up_append _ _
  rw [e0, dF (by omega), hu, cut_pre, cut_suf rfl, tail_eq hm (by omega), clone_eq (by rw [up_len]; omega)]
  have i1 : inS ((up m).length : Int) ((up m ++ [(a : Int), (b : Int), (c : Int), (d : Int)]).length : Int) (up m ++ [(a : Int), (b : Int), (c : Int), (d : Int)]).length = true := inS_of (by omega) (by simp <;> omega) (by omega)
  have i2 : inS 0 ((up m).length : Int) (up m ++ [(a : Int), (b : Int), (c : Int), (d : Int)]).length = true := inS_of (by omega) (by omega) (by simp <;> omega)
  rw [i1, i2]
  have n0 : nth [(a : Int), (b : Int), (c : Int), (d : Int)] 0 = a := rfl
  have n1 : nth [(a : Int), (b : Int), (c : Int), (d : Int)] 1 = b := rfl
  have n2 : nth [(a : Int), (b : Int), (c : Int), (d : Int)] 2 = c := rfl
  have n3 : nth [(a : Int), (b : Int), (c : Int), (d : Int)] 3 = d := rfl
  rw [n0, n1, n2, n3]
  have ht := tailN_eq ha hb' hc hd hy
  generalize crcN m = y at *
  have hb4 : Nat.ble 4 [(a : Int), (b : Int), (c : Int), (d : Int)].length = true := rfl
  simp only [cond_true, cond_false, Option.bind_some, hb4]
  by_cases h : word a b c d = y
  · obtain ⟨g1, g2, g3, g4⟩ := ht.1 h
    rw [if_pos h, dT (by omega), dT (by omega), dT (by omega), dT (by omega)]; rfl
  · rw [if_neg h]
    have hn : ¬ (a = y % 256 ∧ b = y / 256 % 256 ∧ c = y / 65536 % 256 ∧ d = y / 16777216 % 256) := fun g => h (ht.2 g)
    have : ((decide ((a : Int) = ((y % 256 : Nat) : Int))) && ((decide ((b : Int) = ((y / 256 % 256 : Nat) : Int))) && ((decide ((c : Int) = ((y / 65536 % 256 : Nat) : Int))) && ((decide ((d : Int) = ((y / 16777216 % 256 : Nat) : Int))) && true)))) = false := by
      rw [Bool.eq_false_iff]
      intro hx
      simp only [Bool.and_eq_true, decide_eq_true_eq, Bool.and_true] at hx
      exact hn (by omega)
    rw [this]; rfl
theorem sel6 (W Y : Nat) (z : List Int) : (bif false then some ([], 2) else bif true then bif true then bif true then bif true then bif true then
    (Option.bind (some (Y : Int)) fun y9 => bif decide (¬ (W : Int) = y9) then some ([], 6) else bif true then some (z, 0) else none) else none else none else none else none else none : Option (List Int × Int)) = some (if W = Y then (z, 0) else ([], 6)) := by
  by_cases h : W = Y
  · subst h; simp
  · have : ¬ (W : Int) = (Y : Int) := fun g => h (Int.ofNat_inj.1 g)
    simp [h, this]
theorem cut_ok {m : List Nat} {a b c d : Nat} (hl : bytesP (m ++ [a, b, c, d])) (hb : m.length ≤ 4294967290) (h : word a b c d = crcN m) : crc_Cut (up (m ++ [a, b, c, d])) = some (up m, 0) := (cut_eq hl hb).trans (congrArg some (if_pos h))
theorem cut_no {m : List Nat} {a b c d : Nat} (hl : bytesP (m ++ [a, b, c, d])) (hb : m.length ≤ 4294967290) (h : ¬ word a b c d = crcN m) : crc_Cut (up (m ++ [a, b, c, d])) = some ([], 6) := (cut_eq hl hb).trans (congrArg some (if_neg h))
theorem rcut_eq {m : List Nat} {a b c d : Nat} (hl : bytesP (m ++ [a, b, c, d])) (hb : m.length ≤ 4294967290) : exergueref08_Cut (up (m ++ [a, b, c, d])) = some (if word a b c d = crcN m then (up m, 0) else ([], 6)) := by
  unfold exergueref08_Cut
  have hm : bytesP m := fun x hx => hl x (by simp [hx])
  have ha := hl a (by simp)
  have hb' := hl b (by simp)
  have hc := hl c (by simp)
  have hd := hl d (by simp)
  have hy := crcN_lt hm
  have e0 : IntKind.wrap .i64 (((up (m ++ [a, b, c, d])).length : Int) - 4) = ((up m).length : Int) := by
    rw [up_len, up_len]
    simp
    exact w64 (by omega) (by omega)
  have hu : up (m ++ [a, b, c, d]) = up m ++ [(a : Int), (b : Int), (c : Int), (d : Int)] := up_append _ _
  have hul := up_len m
  rw [e0, dF (by omega), hu, cut_pre, rof_eq hm (by omega), w64 (n := ((up m).length : Int) + 1) (by omega) (by omega), w64 (n := ((up m).length : Int) + 2) (by omega) (by omega), w64 (n := ((up m).length : Int) + 3) (by omega) (by omega)]
  have i2 : inS 0 ((up m).length : Int) (up m ++ [(a : Int), (b : Int), (c : Int), (d : Int)]).length = true := inS_of (by omega) (by omega) (by simp <;> omega)
  have k0 : inR ((up m).length : Int) (up m ++ [(a : Int), (b : Int), (c : Int), (d : Int)]).length = true := inR_int (by omega) (by simp <;> omega)
  have k1 : inR (((up m).length : Int) + 1) (up m ++ [(a : Int), (b : Int), (c : Int), (d : Int)]).length = true := inR_int (by omega) (by simp <;> omega)
  have k2 : inR (((up m).length : Int) + 2) (up m ++ [(a : Int), (b : Int), (c : Int), (d : Int)]).length = true := inR_int (by omega) (by simp <;> omega)
  have k3 : inR (((up m).length : Int) + 3) (up m ++ [(a : Int), (b : Int), (c : Int), (d : Int)]).length = true := inR_int (by omega) (by simp <;> omega)
  have n0 : nth (up m ++ [(a : Int), (b : Int), (c : Int), (d : Int)]) ((up m).length : Int) = a := nth_mid
  have n1 : nth (up m ++ [(a : Int), (b : Int), (c : Int), (d : Int)]) (((up m).length : Int) + 1) = b := by
    have := nth_mid (pre := up m ++ [(a : Int)]) (x := (b : Int)) (suf := [(c : Int), (d : Int)]); simpa using this
  have n2 : nth (up m ++ [(a : Int), (b : Int), (c : Int), (d : Int)]) (((up m).length : Int) + 2) = c := by
    have := nth_mid (pre := up m ++ [(a : Int), (b : Int)]) (x := (c : Int)) (suf := [(d : Int)]); simpa using this
  have n3 : nth (up m ++ [(a : Int), (b : Int), (c : Int), (d : Int)]) (((up m).length : Int) + 3) = d := by
    have := nth_mid (pre := up m ++ [(a : Int), (b : Int), (c : Int)]) (x := (d : Int)) (suf := []); simpa using this
  rw [i2, k0, k1, k2, k3, n0, n1, n2, n3]
  rw [wu32 (n := (a : Int)) (by omega) (by omega), wu32 (n := (b : Int)) (by omega) (by omega), wu32 (n := (c : Int)) (by omega) (by omega), wu32 (n := (d : Int)) (by omega) (by omega), wu32 (n := (b : Int) * 256) (by omega) (by omega), wu32 (n := (c : Int) * 65536) (by omega) (by omega), wu32 (n := (d : Int) * 16777216) (by omega) (by omega),
    wu32 (n := (a : Int) + b * 256) (by omega) (by omega), wu32 (n := (a : Int) + b * 256 + c * 65536) (by omega) (by omega), wu32 (n := (a : Int) + b * 256 + c * 65536 + d * 16777216) (by omega) (by omega)]
  have hz : (a : Int) + b * 256 + c * 65536 + d * 16777216 = ((word a b c d : Nat) : Int) := by unfold word; omega
  rw [hz]
  generalize word a b c d = W
  generalize crcN m = Y
  exact sel6 W Y _
theorem split4 {l : List Nat} (h : 4 ≤ l.length) : ∃ m a b c d, l = m ++ [a, b, c, d] := by
  have h4 : (l.drop (l.length - 4)).length = 4 := by simp; omega
  obtain ⟨a, b, c, d, he⟩ := l4 h4
  exact ⟨l.take (l.length - 4), a, b, c, d, by rw [← he, List.take_append_drop]⟩
theorem rrow_eq {xs ys : List Int} (hb : xs.length ≤ 4611686018427387904) : exergueref01_Row xs ys = some (decide (xs = ys)) := by
  unfold exergueref01_Row; exact row_eq hb
theorem shown_eq : exerguelaw08_shown = some true := by kernel_rfl

end Go.Proofs.Ytlabcjijjeeobaa
