/- PLAIN MATHEMATICS OF CHAPTER 2 (no program): the sum CRC-32C as a shift register, a page's Oct, what a page says; a burst of at most 32 bits changes the sum. -/
namespace Go.Proofs.Ytfkkckadnookoaa.Seal

/-- One step of the register, on a number of any size. -/
def T (s : Nat) : Nat := s / 2 ^^^ s % 2 * 2197175160
def Tn : Nat → Nat → Nat
  | 0, s => s
  | n + 1, s => Tn n (T s)

theorem T_xor (a b : Nat) : T (a ^^^ b) = T a ^^^ T b := by
  unfold T
  have h2 : (a ^^^ b) % 2 = (a % 2) ^^^ (b % 2) := by
    have := Nat.xor_mod_two_pow (a := a) (b := b) (n := 1)
    simpa using this
  have h1 : (a ^^^ b) / 2 = (a / 2) ^^^ (b / 2) := Nat.xor_div_two
  rw [h1, h2]
  rcases Nat.mod_two_eq_zero_or_one a with ha | ha <;> rcases Nat.mod_two_eq_zero_or_one b with hb | hb <;> rw [ha, hb] <;> simp
  · rw [Nat.xor_assoc]
  · rw [Nat.xor_assoc, Nat.xor_assoc, Nat.xor_comm 2197175160]
  · rw [Nat.xor_assoc, ← Nat.xor_assoc 2197175160, Nat.xor_comm 2197175160, Nat.xor_assoc, Nat.xor_self, Nat.xor_zero]
theorem Tn_xor (n a b : Nat) : Tn n (a ^^^ b) = Tn n a ^^^ Tn n b := by
  induction n generalizing a b with
  | zero => rfl
  | succ n ih => simp only [Tn, T_xor, ih]
theorem Tn_add (m n s : Nat) : Tn (m + n) s = Tn n (Tn m s) := by
  induction m generalizing s with
  | zero => simp [Tn]
  | succ m ih => rw [Nat.succ_add]; simp only [Tn, ih]
theorem T_zero : T 0 = 0 := rfl
theorem Tn_zero (n : Nat) : Tn n 0 = 0 := by
  induction n with
  | zero => rfl
  | succ n ih => simp only [Tn, T_zero, ih]
theorem Tn_mul (k q : Nat) : Tn k (2 ^ k * q) = q := by
  induction k generalizing q with
  | zero => simp [Tn]
  | succ k ih =>
    have h : T (2 ^ (k + 1) * q) = 2 ^ k * q := by
      have e : 2 ^ (k + 1) * q = 2 * (2 ^ k * q) := by rw [Nat.pow_succ]; rw [Nat.mul_comm (2 ^ k) 2, Nat.mul_assoc]
      rw [e]; unfold T
      have a1 : 2 * (2 ^ k * q) / 2 = 2 ^ k * q := by omega
      have a2 : 2 * (2 ^ k * q) % 2 = 0 := by omega
      rw [a1, a2]; simp
    simp only [Tn, h, ih]
theorem T_lt (s : Nat) (h : s < 4294967296) : T s < 4294967296 := by
  unfold T
  refine Nat.xor_lt_two_pow (n := 32) (by omega) ?_
  have : s % 2 < 2 := Nat.mod_lt _ (by decide)
  omega
theorem Tn_lt (n s : Nat) (h : s < 4294967296) : Tn n s < 4294967296 := by
  induction n generalizing s with
  | zero => exact h
  | succ n ih => exact ih _ (T_lt _ h)
theorem xor_eq_zero {a b : Nat} (h : a ^^^ b = 0) : a = b := by
  have : a ^^^ b ^^^ b = 0 ^^^ b := by rw [h]
  simpa [Nat.xor_assoc] using this
theorem T_eq_zero (s : Nat) (h : s < 4294967296) (h0 : T s = 0) : s = 0 := by
  unfold T at h0
  have h1 := xor_eq_zero h0
  rcases Nat.mod_two_eq_zero_or_one s with hs | hs <;> rw [hs] at h1 <;> omega
theorem Tn_eq_zero (n s : Nat) (h : s < 4294967296) (h0 : Tn n s = 0) : s = 0 := by
  induction n generalizing s with
  | zero => exact h0
  | succ n ih => exact T_eq_zero s h (ih _ (T_lt _ h) h0)
theorem add_xor (k q r : Nat) (h : r < 2 ^ k) : 2 ^ k * q + r = r ^^^ 2 ^ k * q := by
  apply Nat.eq_of_testBit_eq
  intro j
  rw [Nat.testBit_two_pow_mul_add _ h, Nat.testBit_xor, Nat.testBit_two_pow_mul]
  by_cases hj : j < k
  · have hj' : ¬ k ≤ j := by omega
    simp [hj, hj']
  · have hj' : k ≤ j := by omega
    have : r.testBit j = false := Nat.testBit_lt_two_pow (Nat.lt_of_lt_of_le h (Nat.pow_le_pow_right (by decide) (by omega)))
    simp [hj, hj', this]
theorem split16 (s : Nat) : s = s % 16 ^^^ 2 ^ 4 * (s / 16) := by
  rw [← add_xor 4 (s / 16) (s % 16) (Nat.mod_lt _ (by decide))]; omega
theorem join256 (c r : Nat) (h : c < 256) : c + 256 * r = c ^^^ 2 ^ 8 * r := by
  rw [← add_xor 8 r c h]; omega

/-- The table of four steps. -/
def tab : List Nat := [0, 274646895, 549293790, 820201905, 1098587580, 1361435347, 1640403810, 1905808397, 2197175160, 2460548119, 2722870694, 2987750089, 3280807620, 3553878443, 3811616794, 4084100981]
def half (s : Nat) : Nat := s / 16 ^^^ tab.getD (s % 16) 0
theorem tab_eq (i : Nat) (h : i < 16) : tab.getD i 0 = Tn 4 i := by
  have : ∀ i : Fin 16, tab.getD i 0 = Tn 4 i := by decide +kernel
  exact this ⟨i, h⟩
theorem half_eq (s : Nat) : half s = Tn 4 s := by
  conv => rhs; rw [split16 s]
  rw [Tn_xor, Tn_mul, ← tab_eq _ (Nat.mod_lt _ (by decide)), Nat.xor_comm]; rfl
theorem tab_lt (i : Nat) (h : i < 16) : tab.getD i 0 < 4294967296 := by
  rw [tab_eq i h]; exact Tn_lt _ _ (by omega)
theorem half_lt (s : Nat) (h : s < 4294967296) : half s < 4294967296 := by rw [half_eq]; exact Tn_lt _ _ h
def stepB (s c : Nat) : Nat := half (half (s ^^^ c))
theorem stepB_eq (s c : Nat) : stepB s c = Tn 8 (s ^^^ c) := by unfold stepB; rw [half_eq, half_eq, ← Tn_add]
def Oct (l : List Nat) : Prop := ∀ c ∈ l, c < 256
def run (s : Nat) (l : List Nat) : Nat := l.foldl stepB s
def crc0 (l : List Nat) : Nat := run 4294967295 l
def crc (l : List Nat) : Nat := 4294967295 ^^^ crc0 l
def num : List Nat → Nat
  | [] => 0
  | c :: r => c + 256 * num r
theorem run_eq (s : Nat) (l : List Nat) (h : Oct l) : run s l = Tn (8 * l.length) (s ^^^ num l) := by
  induction l generalizing s with
  | nil => simp [run, Tn, num]
  | cons c r ih =>
    have hc : c < 256 := h c (by simp)
    have hr : Oct r := fun x hx => h x (by simp [hx])
    show run (stepB s c) r = _
    rw [ih _ hr, stepB_eq, List.length_cons, Nat.mul_succ, Nat.add_comm, Tn_add]
    congr 1
    show _ = Tn 8 (s ^^^ (c + 256 * num r))
    rw [join256 c _ hc, ← Nat.xor_assoc, Tn_xor _ (s ^^^ c), Tn_mul]
theorem num_lt (l : List Nat) (h : Oct l) : num l < 256 ^ l.length := by
  induction l with
  | nil => simp [num]
  | cons c r ih =>
    have hc : c < 256 := h c (by simp)
    have := ih (fun x hx => h x (by simp [hx]))
    simp only [num, List.length_cons, Nat.pow_succ]
    omega
theorem num_lt32 (l : List Nat) (h : Oct l) (hl : l.length ≤ 4) : num l < 4294967296 := by
  have := num_lt l h
  have h2 : 256 ^ l.length ≤ 256 ^ 4 := Nat.pow_le_pow_right (by decide) hl
  omega
theorem run_lt (s : Nat) (l : List Nat) (hs : s < 4294967296) (h : Oct l) : run s l < 4294967296 := by
  unfold run
  induction l generalizing s with
  | nil => exact hs
  | cons c r ih =>
    have hc : c < 256 := h c (by simp)
    exact ih _ (half_lt _ (half_lt _ (Nat.xor_lt_two_pow (n := 32) hs (by omega)))) (fun x hx => h x (by simp [hx]))
theorem crc0_lt (l : List Nat) (h : Oct l) : crc0 l < 4294967296 := run_lt _ _ (by decide) h
theorem crc_lt (l : List Nat) (h : Oct l) : crc l < 4294967296 := Nat.xor_lt_two_pow (n := 32) (by decide) (crc0_lt l h)
theorem run_snoc (s : Nat) (l : List Nat) (c : Nat) : run s (l ++ [c]) = stepB (run s l) c := by simp [run]

/-- A number's Oct, the lowest first. -/
def le : Nat → Nat → List Nat
  | _, 0 => []
  | x, n + 1 => x % 256 :: le (x / 256) n
theorem length_le (x n : Nat) : (le x n).length = n := by
  induction n generalizing x with
  | zero => rfl
  | succ n ih => simp [le, ih]
theorem oct_le (x n : Nat) : Oct (le x n) := by
  induction n generalizing x with
  | zero => intro c hc; simp [le] at hc
  | succ n ih => intro c hc; rcases List.mem_cons.1 hc with rfl | hc
                 · exact Nat.mod_lt _ (by decide)
                 · exact ih _ c hc
theorem num_le (x n : Nat) : num (le x n) = x % 256 ^ n := by
  induction n generalizing x with
  | zero => simp [le, num, Nat.mod_one]
  | succ n ih => rw [le, num, ih, Nat.pow_succ, Nat.mul_comm (256 ^ n), Nat.mod_mul]
theorem le_num (l : List Nat) (h : Oct l) : le (num l) l.length = l := by
  induction l with
  | nil => rfl
  | cons c r ih =>
    have hc : c < 256 := h c (by simp)
    simp only [num, List.length_cons, le]
    have e1 : (c + 256 * num r) % 256 = c := by omega
    have e2 : (c + 256 * num r) / 256 = num r := by omega
    rw [e1, e2, ih (fun x hx => h x (by simp [hx]))]

theorem oct_append {a b : List Nat} (ha : Oct a) (hb : Oct b) : Oct (a ++ b) := by
  intro c hc; rcases List.mem_append.1 hc with h | h; exact ha c h; exact hb c h
theorem oct_replicate (n c : Nat) (h : c < 256) : Oct (List.replicate n c) := by
  intro x hx; rw [(List.mem_replicate.1 hx).2]; exact h
theorem oct_take {l : List Nat} (n : Nat) (h : Oct l) : Oct (l.take n) := fun c hc => h c (List.mem_of_mem_take hc)
theorem oct_drop {l : List Nat} (n : Nat) (h : Oct l) : Oct (l.drop n) := fun c hc => h c (List.mem_of_mem_drop hc)

def pageOk (p : Nat) : Bool := p == 64 || p == 128 || p == 256 || p == 512 || p == 1024 || p == 2048 || p == 4096
theorem pageOk_cases {p : Nat} (h : pageOk p = true) : p = 64 ∨ p = 128 ∨ p = 256 ∨ p = 512 ∨ p = 1024 ∨ p = 2048 ∨ p = 4096 := by
  simpa [pageOk, or_assoc] using h
theorem pageOk_bounds {p : Nat} (h : pageOk p = true) : 64 ≤ p ∧ p ≤ 4096 := by have := pageOk_cases h; omega

def body (page next : Nat) (data : List Nat) : List Nat := le next 4 ++ (le data.length 2 ++ (data ++ List.replicate (page - 10 - data.length) 0))
/-- A page: 'next' is the next's number and 1. -/
def closeB (page next : Nat) (data : List Nat) : List Nat := body page next data ++ le (crc (body page next data)) 4
def openB (l : List Nat) : Int × List Nat × Int :=
  if pageOk l.length = true then
    if num (l.drop (l.length - 4)) = crc (l.take (l.length - 4)) then
      if num (l.take 4) ≤ 16384 ∧ num ((l.drop 4).take 2) ≤ l.length - 10 then ((num (l.take 4) : Int) - 1, (l.drop 6).take (num ((l.drop 4).take 2)), 0)
      else (0, [], 4)
    else (0, [], 18)
  else (0, [], 1)
theorem length_body (page next : Nat) (data : List Nat) (h : data.length + 10 ≤ page) : (body page next data).length = page - 4 := by
  simp [body, length_le]; omega
theorem length_closeB (page next : Nat) (data : List Nat) (h : data.length + 10 ≤ page) : (closeB page next data).length = page := by
  simp [closeB, length_body _ _ _ h, length_le]; omega
theorem oct_body (page next : Nat) (data : List Nat) (h : Oct data) : Oct (body page next data) :=
  oct_append (oct_le _ _) (oct_append (oct_le _ _) (oct_append h (oct_replicate _ _ (by decide))))
theorem oct_closeB (page next : Nat) (data : List Nat) (h : Oct data) : Oct (closeB page next data) := oct_append (oct_body _ _ _ h) (oct_le _ _)
theorem open_close (page next : Nat) (data : List Nat) (hp : pageOk page = true) (hn : next ≤ 16384) (hd : data.length + 10 ≤ page) (hb : Oct data) :
    openB (closeB page next data) = ((next : Int) - 1, data, 0) := by
  have hpb := pageOk_bounds hp
  have hl := length_closeB page next data hd
  have hlb := length_body page next data hd
  have hbb := oct_body page next data hb
  have e1 : (closeB page next data).drop (page - 4) = le (crc (body page next data)) 4 := by
    unfold closeB; rw [← hlb, List.drop_left]
  have e2 : (closeB page next data).take (page - 4) = body page next data := by
    unfold closeB; rw [← hlb, List.take_left]
  have e3 : (closeB page next data).take 4 = le next 4 := by
    unfold closeB body; rw [List.append_assoc]; exact List.take_left' (length_le _ _)
  have e4 : (closeB page next data).drop 4 = le data.length 2 ++ (data ++ List.replicate (page - 10 - data.length) 0) ++ le (crc (body page next data)) 4 := by
    conv => lhs; unfold closeB; rw [body]
    rw [List.append_assoc]; exact List.drop_left' (length_le _ _)
  have e5 : ((closeB page next data).drop 4).take 2 = le data.length 2 := by
    rw [e4, List.append_assoc]; exact List.take_left' (length_le _ _)
  have e6 : (closeB page next data).drop 6 = data ++ List.replicate (page - 10 - data.length) 0 ++ le (crc (body page next data)) 4 := by
    have : (closeB page next data).drop 6 = ((closeB page next data).drop 4).drop 2 := by rw [List.drop_drop]
    rw [this, e4, List.append_assoc]; exact List.drop_left' (length_le _ _)
  have n1 : num (le (crc (body page next data)) 4) = crc (body page next data) := by
    rw [num_le]; exact Nat.mod_eq_of_lt (crc_lt _ hbb)
  have n2 : num (le next 4) = next := by rw [num_le]; exact Nat.mod_eq_of_lt (by omega)
  have n3 : num (le data.length 2) = data.length := by rw [num_le]; exact Nat.mod_eq_of_lt (by omega)
  unfold openB
  rw [hl, if_pos hp, e1, e2, n1, if_pos rfl, e3, e5, n2, n3, if_pos ⟨hn, by omega⟩, e6, List.append_assoc, List.take_left]

/-! ### Exclusive or of two lists of one length -/
def xorL : List Nat → List Nat → List Nat
  | a :: r, b :: q => (a ^^^ b) :: xorL r q
  | _, _ => []
theorem length_xorL (a b : List Nat) (h : a.length = b.length) : (xorL a b).length = a.length := by
  induction a generalizing b with
  | nil => cases b <;> rfl
  | cons x r ih => cases b with
    | nil => simp at h
    | cons y q => simp [xorL, ih q (by simpa using h)]
theorem oct_xorL (a b : List Nat) (ha : Oct a) (hb : Oct b) : Oct (xorL a b) := by
  induction a generalizing b with
  | nil => cases b <;> (intro c hc; simp [xorL] at hc)
  | cons x r ih => cases b with
    | nil => intro c hc; simp [xorL] at hc
    | cons y q =>
      intro c hc
      rcases List.mem_cons.1 hc with rfl | hc
      · exact Nat.xor_lt_two_pow (n := 8) (ha x (by simp)) (hb y (by simp))
      · exact ih q (fun z hz => ha z (by simp [hz])) (fun z hz => hb z (by simp [hz])) c hc
theorem mix256 (a b x y : Nat) (ha : a < 256) (hb : b < 256) : (a ^^^ b) + 256 * (x ^^^ y) = (a + 256 * x) ^^^ (b + 256 * y) := by
  have e : 2 ^ 8 * (x ^^^ y) = 2 ^ 8 * x ^^^ 2 ^ 8 * y := by
    apply Nat.eq_of_testBit_eq
    intro j
    rw [Nat.testBit_xor, Nat.testBit_two_pow_mul, Nat.testBit_two_pow_mul, Nat.testBit_two_pow_mul, Nat.testBit_xor]
    by_cases h : 8 ≤ j <;> simp [h]
  rw [join256 a x ha, join256 b y hb, join256 _ _ (Nat.xor_lt_two_pow (n := 8) ha hb), e]
  rw [Nat.xor_assoc, ← Nat.xor_assoc b, Nat.xor_comm b, Nat.xor_assoc (2 ^ 8 * x), ← Nat.xor_assoc a]
theorem num_xorL (a b : List Nat) (h : a.length = b.length) (ha : Oct a) (hb : Oct b) : num (xorL a b) = num a ^^^ num b := by
  induction a generalizing b with
  | nil => cases b with
    | nil => rfl
    | cons y q => simp at h
  | cons x r ih => cases b with
    | nil => simp at h
    | cons y q =>
      simp only [xorL, num]
      rw [ih q (by simpa using h) (fun z hz => ha z (by simp [hz])) (fun z hz => hb z (by simp [hz])), mix256 _ _ _ _ (ha x (by simp)) (hb y (by simp))]
theorem run_xorL (s t : Nat) (a b : List Nat) (h : a.length = b.length) (ha : Oct a) (hb : Oct b) : run (s ^^^ t) (xorL a b) = run s a ^^^ run t b := by
  rw [run_eq _ _ (oct_xorL a b ha hb), run_eq _ _ ha, run_eq _ _ hb, length_xorL a b h, num_xorL a b h ha hb, ← h, ← Tn_xor]
  congr 1
  rw [Nat.xor_assoc, ← Nat.xor_assoc t, Nat.xor_comm t, Nat.xor_assoc (num a), ← Nat.xor_assoc s]
theorem num_zeros (n : Nat) : num (List.replicate n 0) = 0 := by
  induction n with
  | zero => rfl
  | succ n ih => simp [List.replicate_succ, num, ih]
/-- What 'SealSums' says. -/
theorem sums (a b : List Nat) (h : a.length = b.length) (ha : Oct a) (hb : Oct b) : crc a ^^^ crc b = crc (xorL a b) ^^^ crc (List.replicate a.length 0) := by
  have h0 : Oct (List.replicate a.length 0) := oct_replicate _ _ (by decide)
  have hx := oct_xorL a b ha hb
  have hl := length_xorL a b h
  unfold crc crc0
  rw [run_eq _ _ ha, run_eq _ _ hb, run_eq _ _ hx, run_eq _ _ h0, num_xorL a b h ha hb, num_zeros, hl, List.length_replicate, ← h, Tn_xor, Tn_xor, Tn_xor, Tn_xor, Tn_xor, Tn_zero]
  generalize Tn (8 * a.length) 4294967295 = m
  generalize Tn (8 * a.length) (num a) = x
  generalize Tn (8 * a.length) (num b) = y
  generalize (4294967295 : Nat) = k
  apply Nat.eq_of_testBit_eq
  intro j
  simp only [Nat.testBit_xor, Nat.xor_zero]
  cases k.testBit j <;> cases m.testBit j <;> cases x.testBit j <;> cases y.testBit j <;> rfl

/-! ### A burst -/
theorem num_append (a b : List Nat) : num (a ++ b) = num a + 256 ^ a.length * num b := by
  induction a with
  | nil => simp [num]
  | cons x r ih => simp only [List.cons_append, num, ih, List.length_cons, Nat.pow_succ, Nat.mul_comm (256 ^ r.length), Nat.mul_add, Nat.mul_assoc, Nat.add_assoc]
/-- A page that is turned by 'v' (below 2^32, not 0) from bit 'from' on is told: 'p' as it was, 'q' as it is. -/
theorem told (p q : List Nat) (hl : p.length = q.length) (hp : Oct p) (hq : Oct q) (h4 : 4 ≤ p.length) (v at_ : Nat) (hv : v < 4294967296) (h0 : v ≠ 0) (hat : at_ + 32 ≤ 8 * p.length)
    (hx : num p ^^^ num q = 2 ^ at_ * v) (hs : num (p.drop (p.length - 4)) = crc (p.take (p.length - 4))) : num (q.drop (q.length - 4)) ≠ crc (q.take (q.length - 4)) := by
  intro hc
  have e : xorL p q = xorL (p.take (p.length - 4)) (q.take (p.length - 4)) ++ xorL (p.drop (p.length - 4)) (q.drop (p.length - 4)) := by
    generalize p.length - 4 = n
    clear hs hc hx hat h4 hp hq
    induction p generalizing q n with
    | nil => cases q with
      | nil => simp [xorL]
      | cons y r => simp at hl
    | cons x r ih => cases q with
      | nil => simp at hl
      | cons y s => cases n with
        | zero => simp [xorL]
        | succ n => simp [xorL]; exact ih s (by simpa using hl) n
  rw [← hl] at hc
  have hpt : Oct (p.take (p.length - 4)) := oct_take _ hp
  have hqt : Oct (q.take (p.length - 4)) := oct_take _ hq
  have hpd : Oct (p.drop (p.length - 4)) := oct_drop _ hp
  have hqd : Oct (q.drop (p.length - 4)) := oct_drop _ hq
  have r0 := run_eq 0 (xorL p q) (oct_xorL p q hp hq)
  rw [num_xorL p q hl hp hq, hx, Nat.zero_xor, length_xorL p q hl] at r0
  have r1 : run 0 (xorL p q) = 0 := by
    have ea : run 0 (xorL (p.take (p.length - 4)) (q.take (p.length - 4))) = crc0 (p.take (p.length - 4)) ^^^ crc0 (q.take (p.length - 4)) := by
      have := run_xorL 4294967295 4294967295 (p.take (p.length - 4)) (q.take (p.length - 4)) (by simp; omega) hpt hqt
      rw [Nat.xor_self] at this
      exact this
    have eb : crc0 (p.take (p.length - 4)) ^^^ crc0 (q.take (p.length - 4)) = num (p.drop (p.length - 4)) ^^^ num (q.drop (p.length - 4)) := by
      rw [hs, hc]; unfold crc
      generalize crc0 (p.take (p.length - 4)) = x
      generalize crc0 (q.take (p.length - 4)) = y
      generalize (4294967295 : Nat) = k
      apply Nat.eq_of_testBit_eq
      intro j
      simp only [Nat.testBit_xor]
      cases k.testBit j <;> cases x.testBit j <;> cases y.testBit j <;> rfl
    have ec : run 0 (xorL p q) = run (run 0 (xorL (p.take (p.length - 4)) (q.take (p.length - 4)))) (xorL (p.drop (p.length - 4)) (q.drop (p.length - 4))) := by
      rw [e]; unfold run; rw [List.foldl_append]
    rw [ec, ea, eb, run_eq _ _ (oct_xorL _ _ hpd hqd), num_xorL _ _ (by simp; omega) hpd hqd, Nat.xor_self, Tn_zero]
  rw [r1, show 8 * p.length = at_ + (8 * p.length - at_) by omega, Tn_add, Tn_mul] at r0
  exact h0 (Tn_eq_zero _ v hv r0.symm)
end Go.Proofs.Ytfkkckadnookoaa.Seal
