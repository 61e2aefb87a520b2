/- SHA-256 in plain numbers: words, the schedule of a block, rounds, blocks, what comes behind the last byte; two sums by the kernel. No program. -/
import Derived.Test.YtfemcofjhcanhaaDoorPoq
namespace Sh
open Pol

def rr (x n : Nat) : Nat := x / 2 ^ n + x * 2 ^ (32 - n) % 4294967296
theorem rr_or {x n : Nat} (hx : x < 4294967296) (h0 : 0 < n) (h1 : n < 32) : rr x n = (x * 2 ^ (32 - n) % 4294967296) ||| (x / 2 ^ n) := by
  have e1 : 4294967296 = 2 ^ n * 2 ^ (32 - n) := by rw [← Nat.pow_add, show n + (32 - n) = 32 by omega]
  have e2 : x * 2 ^ (32 - n) % 4294967296 = 2 ^ (32 - n) * (x % 2 ^ n) := by rw [e1, Nat.mul_mod_mul_right, Nat.mul_comm]
  have hb : x / 2 ^ n < 2 ^ (32 - n) := Nat.div_lt_of_lt_mul (by rw [← e1]; exact hx)
  unfold rr
  rw [e2, Nat.add_comm, Nat.two_pow_add_eq_or_of_lt hb]
theorem rr_lt {x n : Nat} (hx : x < 4294967296) (h0 : 0 < n) (h1 : n < 32) : rr x n < 4294967296 := by
  rw [rr_or hx h0 h1]
  exact Nat.or_lt_two_pow (n := 32) (Nat.mod_lt _ (by omega)) (Nat.lt_of_le_of_lt (Nat.div_le_self _ _) hx)
theorem xor_lt {a b : Nat} (ha : a < 4294967296) (hb : b < 4294967296) : a ^^^ b < 4294967296 := Nat.xor_lt_two_pow (n := 32) ha hb
theorem and_lt {a b : Nat} (ha : a < 4294967296) : a &&& b < 4294967296 := Nat.lt_of_le_of_lt Nat.and_le_left ha
theorem div_lt {x n : Nat} (hx : x < 4294967296) : x / n < 4294967296 := Nat.lt_of_le_of_lt (Nat.div_le_self _ _) hx

def s0 (x : Nat) : Nat := rr x 7 ^^^ rr x 18 ^^^ x / 8
def s1 (x : Nat) : Nat := rr x 17 ^^^ rr x 19 ^^^ x / 1024
def S0 (x : Nat) : Nat := rr x 2 ^^^ rr x 13 ^^^ rr x 22
def S1 (x : Nat) : Nat := rr x 6 ^^^ rr x 11 ^^^ rr x 25
def ch (e f g : Nat) : Nat := (e &&& f) ^^^ ((4294967295 - e) &&& g)
def mj (a b c : Nat) : Nat := (a &&& b) ^^^ (a &&& c) ^^^ (b &&& c)
theorem s0_lt {x : Nat} (h : x < 4294967296) : s0 x < 4294967296 := xor_lt (xor_lt (rr_lt h (by omega) (by omega)) (rr_lt h (by omega) (by omega))) (div_lt h)
theorem s1_lt {x : Nat} (h : x < 4294967296) : s1 x < 4294967296 := xor_lt (xor_lt (rr_lt h (by omega) (by omega)) (rr_lt h (by omega) (by omega))) (div_lt h)
theorem S0_lt {x : Nat} (h : x < 4294967296) : S0 x < 4294967296 := xor_lt (xor_lt (rr_lt h (by omega) (by omega)) (rr_lt h (by omega) (by omega))) (rr_lt h (by omega) (by omega))
theorem S1_lt {x : Nat} (h : x < 4294967296) : S1 x < 4294967296 := xor_lt (xor_lt (rr_lt h (by omega) (by omega)) (rr_lt h (by omega) (by omega))) (rr_lt h (by omega) (by omega))
theorem ch_lt {e f g : Nat} (h : e < 4294967296) : ch e f g < 4294967296 := xor_lt (and_lt h) (and_lt (by omega))
theorem mj_lt {a b c : Nat} (h : a < 4294967296) (h' : b < 4294967296) : mj a b c < 4294967296 := xor_lt (xor_lt (and_lt h) (and_lt h)) (and_lt h')

/-- The constants of the rounds. -/
def kk : List Nat := [1116352408, 1899447441, 3049323471, 3921009573, 961987163, 1508970993, 2453635748, 2870763221, 3624381080, 310598401, 607225278, 1426881987, 1925078388, 2162078206, 2614888103, 3248222580, 3835390401, 4022224774, 264347078, 604807628, 770255983, 1249150122, 1555081692, 1996064986, 2554220882, 2821834349, 2952996808, 3210313671, 3336571891, 3584528711, 113926993, 338241895, 666307205, 773529912, 1294757372, 1396182291, 1695183700, 1986661051, 2177026350, 2456956037, 2730485921, 2820302411, 3259730800, 3345764771, 3516065817, 3600352804, 4094571909, 275423344, 430227734, 506948616, 659060556, 883997877, 958139571, 1322822218, 1537002063, 1747873779, 1955562222, 2024104815, 2227730452, 2361852424, 2428436474, 2756734187, 3204031479, 3329325298]
theorem kk_len : kk.length = 64 := rfl
theorem kk_lt (t : Nat) : co kk t < 4294967296 := by
  by_cases h : t < 64
  · have : ∀ t, t < 64 → co kk t < 4294967296 := by decide +kernel
    exact this t h
  · rw [co_far (by rw [kk_len]; omega)]; omega

/-- The first j bytes from o on as a number, the highest first. -/
def be (m : Nat → Nat) (o : Nat) : Nat → Nat
  | 0 => 0
  | j + 1 => be m o j * 256 + m (o + j)
theorem be_lt {m : Nat → Nat} (hm : ∀ i, m i < 256) (o : Nat) : ∀ j, be m o j < 256 ^ j
  | 0 => by simp [be]
  | j + 1 => by
    have := be_lt hm o j
    have := hm (o + j)
    rw [be, Nat.pow_succ]; omega
theorem be_congr {m m' : Nat → Nat} {o : Nat} : ∀ {j}, (∀ i, i < j → m (o + i) = m' (o + i)) → be m o j = be m' o j
  | 0, _ => rfl
  | j + 1, h => by rw [be, be, be_congr (fun i hi => h i (by omega)), h j (by omega)]
/-- The next word behind the words L of a block. -/
def nx (m : Nat → Nat) (L : List Nat) : Nat :=
  if L.length < 16 then be m (4 * L.length) 4 else (s1 (co L (L.length - 2)) + co L (L.length - 7) + s0 (co L (L.length - 15)) + co L (L.length - 16)) % 4294967296
/-- The first t words of a block. -/
def sc (m : Nat → Nat) : Nat → List Nat
  | 0 => []
  | t + 1 => sc m t ++ [nx m (sc m t)]
theorem sc_len (m : Nat → Nat) : ∀ t, (sc m t).length = t
  | 0 => rfl
  | t + 1 => by rw [sc, List.length_append, sc_len m t]; rfl
theorem sc_lo (m : Nat → Nat) {t : Nat} (h : t < 16) : sc m (t + 1) = sc m t ++ [be m (4 * t) 4] := by rw [sc, nx, sc_len, if_pos h]
theorem sc_hi (m : Nat → Nat) {t : Nat} (h : 16 ≤ t) : sc m (t + 1) = sc m t ++ [(s1 (co (sc m t) (t - 2)) + co (sc m t) (t - 7) + s0 (co (sc m t) (t - 15)) + co (sc m t) (t - 16)) % 4294967296] := by rw [sc, nx, sc_len, if_neg (by omega)]
theorem nx_congr {m m' : Nat → Nat} (h : ∀ i, i < 64 → m i = m' i) (L : List Nat) : nx m L = nx m' L := by
  unfold nx
  by_cases h1 : L.length < 16
  · rw [if_pos h1, if_pos h1]; exact be_congr (fun i hi => h _ (by omega))
  · rw [if_neg h1, if_neg h1]
theorem sc_congr {m m' : Nat → Nat} (h : ∀ i, i < 64 → m i = m' i) : ∀ t, sc m t = sc m' t
  | 0 => rfl
  | t + 1 => by
    rw [sc, sc, sc_congr h t, nx_congr h]
theorem sc_lt {m : Nat → Nat} (hm : ∀ i, m i < 256) : ∀ t, ∀ x ∈ sc m t, x < 4294967296
  | 0, _, h => by cases h
  | t + 1, x, h => by
    rw [sc, List.mem_append] at h
    rcases h with h | h
    · exact sc_lt hm t x h
    · rw [List.mem_singleton] at h
      subst h
      unfold nx
      split
      · exact be_lt hm _ 4
      · exact Nat.mod_lt _ (by omega)
theorem co_lt' {L : List Nat} (h : ∀ x ∈ L, x < 4294967296) (i : Nat) : co L i < 4294967296 := by
  by_cases hi : i < L.length
  · rw [co_get hi]; exact h _ (List.getElem_mem hi)
  · rw [co_far (by omega)]; omega

/-- Eight words. -/
structure St where
  a : Nat
  b : Nat
  c : Nat
  d : Nat
  e : Nat
  f : Nat
  g : Nat
  h : Nat
def St.l (s : St) : List Nat := [s.a, s.b, s.c, s.d, s.e, s.f, s.g, s.h]
structure St.Ok (s : St) : Prop where
  a : s.a < 4294967296
  b : s.b < 4294967296
  c : s.c < 4294967296
  d : s.d < 4294967296
  e : s.e < 4294967296
  f : s.f < 4294967296
  g : s.g < 4294967296
  h : s.h < 4294967296
def xx (k w : Nat) (s : St) : Nat := s.h + S1 s.e + ch s.e s.f s.g + k + w
def yy (s : St) : Nat := S0 s.a + mj s.a s.b s.c
/-- A round. -/
def rd (k w : Nat) (s : St) : St := ⟨(xx k w s + yy s) % 4294967296, s.a, s.b, s.c, (s.d + xx k w s) % 4294967296, s.e, s.f, s.g⟩
theorem rd_ok {k w : Nat} {s : St} (h : s.Ok) : (rd k w s).Ok := ⟨Nat.mod_lt _ (by omega), h.a, h.b, h.c, Nat.mod_lt _ (by omega), h.e, h.f, h.g⟩
def rds (W : List Nat) (s : St) : Nat → St
  | 0 => s
  | t + 1 => rd (co kk t) (co W t) (rds W s t)
theorem rds_ok (W : List Nat) {s : St} (h : s.Ok) : ∀ t, (rds W s t).Ok
  | 0 => h
  | t + 1 => rd_ok (rds_ok W h t)
def plus (s v : St) : St := ⟨(s.a + v.a) % 4294967296, (s.b + v.b) % 4294967296, (s.c + v.c) % 4294967296, (s.d + v.d) % 4294967296, (s.e + v.e) % 4294967296, (s.f + v.f) % 4294967296, (s.g + v.g) % 4294967296, (s.h + v.h) % 4294967296⟩
theorem plus_ok (s v : St) : (plus s v).Ok := by constructor <;> exact Nat.mod_lt _ (by omega)
/-- A block. -/
def blk (m : Nat → Nat) (s : St) : St := plus s (rds (sc m 64) s 64)
def blks (m : Nat → Nat) (s : St) : Nat → St
  | 0 => s
  | n + 1 => blk (fun i => m (64 * n + i)) (blks m s n)
theorem blk_congr {m m' : Nat → Nat} (h : ∀ i, i < 64 → m i = m' i) (s : St) : blk m s = blk m' s := by rw [blk, blk, sc_congr h]
theorem blks_ok (m : Nat → Nat) {s : St} (h : s.Ok) : ∀ n, (blks m s n).Ok
  | 0 => h
  | _ + 1 => plus_ok _ _
theorem blks_congr {m m' : Nat → Nat} (s : St) : ∀ {n}, (∀ i, i < 64 * n → m i = m' i) → blks m s n = blks m' s n
  | 0, _ => rfl
  | n + 1, h => by
    rw [blks, blks, blks_congr s (fun i hi => h i (by omega))]
    exact blk_congr (fun i hi => h _ (by omega)) _
theorem blks_add (m : Nat → Nat) (s : St) (p : Nat) : ∀ q, blks m s (p + q) = blks (fun i => m (64 * p + i)) (blks m s p) q
  | 0 => rfl
  | q + 1 => by
    show blk _ (blks m s (p + q)) = blk _ _
    rw [blks_add m s p q]
    exact blk_congr (fun i _ => by show m (64 * (p + q) + i) = m (64 * p + (64 * q + i)); rw [show 64 * (p + q) + i = 64 * p + (64 * q + i) by omega]) _
/-- A word's bytes, the highest first. -/
def bs (x : Nat) : List Nat := [x / 16777216 % 256, x / 65536 % 256, x / 256 % 256, x % 256]
theorem bs_bb (x : Nat) : BB (bs x) := fun y hy => by
  simp only [bs, List.mem_cons, List.not_mem_nil, or_false] at hy
  rcases hy with h | h | h | h <;> (rw [h]; exact Nat.mod_lt _ (by omega))
/-- The first j words' bytes. -/
def outs (L : List Nat) : Nat → List Nat
  | 0 => []
  | j + 1 => outs L j ++ bs (co L j)
theorem outs_len (L : List Nat) : ∀ j, (outs L j).length = 4 * j
  | 0 => rfl
  | j + 1 => by rw [outs, List.length_append, outs_len L j]; simp [bs]; omega
theorem outs_bb (L : List Nat) : ∀ j, BB (outs L j)
  | 0 => fun _ h => by cases h
  | j + 1 => (outs_bb L j).append (bs_bb _)
def ini : St := ⟨1779033703, 3144134277, 1013904242, 2773480762, 1359893119, 2600822924, 528734635, 1541459225⟩
theorem ini_ok : ini.Ok := by constructor <;> decide
/-- The first j bytes of a length in bits, of eight. -/
def lb (n : Nat) : Nat → List Nat
  | 0 => []
  | j + 1 => lb n j ++ [n * 8 / 2 ^ (8 * (7 - j)) % 256]
theorem lb_len (n : Nat) : ∀ j, (lb n j).length = j
  | 0 => rfl
  | j + 1 => by rw [lb, List.length_append, lb_len n j]; rfl
theorem lb_bb (n : Nat) : ∀ j, BB (lb n j)
  | 0 => fun _ h => by cases h
  | j + 1 => (lb_bb n j).append (fun x hx => by rw [List.mem_singleton] at hx; rw [hx]; exact Nat.mod_lt _ (by omega))
theorem lb_co (n : Nat) : ∀ j i, i < j → co (lb n j) i = n * 8 / 2 ^ (8 * (7 - i)) % 256
  | 0, i, h => by omega
  | j + 1, i, h => by
    rw [lb]
    by_cases e : i = j
    · subst e
      rw [co_append_right (by rw [lb_len]; exact Nat.le_refl _), lb_len, Nat.sub_self]; rfl
    · rw [co_append_left (by rw [lb_len]; omega)]; exact lb_co n j i (by omega)
/-- How many noughts come behind n bytes and 128. -/
def zn (n : Nat) : Nat := (119 - n % 64) % 64
/-- A rest of n bytes, and what comes behind it. -/
def en (r : List Nat) (n : Nat) : List Nat := r ++ [128] ++ List.replicate (zn r.length) 0 ++ lb n 8
def pad (l : List Nat) : List Nat := en l l.length
theorem en_len (r : List Nat) (n : Nat) : (en r n).length = r.length + 1 + zn r.length + 8 := by simp [en, lb_len]; omega
theorem en_mod (r : List Nat) (n : Nat) : (en r n).length % 64 = 0 := by rw [en_len]; unfold zn; omega
theorem en_bb {r : List Nat} (h : BB r) (n : Nat) : BB (en r n) :=
  ((h.append (fun x hx => by rw [List.mem_singleton] at hx; omega)).append (fun x hx => by rw [List.eq_of_mem_replicate hx]; omega)).append (lb_bb n 8)
theorem pad_parts (l : List Nat) : pad l = l.take (l.length - l.length % 64) ++ en (l.drop (l.length - l.length % 64)) l.length := by
  have hd : (l.drop (l.length - l.length % 64)).length = l.length % 64 := by rw [List.length_drop]; have := Nat.mod_le l.length 64; omega
  have hz : zn (l.length % 64) = zn l.length := by unfold zn; rw [Nat.mod_mod]
  unfold pad en
  rw [hd, hz]
  simp only [← List.append_assoc]
  rw [List.take_append_drop]
def fin (l : List Nat) : St := blks (co (pad l)) ini ((pad l).length / 64)
def sum (l : List Nat) : List Nat := outs (fin l).l 8
theorem sum_len (l : List Nat) : (sum l).length = 32 := outs_len _ 8
theorem sum_bb (l : List Nat) : BB (sum l) := outs_bb _ 8
/-- In two goes: the whole blocks, and the rest. -/
theorem fin_parts (l : List Nat) : fin l = blks (co (en (l.drop (l.length - l.length % 64)) l.length)) (blks (co (l.take (l.length - l.length % 64))) ini (l.length / 64)) ((en (l.drop (l.length - l.length % 64)) l.length).length / 64) := by
  have hp := pad_parts l
  obtain ⟨A, hA⟩ : ∃ A, A = l.take (l.length - l.length % 64) := ⟨_, rfl⟩
  obtain ⟨B, hB⟩ : ∃ B, B = en (l.drop (l.length - l.length % 64)) l.length := ⟨_, rfl⟩
  have hAl : A.length = 64 * (l.length / 64) := by rw [hA, List.length_take]; omega
  have hBm : B.length % 64 = 0 := by rw [hB]; exact en_mod _ _
  rw [← hA, ← hB] at hp
  rw [fin, hp, ← hA, ← hB, List.length_append, show (A.length + B.length) / 64 = l.length / 64 + B.length / 64 by omega, blks_add]
  have h1 : blks (co (A ++ B)) ini (l.length / 64) = blks (co A) ini (l.length / 64) := blks_congr _ (fun i hi => co_append_left (by omega))
  rw [h1]
  exact blks_congr _ (fun i hi => by show co (A ++ B) _ = _; rw [co_append_right (by omega), hAl, Nat.add_sub_cancel_left])
end Sh
namespace Sh
open Pol
set_option maxRecDepth 100000 in
theorem sum_none : co (sum []) 0 = 227 ∧ co (sum []) 1 = 176 := by decide +kernel
set_option maxRecDepth 100000 in
theorem sum_abc : co (sum [97, 98, 99]) 0 = 186 ∧ co (sum [97, 98, 99]) 1 = 120 := by decide +kernel
end Sh
