/- What math/bits' Div64 answers wherever it answers: the quotient of a number of 128 bits by one of 64. -/
import Derived.Test.YtmepmmhhiphfiaaLen
import Derived.Test.YtmepmmhhiphfiaaKnuth
namespace Go.Proofs.Ytmepmmhhiphfiaa
open Go.RowKit
theorem isLen_norm {y m : Nat} (h : IsLen y m) : y * 2 ^ (64 - m) < 18446744073709551616 ∧ 9223372036854775808 ≤ y * 2 ^ (64 - m) := by
  obtain ⟨h1, h2, h3, h4⟩ := h
  have hp : 0 < 2 ^ (64 - m) := Nat.two_pow_pos _
  have e1 : 2 ^ m * 2 ^ (64 - m) = 18446744073709551616 := by rw [← Nat.pow_add, show m + (64 - m) = 64 from by omega]
  have e2 : 2 ^ (m - 1) * 2 ^ (64 - m) = 9223372036854775808 := by rw [← Nat.pow_add, show m - 1 + (64 - m) = 63 from by omega]
  exact ⟨by rw [← e1]; exact Nat.mul_lt_mul_of_pos_right h3 hp, by rw [← e2]; exact Nat.mul_le_mul_right _ h4⟩
theorem lz_any (y : Nat) (h0 : 0 < y) (hy : y < 18446744073709551616) (w : World) :
    Calls Try.prog 61 #[.int .u64 y] w fun e w' => (∃ s : Nat, e = .returned (.int .i64 s) ∧ s ≤ 63 ∧ y * 2 ^ s < 18446744073709551616 ∧ 9223372036854775808 ≤ y * 2 ^ s) ∧ w = w' := by
  have hlen := hide (len64_any (y : Int) (by omega) (by omega))
  go_enter Try.func61, Try.ntmps61
  go_wp2_with fail
  refine (unhide hlen _).mono ?_
  rintro e w' ⟨⟨m, rfl, hm⟩, rfl⟩
  rw [Int.toNat_natCast] at hm
  have hm1 : 1 ≤ m ∧ m ≤ 64 := ⟨hm.1, hm.2.1⟩
  have Hm := hide (isLen_norm hm)
  clear hm
  go_wp2_with fail
  go_ret
  exact ⟨⟨64 - m, ret_int (by omega), by omega, (unhide Hm).1, (unhide Hm).2⟩, rfl⟩
theorem wrap_shl (a s : Nat) : IntKind.u64.wrap ((a : Int) * 2 ^ s) = ((a * 2 ^ s % 18446744073709551616 : Nat) : Int) := by
  have e : ((a : Int) * 2 ^ s) = ((a * 2 ^ s : Nat) : Int) := by rw [Int.natCast_mul, Int.natCast_pow]; rfl
  rw [e, M.wrapM]
theorem shr_nat (a k : Nat) : (a : Int) / 2 ^ k = ((a / 2 ^ k : Nat) : Int) := by
  rw [Int.natCast_ediv, Int.natCast_pow]; rfl
/-- The first guess of a digit, as the machine reckons it. -/
theorem norm_rest (hi lo y s X R : Nat) (hs : s ≤ 63) (hR : R < y) (hN : hi * 18446744073709551616 + lo = y * X + R) (h1 : y * 2 ^ s < 18446744073709551616) :
    (hi * 2 ^ s + lo / 2 ^ (64 - s)) * 18446744073709551616 + lo * 2 ^ s % 18446744073709551616 = y * 2 ^ s * X + R * 2 ^ s ∧ R * 2 ^ s < 18446744073709551616 := by
  have hp : 0 < 2 ^ s := Nat.two_pow_pos s
  have e64 : 2 ^ (64 - s) * 2 ^ s = 18446744073709551616 := by rw [← Nat.pow_add, show 64 - s + s = 64 from by omega]
  have e : lo * 2 ^ s / 18446744073709551616 = lo / 2 ^ (64 - s) := by
    rw [← e64, Nat.mul_div_mul_right _ _ hp]
  refine ⟨?_, Nat.lt_trans (Nat.mul_lt_mul_of_pos_right hR hp) h1⟩
  have e2 : (hi * 2 ^ s + lo / 2 ^ (64 - s)) * 18446744073709551616 + lo * 2 ^ s % 18446744073709551616 = (hi * 18446744073709551616 + lo) * 2 ^ s := by
    rw [Nat.add_mul, ← e, Nat.add_mul, Nat.mul_right_comm hi]
    have := Nat.div_add_mod (lo * 2 ^ s) 18446744073709551616
    omega
  rw [e2, hN, Nat.add_mul, Nat.mul_right_comm]
theorem rest_linK {K U V W Z t d1 d0 : Nat} (h1 : U * K + (d1 * K + d0) = V * K + W + Z) (hS : V + t = U + d1) : t * K + d0 = W + Z := by
  have h2 : V * K + t * K = U * K + d1 * K := by rw [← Nat.add_mul, hS, Nat.add_mul]
  omega
theorem rest_lin {u c V W Z t d1 d0 : Nat} (h1 : u * 18446744073709551616 + c = V * 4294967296 + W + Z) (hS : V + t = u * 4294967296 + d1) (hC : c = d1 * 4294967296 + d0) : t * 4294967296 + d0 = W + Z := by
  have h2 : u * 18446744073709551616 = u * 4294967296 * 4294967296 := by rw [Nat.mul_assoc]
  rw [h2, hC] at h1
  exact rest_linK h1 hS
theorem rest_wrap {t d0 W Z : Nat} (e : t * 4294967296 + d0 = W + Z) (h2 : Z < 18446744073709551616) :
    IntKind.u64.wrap (IntKind.u64.wrap (IntKind.u64.wrap ((t : Int) * 4294967296) + (d0 : Int)) - IntKind.u64.wrap (W : Int)) = (Z : Int) := by
  simp only [IntKind.wrap_u64]
  omega
theorem rest_close {u c Y X R s pa p t d1 d0 : Nat} (h : u * 18446744073709551616 + c = Y * X + R * 2 ^ s ∧ R * 2 ^ s < 18446744073709551616) (hX : X = pa * 4294967296 + p) (hS : Y * pa + t = u * 4294967296 + d1) (hC : c = d1 * 4294967296 + d0) :
    IntKind.u64.wrap (IntKind.u64.wrap (IntKind.u64.wrap ((t : Int) * 4294967296) + (d0 : Int)) - IntKind.u64.wrap ((p : Int) * (Y : Int))) / 2 ^ s = (R : Int) := by
  obtain ⟨h1, h2⟩ := h
  rw [hX, Nat.mul_add, ← Nat.mul_assoc Y pa] at h1
  have e := rest_lin h1 hS hC
  rw [← Int.natCast_mul, Nat.mul_comm p Y, rest_wrap e h2, shr_nat, Nat.mul_div_cancel _ (Nat.two_pow_pos s)]
theorem guess_facts (u d v1 v0 : Nat) (hv : 0 < v1) (hd : d < 4294967296) (hu : u < 18446744073709551616) :
    ∃ q r : Nat, Kn.Guess u d v1 v0 q r ∧ r < v1 ∧ q < 18446744073709551616 ∧ IntKind.u64.wrap ((u : Int) / (v1 : Int)) = (q : Int) ∧ IntKind.u64.wrap ((u : Int) - IntKind.u64.wrap ((q : Int) * (v1 : Int))) = (r : Int) := by
  have hqb : u / v1 ≤ u := Nat.div_le_self _ _
  have hg := Kn.start (u := u) (d := d) (v1 := v1) (v0 := v0) hv hd
  refine ⟨u / v1, u % v1, hg, Nat.mod_lt _ hv, by omega, ?_, ?_⟩
  · rw [← Int.natCast_ediv, M.wrapN _ (by omega)]
  · have e := hg.sum
    generalize u / v1 = q at *
    generalize u % v1 = r at *
    rw [M.mulN, M.wrapN _ (by omega), IntKind.wrap_u64]
    omega
/-- The rest behind a digit, as the machine reckons it. -/
theorem rest_facts (u d v1 v0 Y p : Nat) (hY : Y = v1 * 4294967296 + v0) (hY1 : Y < 18446744073709551616) (nu : u < Y) (hd : d < 4294967296) (hp : p = (u * 4294967296 + d) / (v1 * 4294967296 + v0)) :
    ∃ t : Nat, t < Y ∧ Y * p + t = u * 4294967296 + d ∧ p < 4294967296 ∧ IntKind.u64.wrap (IntKind.u64.wrap (IntKind.u64.wrap ((u : Int) * 4294967296) + (d : Int)) - IntKind.u64.wrap ((p : Int) * (Y : Int))) = (t : Int) := by
  have h1 := Kn.digit_lt (u := u) (d := d) (v1 := v1) (v0 := v0) (by omega) hd
  rw [← hp] at h1
  rw [← hY] at hp
  have h2 := Nat.div_add_mod (u * 4294967296 + d) Y
  rw [← hp] at h2
  have h3 : (u * 4294967296 + d) % Y < Y := Nat.mod_lt _ (by omega)
  generalize (u * 4294967296 + d) % Y = t at h2 h3
  refine ⟨t, h3, h2, h1, ?_⟩
  rw [Nat.mul_comm] at h2
  rw [M.mulN]
  generalize p * Y = m at h2
  simp only [IntKind.wrap_u64]
  omega
theorem more {u d v1 v0 q r : Nat} (h : Kn.Guess u d v1 v0 q r) (hu : u < v1 * 4294967296 + v0) (hd : d < 4294967296) (hq : 4294967296 ≤ q) : Kn.Guess u d v1 v0 (q - 1) (r + v1) := by
  have := Kn.digit_lt hu hd
  exact Kn.next h (Nat.lt_of_lt_of_le this hq)
theorem prod_small {q v0 : Nat} (hq : q < 4294967296) (h0 : v0 < 4294967296) : q * v0 ≤ 18446744065119617025 := by
  have : q * v0 ≤ 4294967295 * 4294967295 := Nat.mul_le_mul (by omega) (by omega)
  omega
set_option maxHeartbeats 4000000 in
theorem div64_high (hi lo y : Nat) (h1 : 0 < hi) (hhy : hi < y) (hl : lo < 18446744073709551616) (hy : y < 18446744073709551616) (w : World) :
    Calls Try.prog 52 #[.int .u64 hi, .int .u64 lo, .int .u64 y] w fun e w' => e = .returned (.tuple #[.int .u64 ((hi * 18446744073709551616 + lo) / y : Nat), .int .u64 ((hi * 18446744073709551616 + lo) % y : Nat)]) ∧ ∃ n, w' = w.drewN n := by
  have t1 : ((y : Int) == 0) = false := by rw [beq_eq_false_iff_ne]; omega
  have t2 : decide ((y : Int) ≤ (hi : Int)) = false := by simp; omega
  have t3 : ((hi : Int) == 0) = false := by rw [beq_eq_false_iff_ne]; omega
  obtain ⟨X, hX⟩ : ∃ X, X = (hi * 18446744073709551616 + lo) / y := ⟨_, rfl⟩
  obtain ⟨R, hR⟩ : ∃ R, R = (hi * 18446744073709551616 + lo) % y := ⟨_, rfl⟩
  rw [← hX, ← hR]
  have HX := hide hX
  have HRy : Hid (R < y ∧ hi * 18446744073709551616 + lo = y * X + R) := hide ⟨by rw [hR]; exact Nat.mod_lt _ (by omega), by rw [hX, hR]; exact (Nat.div_add_mod _ _).symm⟩
  clear hX hR
  go_enter Try.func52, Try.ntmps52
  go_wp2_with fail
  refine (lz_any y (by omega) hy _).mono ?_
  rintro e w' ⟨⟨s, rfl, hs, hy1, hy2⟩, rfl⟩
  obtain ⟨nu, nh, nor, nq⟩ := Kn.norm hi lo y s hs hhy hl hy1
  have HR := hide (norm_rest hi lo y s X R hs (unhide HRy).1 (unhide HRy).2 hy1)
  clear HRy
  rw [← unhide HX] at nq
  have eY := wrap_shl y s
  have eC := wrap_shl lo s
  have eO : bits .or .u64 (IntKind.u64.wrap ((hi : Int) * 2 ^ s)) ((lo : Int) / 2 ^ (64 - s)) = ((hi * 2 ^ s + lo / 2 ^ (64 - s) : Nat) : Int) := by
    rw [wrap_shl, Nat.mod_eq_of_lt nh, shr_nat, bits_or_u64_nat _ _ nh (Nat.lt_of_le_of_lt (Nat.div_le_self _ _) hl), nor]
  rw [Nat.mod_eq_of_lt hy1] at eY
  have hc : lo * 2 ^ s % 18446744073709551616 < 18446744073709551616 := Nat.mod_lt _ (by decide)
  obtain ⟨Y, hY⟩ : ∃ Y, Y = y * 2 ^ s := ⟨_, rfl⟩
  obtain ⟨u, hu⟩ : ∃ u, u = hi * 2 ^ s + lo / 2 ^ (64 - s) := ⟨_, rfl⟩
  obtain ⟨c, hcc⟩ : ∃ c, c = lo * 2 ^ s % 18446744073709551616 := ⟨_, rfl⟩
  replace HR := unhide HR
  rw [← hY] at eY nu nq hy1 hy2 HR
  rw [← hu] at eO nu nq HR
  rw [← hcc] at eC nq hc HR
  replace HR := hide HR
  clear hY hu hcc nor nh HX
  have NQ := hide nq
  clear nq
  obtain ⟨v1, hv1⟩ : ∃ v1, v1 = Y / 4294967296 := ⟨_, rfl⟩
  obtain ⟨v0, hv0⟩ : ∃ v0, v0 = Y % 4294967296 := ⟨_, rfl⟩
  obtain ⟨d1, hd1⟩ : ∃ d1, d1 = c / 4294967296 := ⟨_, rfl⟩
  obtain ⟨d0, hd0⟩ : ∃ d0, d0 = c % 4294967296 := ⟨_, rfl⟩
  have e1 : (Y : Int) / 4294967296 = (v1 : Int) := by omega
  have e2 : bits .and .u64 (Y : Int) 4294967295 = (v0 : Int) := by rw [M.maskN Y hy1, hv0]
  have e3 : (c : Int) / 4294967296 = (d1 : Int) := by omega
  have e4 : bits .and .u64 (c : Int) 4294967295 = (d0 : Int) := by rw [M.maskN c hc, hd0]
  have bv1 : (2147483648 : Int) ≤ (v1 : Int) := by omega
  have bv2 : (v1 : Int) < 4294967296 := by omega
  have bv0 : v0 < 4294967296 := by omega
  have bd1 : d1 < 4294967296 := by omega
  have bd0 : d0 < 4294967296 := by omega
  have HY : Hid (Y = v1 * 4294967296 + v0) := hide (by omega)
  have HC : Hid (c = d1 * 4294967296 + d0) := hide (by omega)
  clear hv1 hv0 hd1 hd0 hhy hy hl h1
  obtain ⟨q0, r0, hg0, hr0, hq0, eq0, er0⟩ := guess_facts u d1 v1 v0 (by omega) (by omega) (by omega)
  have HG0 := hide hg0
  clear hg0
  go_wp2_with fail
  clear eq0 er0 eY eO eC e1 e2 e3 e4 t1 t2 t3 hy2
  go_loop [15, 16] (fun a b => ∃ q r : Nat, a = .int .u64 q ∧ b = .int .u64 r ∧ r < 4294967296 ∧ q < 18446744073709551616 ∧ Hid (Kn.Guess u d1 v1 v0 q r)) (fun a _ => (intOf a).toNat)
  case atStart => exact ⟨q0, r0, rfl, rfl, by omega, by omega, HG0⟩
  case round =>
    obtain ⟨q, r, rfl, rfl, hr, hq, HG1⟩ := hrel
    clear HG0 hr0 hq0
    by_cases hq1 : (4294967296 : Int) ≤ (q : Int)
    · have HN := hide (more (unhide HG1) (by rw [← unhide HY]; exact nu) (by omega) (by omega))
      clear HG1
      obtain ⟨p, hp⟩ : ∃ p : Nat, p = q - 1 := ⟨_, rfl⟩
      rw [← hp] at HN
      have ep : (q : Int) - 1 = (p : Int) := by omega
      have hpb : p < 18446744073709551616 := by omega
      clear hp
      by_cases hr1 : (4294967296 : Int) ≤ (r : Int) + (v1 : Int)
      · have HP := hide (Kn.broke (unhide HN) (by omega) (by rw [← unhide HY]; exact nu) (by omega) (by omega))
        clear HN
        obtain ⟨pa, hpa⟩ : ∃ pa : Nat, pa = p := ⟨_, rfl⟩
        rw [← hpa] at ep
        rw [← hpa] at HP
        clear hpa
        obtain ⟨t, htY, hsum, hpl, eT⟩ := rest_facts u d1 v1 v0 Y pa (unhide HY) hy1 nu (by omega) (unhide HP)
        have HS := hide hsum
        have hpa2 : (pa : Int) < 4294967296 := by omega
        clear hsum HP hpl hpb
        obtain ⟨q0, r0, hg0, hr0, hq0, eq0, er0⟩ := guess_facts t d0 v1 v0 (by omega) (by omega) (by omega)
        have HG0 := hide hg0
        clear hg0
        go_wp2_with fail
        clear eq0 er0
        go_loop [18, 16] (fun a b => ∃ q r : Nat, a = .int .u64 q ∧ b = .int .u64 r ∧ r < 4294967296 ∧ q < 18446744073709551616 ∧ Hid (Kn.Guess t d0 v1 v0 q r)) (fun a _ => (intOf a).toNat)
        case atStart => exact ⟨q0, r0, rfl, rfl, by omega, by omega, HG0⟩
        case round =>
          obtain ⟨q, r, rfl, rfl, hr, hq, HG1⟩ := hrel
          clear HG0 hr0 hq0
          by_cases hq1 : (4294967296 : Int) ≤ (q : Int)
          · have HN := hide (more (unhide HG1) (by rw [← unhide HY]; exact htY) (by omega) (by omega))
            clear HG1
            obtain ⟨p, hp⟩ : ∃ p : Nat, p = q - 1 := ⟨_, rfl⟩
            rw [← hp] at HN
            have ep : (q : Int) - 1 = (p : Int) := by omega
            have hpb : p < 18446744073709551616 := by omega
            clear hp
            by_cases hr1 : (4294967296 : Int) ≤ (r : Int) + (v1 : Int)
            · have HP := hide (Kn.broke (unhide HN) (by omega) (by rw [← unhide HY]; exact htY) (by omega) (by omega))
              clear HN
              have e64 := Kn.whole u c Y pa t (by omega) (by rw [unhide HS]; have := unhide HC; omega)
              have HX2 : Hid (X = pa * 4294967296 + p) := hide (by
                rw [← unhide NQ, e64, unhide HP, ← unhide HY]
                have : c % 4294967296 = d0 := by have := unhide HC; omega
                rw [this])
              clear e64
              have hp2 : (p : Int) < 4294967296 := by
                have := Kn.digit_lt (u := t) (d := d0) (v1 := v1) (v0 := v0) (by rw [← unhide HY]; exact htY) (by omega)
                rw [← unhide HP] at this
                omega
              go_wp2
              go_ret2
              exact ⟨ret_pair (by have := unhide HX2; omega) (rest_close (unhide HR) (unhide HX2) (unhide HS) (unhide HC)), 0, rfl⟩
            · go_wp2_with fail
              go_round
              case rel => exact ⟨p, r + v1, rfl, by rw [Int.natCast_add], by omega, hpb, HN⟩
              case measure => simp [intOf]; omega
          · obtain ⟨m, hm⟩ : ∃ m : Nat, m = q * v0 := ⟨_, rfl⟩
            have em : (q : Int) * (v0 : Int) = (m : Int) := by rw [hm, Int.natCast_mul]
            have bm : m ≤ 18446744065119617025 := by rw [hm]; exact prod_small (by omega) (by omega)
            have Hm := hide hm
            clear hm
            by_cases hp1 : 4294967296 * (r : Int) + (d0 : Int) < (m : Int)
            · have HN := hide (Kn.next (unhide HG1) (Kn.too_great (unhide HG1) (by omega) (by rw [← unhide Hm]; omega)))
              have hq0 : 0 < q := by
                rcases Nat.eq_zero_or_pos q with h | h
                · have := unhide Hm; rw [h, Nat.zero_mul] at this; omega
                · exact h
              clear HG1
              obtain ⟨p, hp⟩ : ∃ p : Nat, p = q - 1 := ⟨_, rfl⟩
              rw [← hp] at HN
              have ep : (q : Int) - 1 = (p : Int) := by omega
              have hpb : p < 18446744073709551616 := by omega
              clear hp
              by_cases hr1 : (4294967296 : Int) ≤ (r : Int) + (v1 : Int)
              · have HP := hide (Kn.broke (unhide HN) (by omega) (by rw [← unhide HY]; exact htY) (by omega) (by omega))
                clear HN
                have e64 := Kn.whole u c Y pa t (by omega) (by rw [unhide HS]; have := unhide HC; omega)
                have HX2 : Hid (X = pa * 4294967296 + p) := hide (by
                  rw [← unhide NQ, e64, unhide HP, ← unhide HY]
                  have : c % 4294967296 = d0 := by have := unhide HC; omega
                  rw [this])
                clear e64
                have hp2 : (p : Int) < 4294967296 := by
                  have := Kn.digit_lt (u := t) (d := d0) (v1 := v1) (v0 := v0) (by rw [← unhide HY]; exact htY) (by omega)
                  rw [← unhide HP] at this
                  omega
                go_wp2
                go_ret2
                exact ⟨ret_pair (by have := unhide HX2; omega) (rest_close (unhide HR) (unhide HX2) (unhide HS) (unhide HC)), 0, rfl⟩
              · go_wp2_with fail
                go_round
                case rel => exact ⟨p, r + v1, rfl, by rw [Int.natCast_add], by omega, hpb, HN⟩
                case measure => simp [intOf]; omega
            · have HP := hide (Kn.done (unhide HG1) (by omega) (by rw [← unhide Hm]; omega))
              clear HG1
              have e64 := Kn.whole u c Y pa t (by omega) (by rw [unhide HS]; have := unhide HC; omega)
              have HX2 : Hid (X = pa * 4294967296 + q) := hide (by
                rw [← unhide NQ, e64, unhide HP, ← unhide HY]
                have : c % 4294967296 = d0 := by have := unhide HC; omega
                rw [this])
              clear e64
              have hp2 : (q : Int) < 4294967296 := by
                have := Kn.digit_lt (u := t) (d := d0) (v1 := v1) (v0 := v0) (by rw [← unhide HY]; exact htY) (by omega)
                rw [← unhide HP] at this
                omega
              go_wp2
              go_ret2
              exact ⟨ret_pair (by have := unhide HX2; omega) (rest_close (unhide HR) (unhide HX2) (unhide HS) (unhide HC)), 0, rfl⟩
      · go_wp2_with fail
        go_round
        case rel => exact ⟨p, r + v1, rfl, by rw [Int.natCast_add], by omega, hpb, HN⟩
        case measure => simp [intOf]; omega
    · obtain ⟨m, hm⟩ : ∃ m : Nat, m = q * v0 := ⟨_, rfl⟩
      have em : (q : Int) * (v0 : Int) = (m : Int) := by rw [hm, Int.natCast_mul]
      have bm : m ≤ 18446744065119617025 := by rw [hm]; exact prod_small (by omega) (by omega)
      have Hm := hide hm
      clear hm
      by_cases hp1 : 4294967296 * (r : Int) + (d1 : Int) < (m : Int)
      · have HN := hide (Kn.next (unhide HG1) (Kn.too_great (unhide HG1) (by omega) (by rw [← unhide Hm]; omega)))
        have hq0 : 0 < q := by
          rcases Nat.eq_zero_or_pos q with h | h
          · have := unhide Hm; rw [h, Nat.zero_mul] at this; omega
          · exact h
        clear HG1
        obtain ⟨p, hp⟩ : ∃ p : Nat, p = q - 1 := ⟨_, rfl⟩
        rw [← hp] at HN
        have ep : (q : Int) - 1 = (p : Int) := by omega
        have hpb : p < 18446744073709551616 := by omega
        clear hp
        by_cases hr1 : (4294967296 : Int) ≤ (r : Int) + (v1 : Int)
        · have HP := hide (Kn.broke (unhide HN) (by omega) (by rw [← unhide HY]; exact nu) (by omega) (by omega))
          clear HN
          obtain ⟨pa, hpa⟩ : ∃ pa : Nat, pa = p := ⟨_, rfl⟩
          rw [← hpa] at ep
          rw [← hpa] at HP
          clear hpa
          obtain ⟨t, htY, hsum, hpl, eT⟩ := rest_facts u d1 v1 v0 Y pa (unhide HY) hy1 nu (by omega) (unhide HP)
          have HS := hide hsum
          have hpa2 : (pa : Int) < 4294967296 := by omega
          clear hsum HP hpl hpb
          obtain ⟨q0, r0, hg0, hr0, hq0, eq0, er0⟩ := guess_facts t d0 v1 v0 (by omega) (by omega) (by omega)
          have HG0 := hide hg0
          clear hg0
          go_wp2_with fail
          clear eq0 er0
          go_loop [18, 16] (fun a b => ∃ q r : Nat, a = .int .u64 q ∧ b = .int .u64 r ∧ r < 4294967296 ∧ q < 18446744073709551616 ∧ Hid (Kn.Guess t d0 v1 v0 q r)) (fun a _ => (intOf a).toNat)
          case atStart => exact ⟨q0, r0, rfl, rfl, by omega, by omega, HG0⟩
          case round =>
            obtain ⟨q, r, rfl, rfl, hr, hq, HG1⟩ := hrel
            clear HG0 hr0 hq0
            by_cases hq1 : (4294967296 : Int) ≤ (q : Int)
            · have HN := hide (more (unhide HG1) (by rw [← unhide HY]; exact htY) (by omega) (by omega))
              clear HG1
              obtain ⟨p, hp⟩ : ∃ p : Nat, p = q - 1 := ⟨_, rfl⟩
              rw [← hp] at HN
              have ep : (q : Int) - 1 = (p : Int) := by omega
              have hpb : p < 18446744073709551616 := by omega
              clear hp
              by_cases hr1 : (4294967296 : Int) ≤ (r : Int) + (v1 : Int)
              · have HP := hide (Kn.broke (unhide HN) (by omega) (by rw [← unhide HY]; exact htY) (by omega) (by omega))
                clear HN
                have e64 := Kn.whole u c Y pa t (by omega) (by rw [unhide HS]; have := unhide HC; omega)
                have HX2 : Hid (X = pa * 4294967296 + p) := hide (by
                  rw [← unhide NQ, e64, unhide HP, ← unhide HY]
                  have : c % 4294967296 = d0 := by have := unhide HC; omega
                  rw [this])
                clear e64
                have hp2 : (p : Int) < 4294967296 := by
                  have := Kn.digit_lt (u := t) (d := d0) (v1 := v1) (v0 := v0) (by rw [← unhide HY]; exact htY) (by omega)
                  rw [← unhide HP] at this
                  omega
                go_wp2
                go_ret2
                exact ⟨ret_pair (by have := unhide HX2; omega) (rest_close (unhide HR) (unhide HX2) (unhide HS) (unhide HC)), 0, rfl⟩
              · go_wp2_with fail
                go_round
                case rel => exact ⟨p, r + v1, rfl, by rw [Int.natCast_add], by omega, hpb, HN⟩
                case measure => simp [intOf]; omega
            · obtain ⟨m, hm⟩ : ∃ m : Nat, m = q * v0 := ⟨_, rfl⟩
              have em : (q : Int) * (v0 : Int) = (m : Int) := by rw [hm, Int.natCast_mul]
              have bm : m ≤ 18446744065119617025 := by rw [hm]; exact prod_small (by omega) (by omega)
              have Hm := hide hm
              clear hm
              by_cases hp1 : 4294967296 * (r : Int) + (d0 : Int) < (m : Int)
              · have HN := hide (Kn.next (unhide HG1) (Kn.too_great (unhide HG1) (by omega) (by rw [← unhide Hm]; omega)))
                have hq0 : 0 < q := by
                  rcases Nat.eq_zero_or_pos q with h | h
                  · have := unhide Hm; rw [h, Nat.zero_mul] at this; omega
                  · exact h
                clear HG1
                obtain ⟨p, hp⟩ : ∃ p : Nat, p = q - 1 := ⟨_, rfl⟩
                rw [← hp] at HN
                have ep : (q : Int) - 1 = (p : Int) := by omega
                have hpb : p < 18446744073709551616 := by omega
                clear hp
                by_cases hr1 : (4294967296 : Int) ≤ (r : Int) + (v1 : Int)
                · have HP := hide (Kn.broke (unhide HN) (by omega) (by rw [← unhide HY]; exact htY) (by omega) (by omega))
                  clear HN
                  have e64 := Kn.whole u c Y pa t (by omega) (by rw [unhide HS]; have := unhide HC; omega)
                  have HX2 : Hid (X = pa * 4294967296 + p) := hide (by
                    rw [← unhide NQ, e64, unhide HP, ← unhide HY]
                    have : c % 4294967296 = d0 := by have := unhide HC; omega
                    rw [this])
                  clear e64
                  have hp2 : (p : Int) < 4294967296 := by
                    have := Kn.digit_lt (u := t) (d := d0) (v1 := v1) (v0 := v0) (by rw [← unhide HY]; exact htY) (by omega)
                    rw [← unhide HP] at this
                    omega
                  go_wp2
                  go_ret2
                  exact ⟨ret_pair (by have := unhide HX2; omega) (rest_close (unhide HR) (unhide HX2) (unhide HS) (unhide HC)), 0, rfl⟩
                · go_wp2_with fail
                  go_round
                  case rel => exact ⟨p, r + v1, rfl, by rw [Int.natCast_add], by omega, hpb, HN⟩
                  case measure => simp [intOf]; omega
              · have HP := hide (Kn.done (unhide HG1) (by omega) (by rw [← unhide Hm]; omega))
                clear HG1
                have e64 := Kn.whole u c Y pa t (by omega) (by rw [unhide HS]; have := unhide HC; omega)
                have HX2 : Hid (X = pa * 4294967296 + q) := hide (by
                  rw [← unhide NQ, e64, unhide HP, ← unhide HY]
                  have : c % 4294967296 = d0 := by have := unhide HC; omega
                  rw [this])
                clear e64
                have hp2 : (q : Int) < 4294967296 := by
                  have := Kn.digit_lt (u := t) (d := d0) (v1 := v1) (v0 := v0) (by rw [← unhide HY]; exact htY) (by omega)
                  rw [← unhide HP] at this
                  omega
                go_wp2
                go_ret2
                exact ⟨ret_pair (by have := unhide HX2; omega) (rest_close (unhide HR) (unhide HX2) (unhide HS) (unhide HC)), 0, rfl⟩
        · go_wp2_with fail
          go_round
          case rel => exact ⟨p, r + v1, rfl, by rw [Int.natCast_add], by omega, hpb, HN⟩
          case measure => simp [intOf]; omega
      · have HP := hide (Kn.done (unhide HG1) (by omega) (by rw [← unhide Hm]; omega))
        clear HG1
        generalize q = pa at *
        obtain ⟨t, htY, hsum, hpl, eT⟩ := rest_facts u d1 v1 v0 Y pa (unhide HY) hy1 nu (by omega) (unhide HP)
        have HS := hide hsum
        have hpa2 : (pa : Int) < 4294967296 := by omega
        clear hsum HP hpl
        obtain ⟨q0, r0, hg0, hr0, hq0, eq0, er0⟩ := guess_facts t d0 v1 v0 (by omega) (by omega) (by omega)
        have HG0 := hide hg0
        clear hg0
        go_wp2_with fail
        clear eq0 er0
        go_loop [18, 16] (fun a b => ∃ q r : Nat, a = .int .u64 q ∧ b = .int .u64 r ∧ r < 4294967296 ∧ q < 18446744073709551616 ∧ Hid (Kn.Guess t d0 v1 v0 q r)) (fun a _ => (intOf a).toNat)
        case atStart => exact ⟨q0, r0, rfl, rfl, by omega, by omega, HG0⟩
        case round =>
          obtain ⟨q, r, rfl, rfl, hr, hq, HG1⟩ := hrel
          clear HG0 hr0 hq0
          by_cases hq1 : (4294967296 : Int) ≤ (q : Int)
          · have HN := hide (more (unhide HG1) (by rw [← unhide HY]; exact htY) (by omega) (by omega))
            clear HG1
            obtain ⟨p, hp⟩ : ∃ p : Nat, p = q - 1 := ⟨_, rfl⟩
            rw [← hp] at HN
            have ep : (q : Int) - 1 = (p : Int) := by omega
            have hpb : p < 18446744073709551616 := by omega
            clear hp
            by_cases hr1 : (4294967296 : Int) ≤ (r : Int) + (v1 : Int)
            · have HP := hide (Kn.broke (unhide HN) (by omega) (by rw [← unhide HY]; exact htY) (by omega) (by omega))
              clear HN
              have e64 := Kn.whole u c Y pa t (by omega) (by rw [unhide HS]; have := unhide HC; omega)
              have HX2 : Hid (X = pa * 4294967296 + p) := hide (by
                rw [← unhide NQ, e64, unhide HP, ← unhide HY]
                have : c % 4294967296 = d0 := by have := unhide HC; omega
                rw [this])
              clear e64
              have hp2 : (p : Int) < 4294967296 := by
                have := Kn.digit_lt (u := t) (d := d0) (v1 := v1) (v0 := v0) (by rw [← unhide HY]; exact htY) (by omega)
                rw [← unhide HP] at this
                omega
              go_wp2
              go_ret2
              exact ⟨ret_pair (by have := unhide HX2; omega) (rest_close (unhide HR) (unhide HX2) (unhide HS) (unhide HC)), 0, rfl⟩
            · go_wp2_with fail
              go_round
              case rel => exact ⟨p, r + v1, rfl, by rw [Int.natCast_add], by omega, hpb, HN⟩
              case measure => simp [intOf]; omega
          · obtain ⟨m, hm⟩ : ∃ m : Nat, m = q * v0 := ⟨_, rfl⟩
            have em : (q : Int) * (v0 : Int) = (m : Int) := by rw [hm, Int.natCast_mul]
            have bm : m ≤ 18446744065119617025 := by rw [hm]; exact prod_small (by omega) (by omega)
            have Hm := hide hm
            clear hm
            by_cases hp1 : 4294967296 * (r : Int) + (d0 : Int) < (m : Int)
            · have HN := hide (Kn.next (unhide HG1) (Kn.too_great (unhide HG1) (by omega) (by rw [← unhide Hm]; omega)))
              have hq0 : 0 < q := by
                rcases Nat.eq_zero_or_pos q with h | h
                · have := unhide Hm; rw [h, Nat.zero_mul] at this; omega
                · exact h
              clear HG1
              obtain ⟨p, hp⟩ : ∃ p : Nat, p = q - 1 := ⟨_, rfl⟩
              rw [← hp] at HN
              have ep : (q : Int) - 1 = (p : Int) := by omega
              have hpb : p < 18446744073709551616 := by omega
              clear hp
              by_cases hr1 : (4294967296 : Int) ≤ (r : Int) + (v1 : Int)
              · have HP := hide (Kn.broke (unhide HN) (by omega) (by rw [← unhide HY]; exact htY) (by omega) (by omega))
                clear HN
                have e64 := Kn.whole u c Y pa t (by omega) (by rw [unhide HS]; have := unhide HC; omega)
                have HX2 : Hid (X = pa * 4294967296 + p) := hide (by
                  rw [← unhide NQ, e64, unhide HP, ← unhide HY]
                  have : c % 4294967296 = d0 := by have := unhide HC; omega
                  rw [this])
                clear e64
                have hp2 : (p : Int) < 4294967296 := by
                  have := Kn.digit_lt (u := t) (d := d0) (v1 := v1) (v0 := v0) (by rw [← unhide HY]; exact htY) (by omega)
                  rw [← unhide HP] at this
                  omega
                go_wp2
                go_ret2
                exact ⟨ret_pair (by have := unhide HX2; omega) (rest_close (unhide HR) (unhide HX2) (unhide HS) (unhide HC)), 0, rfl⟩
              · go_wp2_with fail
                go_round
                case rel => exact ⟨p, r + v1, rfl, by rw [Int.natCast_add], by omega, hpb, HN⟩
                case measure => simp [intOf]; omega
            · have HP := hide (Kn.done (unhide HG1) (by omega) (by rw [← unhide Hm]; omega))
              clear HG1
              have e64 := Kn.whole u c Y pa t (by omega) (by rw [unhide HS]; have := unhide HC; omega)
              have HX2 : Hid (X = pa * 4294967296 + q) := hide (by
                rw [← unhide NQ, e64, unhide HP, ← unhide HY]
                have : c % 4294967296 = d0 := by have := unhide HC; omega
                rw [this])
              clear e64
              have hp2 : (q : Int) < 4294967296 := by
                have := Kn.digit_lt (u := t) (d := d0) (v1 := v1) (v0 := v0) (by rw [← unhide HY]; exact htY) (by omega)
                rw [← unhide HP] at this
                omega
              go_wp2
              go_ret2
              exact ⟨ret_pair (by have := unhide HX2; omega) (rest_close (unhide HR) (unhide HX2) (unhide HS) (unhide HC)), 0, rfl⟩
end Go.Proofs.Ytmepmmhhiphfiaa
