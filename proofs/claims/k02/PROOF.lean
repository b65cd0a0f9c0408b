import PyProof.Rows.All
import Wide.All
import OpenK.AllK
import Wide.FinOn
import HandS.ForMost
import HandS.Wide
import HandS.Style
import HandS.IsInst
import HandS.Steps
import HandS.Flow
import HandS.Codes
import PySem.Challenge.RW_gluewhole_k02_whole_moduli_and_shared_di
set_option Elab.async false
set_option linter.all false
set_option maxRecDepth 100000
set_option maxHeartbeats 4000000
namespace My
open PySem PySem.Spec PyProof.Rows L2

/-! ### own rules -/
def CDivB (_ j : Int) : Prop := j ≠ 0 ∧ j.natAbs.log2 < 9000
def CPowB (i j : Int) : Prop := 0 ≤ j ∧ (Builtin.Int.intBits i : Int) * j ≤ 2 ^ 27
section
variable {X : Cx}
theorem op_fdivB : OpR X (binaryOp .FloorDiv) (rI CDivB fun i j => .int (i.fdiv j)) := opI fun _ _ _ _ _ _ _ hc q => floordiv_int hc.1 q (.inl (PyProof.noPylong_of_log2 hc.2))
theorem op_powB : OpR X (binaryOp .Pow) (rI CPowB fun i j => .int (i ^ j.toNat)) := opI fun _ _ _ _ _ _ _ hc q => pow_int hc.1 hc.2 q
end
theorem divB {i j : Int} (h0 : j ≠ 0) (h : j.natAbs < 2 ^ 100) : CDivB i j := ⟨h0, Nat.lt_of_lt_of_le (PySem.Flt.log2_lt_of (by decide) h) (by decide)⟩
theorem iT {b : Bool} {A B : Prop} {i : Decidable (b = true)} (h : b = true) (q : A) : @ite Prop (b = true) i A B := by
  subst h
  exact (if_pos rfl).mpr q
theorem iF {b : Bool} {A B : Prop} {i : Decidable (b = true)} (h : b = false) (q : B) : @ite Prop (b = true) i A B := by
  subst h
  exact (if_neg Bool.false_ne_true).mpr q
theorem i2 {b : Bool} {A B : Prop} {i : Decidable (b = true)} (h1 : b = true → A) (h2 : b = false → B) : @ite Prop (b = true) i A B := by
  cases b with
  | true => exact iT rfl (h1 rfl)
  | false => exact iF rfl (h2 rfl)
theorem cutI {b : Bool} {A B : Prop} {i : Decidable (b = true)} (tail : B) (h : b = true → B → A) : @ite Prop (b = true) i A B := i2 (fun e => h e tail) (fun _ => tail)
theorem emodB (x n : Int) (h : 0 < n) (hn : n ≤ 2 ^ 63) : -(2 ^ 64) < x % n ∧ x % n < 2 ^ 64 := by
  have h1 := Int.emod_nonneg x (b := n) (by omega)
  have h2 := Int.emod_lt_of_pos x h
  omega
theorem at_of_lt {ns : List Int} {n : Int} (h0 : 0 ≤ n) (h : n < (ns.length : Int)) : ∃ z : Int, atI (ns.map V.int) n = some (.int z) := by
  have e : n = ((n.toNat : Nat) : Int) := by omega
  have hl : n.toNat < ns.length := by omega
  refine ⟨ns[n.toNat], at_of e ?_⟩
  rw [List.getElem?_map]
  simp [hl]
/-- all that stood, but at p, stands -/
def Wr (p : Addr) (H H' : Hp) : Prop := ∀ b o, b ≠ p → H b = some o → H' b = some o
theorem Wr.refl {p : Addr} {H : Hp} : Wr p H H := fun _ _ _ h => h
theorem Wr.trans {p : Addr} {H H1 H2 : Hp} (a : Wr p H H1) (b : Wr p H1 H2) : Wr p H H2 := fun c o n h => b c o n (a c o n h)
theorem Wr.upd {p : Addr} {H : Hp} {o : HO} : Wr p H (upd H p o) := fun b u n h => by rw [upd_ne n]; exact h
theorem Wr.new {p q : Addr} {H : Hp} {o : HO} (h : H q = none) : Wr p H (L2.upd H q o) := fun b u _ e => by rw [upd_ne (ne_of_none e h)]; exact e
theorem Wr.seq {K : PySem.W.Frag} {p a : Addr} {H H' : Hp} {xs : List V} (w : Wr p H H') (n : a ≠ p) (h : SqL K H a xs) : SqL K H' a xs := by
  rcases h with (h | ⟨o, h⟩) | h
  · exact .inl (.inl (w _ _ n h))
  · exact .inl (.inr ⟨o, w _ _ n h⟩)
  · exact .inr h
theorem sm {H : Hp} {q : Addr} {o : HO} (n : H q = none) : Same H (upd H q o) := fun b u e => by rw [upd_ne (ne_of_none e n)]; exact e
theorem seqW {K : PySem.W.Frag} {p a : Addr} {H H' : Hp} {xs : List V} (n : H p = none) (h : SqL K H a xs) (w : Wr p H H') : SqL K H' a xs := by
  rcases h with (h | ⟨o, h⟩) | h
  · exact .inl (.inl (w _ _ (ne_of_none h n) h))
  · exact .inl (.inr ⟨o, w _ _ (ne_of_none h n) h⟩)
  · exact .inr h
theorem dpi {K : PySem.W.Frag} {H : Hp} {i j : Int} (h : i = j) : Dp K H (.int i) (.int j) := by
  subst h
  exact .int i
def HatAt (H : Hp) (p : Addr) : Prop := ∃ x y z : Int, H p = some (.lst [.int x, .int y, .int z])
theorem HatAt.new {H : Hp} {p q : Addr} {o : HO} (h : HatAt H p) (n : H q = none) : HatAt (L2.upd H q o) p := by
  obtain ⟨x, y, z, e⟩ := h
  exact ⟨x, y, z, by rw [upd_ne (ne_of_none e n)]; exact e⟩
theorem HatAt.ne {H : Hp} {p q : Addr} (h : HatAt H p) (n : H q = none) : p ≠ q := by
  obtain ⟨x, y, z, e⟩ := h
  exact ne_of_none e n
def Isn (K : PySem.W.Frag) (H : Hp) (x : V) (b : Bool) : Prop := ∃ (n : String) (b1 b2 : Bool), TyX K H x (.type n) ∧ kitB n "int" = some b1 ∧ kitB n "bool" = some b2 ∧ b = (b1 && !b2)
theorem Isn.int {K : PySem.W.Frag} {H : Hp} (i : Int) : Isn K H (.int i) true := ⟨"int", true, false, .base (.int i), by decide +kernel, by decide +kernel, rfl⟩
theorem Isn.bl {K : PySem.W.Frag} {H : Hp} (b : Bool) : Isn K H (.bl b) false := ⟨"bool", true, true, .base (.bl b), by decide +kernel, by decide +kernel, rfl⟩
theorem Isn.non {K : PySem.W.Frag} {H : Hp} : Isn K H .non false := ⟨"NoneType", false, false, .base .non, by decide +kernel, by decide +kernel, rfl⟩
theorem Isn.str {K : PySem.W.Frag} {H : Hp} (x : Str) : Isn K H (.str x) false := ⟨"str", false, false, .base (.str x), by decide +kernel, by decide +kernel, rfl⟩
theorem Isn.lst {K : PySem.W.Frag} {H : Hp} {a : Addr} {xs : List V} (h : H a = some (.lst xs)) : Isn K H (.ref a) false := ⟨"list", false, false, .base (.lst h), by decide +kernel, by decide +kernel, rfl⟩
theorem Isn.tup {K : PySem.W.Frag} {H : Hp} {a : Addr} {xs : List V} (h : H a = some (.tup xs)) : Isn K H (.ref a) false := ⟨"tuple", false, false, .base (.tup h), by decide +kernel, by decide +kernel, rfl⟩

def top (i : Nat) : Stmt := PySem.Challenge.pw_gluewhole_k02_whole_moduli_and_shared_di.main.body.getD i (.Pass ⟨0, 0, 0, 0⟩)
abbrev s_bezout : Stmt := top 1
theorem sc_bezout : FnScope ["one", "other", "ahead", "behind", "u", "then", "many", "v"] ["one", "other"] (defScope s_bezout) := ⟨rfl, rfl, rfl, by decide +kernel, rfl, by decide +kernel, by decide +kernel⟩
abbrev s_is_long_integer : Stmt := top 6
theorem sc_is_long_integer : FnScope ["value"] ["value"] (defScope s_is_long_integer) := ⟨rfl, rfl, rfl, by decide +kernel, rfl, by decide +kernel, by decide +kernel⟩
abbrev s_is_integer : Stmt := top 7
theorem sc_is_integer : FnScope ["value"] ["value"] (defScope s_is_integer) := ⟨rfl, rfl, rfl, by decide +kernel, rfl, by decide +kernel, by decide +kernel⟩
abbrev s_check_integer : Stmt := top 8
theorem sc_check_integer : FnScope ["value"] ["value"] (defScope s_check_integer) := ⟨rfl, rfl, rfl, by decide +kernel, rfl, by decide +kernel, by decide +kernel⟩
abbrev s_check_least : Stmt := top 9
theorem sc_check_least : FnScope ["value", "least"] ["value", "least"] (defScope s_check_least) := ⟨rfl, rfl, rfl, by decide +kernel, rfl, by decide +kernel, by decide +kernel⟩
abbrev s_is_nought : Stmt := top 10
theorem sc_is_nought : FnScope ["value", "modulus"] ["value", "modulus"] (defScope s_is_nought) := ⟨rfl, rfl, rfl, by decide +kernel, rfl, by decide +kernel, by decide +kernel⟩
abbrev s_shared : Stmt := top 11
theorem sc_shared : FnScope ["one", "other"] ["one", "other"] (defScope s_shared) := ⟨rfl, rfl, rfl, by decide +kernel, rfl, by decide +kernel, by decide +kernel⟩
abbrev s_law_hat : Stmt := top 13
theorem sc_law_hat : FnScope ["script", "spot", "cell", "great", "seed"] ["script", "spot"] (defScope s_law_hat) := ⟨rfl, rfl, rfl, by decide +kernel, rfl, by decide +kernel, by decide +kernel⟩
abbrev s_law_up_to : Stmt := top 14
theorem sc_law_up_to : FnScope ["hat", "total", "found", "one", "two"] ["hat", "total"] (defScope s_law_up_to) := ⟨rfl, rfl, rfl, by decide +kernel, rfl, by decide +kernel, by decide +kernel⟩
abbrev s_law_out_of : Stmt := top 15
theorem sc_law_out_of : FnScope ["hat", "items"] ["hat", "items"] (defScope s_law_out_of) := ⟨rfl, rfl, rfl, by decide +kernel, rfl, by decide +kernel, by decide +kernel⟩
abbrev s_law_number : Stmt := top 16
theorem sc_law_number : FnScope ["hat"] ["hat"] (defScope s_law_number) := ⟨rfl, rfl, rfl, by decide +kernel, rfl, by decide +kernel, by decide +kernel⟩
abbrev s_law_shared : Stmt := top 17
theorem sc_law_shared : FnScope ["one", "other"] ["one", "other"] (defScope s_law_shared) := ⟨rfl, rfl, rfl, by decide +kernel, rfl, by decide +kernel, by decide +kernel⟩
abbrev s_law_jg_entry : Stmt := top 18
theorem sc_law_jg_entry : FnScope ["hat"] ["hat"] (defScope s_law_jg_entry) := ⟨rfl, rfl, rfl, by decide +kernel, rfl, by decide +kernel, by decide +kernel⟩
abbrev s_law_right : Stmt := top 19
theorem sc_law_right : FnScope ["hat", "one", "other", "modulus", "times", "is_due", "near", "left", "right", "told", "small", "more"] ["hat"] (defScope s_law_right) := ⟨rfl, rfl, rfl, by decide +kernel, rfl, by decide +kernel, by decide +kernel⟩
abbrev s_law : Stmt := top 20
theorem sc_law : FnScope ["script", "spot", "hat", "turn", "told"] ["script"] (defScope s_law) := ⟨rfl, rfl, rfl, by decide +kernel, rfl, by decide +kernel, by decide +kernel⟩
structure Txt (K : PySem.W.Frag) (mg : Str → Option Value) where
  a_bezout : Addr
  fd_bezout : FuncData
  F_bezout : Fun K "bezout" "bezout" s_bezout a_bezout fd_bezout
  m_bezout : mg "bezout" = some (.ref a_bezout)
  b_bezout : Binds K fd_bezout ["one", "other"] []
  a_is_long_integer : Addr
  fd_is_long_integer : FuncData
  F_is_long_integer : Fun K "is_long_integer" "is_long_integer" s_is_long_integer a_is_long_integer fd_is_long_integer
  m_is_long_integer : mg "is_long_integer" = some (.ref a_is_long_integer)
  b_is_long_integer : Binds K fd_is_long_integer ["value"] []
  a_is_integer : Addr
  fd_is_integer : FuncData
  F_is_integer : Fun K "is_integer" "is_integer" s_is_integer a_is_integer fd_is_integer
  m_is_integer : mg "is_integer" = some (.ref a_is_integer)
  b_is_integer : Binds K fd_is_integer ["value"] []
  a_check_integer : Addr
  fd_check_integer : FuncData
  F_check_integer : Fun K "check_integer" "check_integer" s_check_integer a_check_integer fd_check_integer
  m_check_integer : mg "check_integer" = some (.ref a_check_integer)
  b_check_integer : Binds K fd_check_integer ["value"] []
  a_check_least : Addr
  fd_check_least : FuncData
  F_check_least : Fun K "check_least" "check_least" s_check_least a_check_least fd_check_least
  m_check_least : mg "check_least" = some (.ref a_check_least)
  b_check_least : Binds K fd_check_least ["value", "least"] []
  a_is_nought : Addr
  fd_is_nought : FuncData
  F_is_nought : Fun K "is_nought" "is_nought" s_is_nought a_is_nought fd_is_nought
  m_is_nought : mg "is_nought" = some (.ref a_is_nought)
  b_is_nought : Binds K fd_is_nought ["value", "modulus"] []
  a_shared : Addr
  fd_shared : FuncData
  F_shared : Fun K "shared" "shared" s_shared a_shared fd_shared
  m_shared : mg "shared" = some (.ref a_shared)
  b_shared : Binds K fd_shared ["one", "other"] []
  a_law_hat : Addr
  fd_law_hat : FuncData
  F_law_hat : Fun K "_law_hat" "_law_hat" s_law_hat a_law_hat fd_law_hat
  m_law_hat : mg "_law_hat" = some (.ref a_law_hat)
  b_law_hat : Binds K fd_law_hat ["script", "spot"] []
  a_law_up_to : Addr
  fd_law_up_to : FuncData
  F_law_up_to : Fun K "_law_up_to" "_law_up_to" s_law_up_to a_law_up_to fd_law_up_to
  m_law_up_to : mg "_law_up_to" = some (.ref a_law_up_to)
  b_law_up_to : Binds K fd_law_up_to ["hat", "total"] []
  a_law_out_of : Addr
  fd_law_out_of : FuncData
  F_law_out_of : Fun K "_law_out_of" "_law_out_of" s_law_out_of a_law_out_of fd_law_out_of
  m_law_out_of : mg "_law_out_of" = some (.ref a_law_out_of)
  b_law_out_of : Binds K fd_law_out_of ["hat", "items"] []
  a_law_number : Addr
  fd_law_number : FuncData
  F_law_number : Fun K "_law_number" "_law_number" s_law_number a_law_number fd_law_number
  m_law_number : mg "_law_number" = some (.ref a_law_number)
  b_law_number : Binds K fd_law_number ["hat"] []
  a_law_shared : Addr
  fd_law_shared : FuncData
  F_law_shared : Fun K "_law_shared" "_law_shared" s_law_shared a_law_shared fd_law_shared
  m_law_shared : mg "_law_shared" = some (.ref a_law_shared)
  b_law_shared : Binds K fd_law_shared ["one", "other"] []
  a_law_jg_entry : Addr
  fd_law_jg_entry : FuncData
  F_law_jg_entry : Fun K "_law_jg_entry" "_law_jg_entry" s_law_jg_entry a_law_jg_entry fd_law_jg_entry
  m_law_jg_entry : mg "_law_jg_entry" = some (.ref a_law_jg_entry)
  b_law_jg_entry : Binds K fd_law_jg_entry ["hat"] []
  a_law_right : Addr
  fd_law_right : FuncData
  F_law_right : Fun K "_law_right" "_law_right" s_law_right a_law_right fd_law_right
  m_law_right : mg "_law_right" = some (.ref a_law_right)
  b_law_right : Binds K fd_law_right ["hat"] []
  a_law : Addr
  fd_law : FuncData
  F_law : Fun K "law" "law" s_law a_law fd_law
  m_law : mg "law" = some (.ref a_law)
  b_law : Binds K fd_law ["script"] []
  t_TOO_LONG : Tok
  c_TOO_LONG : mg "TOO_LONG" = some (.int 1000000000000 t_TOO_LONG)
  z_abs : mg "abs" = none
  z_bool : mg "bool" = none
  z_int : mg "int" = none
  z_isinstance : mg "isinstance" = none
  z_len : mg "len" = none
  z_max : mg "max" = none
  z_min : mg "min" = none
  z_range : mg "range" = none
  z_tuple : mg "tuple" = none

theorem gcd_step (A B : Int) : Int.gcd B (A - A.fdiv B * B) = Int.gcd A B := by
  have e : A - A.fdiv B * B = A + B * (-(A.fdiv B)) := by
    have h1 := Int.mul_neg B (A.fdiv B)
    have h2 := Int.mul_comm B (A.fdiv B)
    omega
  rw [e, Int.gcd_add_mul_left_right, Int.gcd_comm]
theorem fmod_lt (A B : Int) (h : B ≠ 0) : (A - A.fdiv B * B).natAbs < B.natAbs := by
  have e : A - A.fdiv B * B = A.fmod B := by
    have := Int.fdiv_mul_add_fmod A B
    omega
  rw [e]
  rcases Int.lt_or_gt_of_ne h with h | h
  · have h1 := Int.neg_fmod_neg (-A) (-B)
    rw [Int.neg_neg, Int.neg_neg] at h1
    have h2 := Int.fmod_nonneg_of_pos (-A) (b := -B) (by omega)
    have h3 := Int.fmod_lt_of_pos (-A) (b := -B) (by omega)
    omega
  · have h1 := Int.fmod_nonneg_of_pos A h
    have h2 := Int.fmod_lt_of_pos A h
    omega
theorem fdiv_abs (A B : Int) (h : B ≠ 0) : (A.fdiv B).natAbs ≤ A.natAbs + 1 := by
  have h1 := fmod_lt A B h
  have h2 : (A.fdiv B * B).natAbs = (A.fdiv B).natAbs * B.natAbs := Int.natAbs_mul _ _
  by_cases q : (A.fdiv B).natAbs ≤ A.natAbs + 1
  · exact q
  · exfalso
    have h3 : (A.natAbs + 2) * B.natAbs ≤ (A.fdiv B).natAbs * B.natAbs := Nat.mul_le_mul_right _ (by omega)
    have h4 : A.natAbs ≤ A.natAbs * B.natAbs := Nat.le_mul_of_pos_right _ (by omega)
    rw [Nat.add_mul] at h3
    omega
theorem gcd_mul (a b t : Int) (h : 0 ≤ t) : ((Int.gcd (a * t) (b * t) : Nat) : Int) = (Int.gcd a b : Nat) * t := by
  rw [Int.gcd_mul_right, Int.natCast_mul]
  congr 1
  omega
theorem gcd_abs (a b : Int) : Int.gcd (if a < 0 then -a else a) (if b < 0 then -b else b) = Int.gcd a b := by
  have e : ∀ x : Int, (if x < 0 then -x else x).natAbs = x.natAbs := fun x => by split <;> omega
  show Nat.gcd _ _ = Nat.gcd _ _
  rw [e, e]
theorem gcd_emod (A B : Int) : Int.gcd A (B % A) = Int.gcd A B := by
  rw [Int.emod_def, Int.gcd_sub_mul_left_right]
def WBez (a b : Int) (H0 : Hp) (m : Nat) (σ : L2.St) (H : Hp) : Prop := ∃ (A B U T : Int) (mm : Option V), H = H0 ∧ σ = [some (.int a), some (.int b), some (.int A), some (.int B), some (.int U), some (.int T), mm, none] ∧ m = B.natAbs ∧ A.natAbs < 2 ^ 60 ∧ B.natAbs < 2 ^ 60 ∧ Int.gcd A B = Int.gcd a b ∧ (∃ x, A = U * a + x * b) ∧ ∃ y, B = T * a + y * b
theorem bez_v {A U a b x : Int} (h : A = U * a + x * b) (hb : b ≠ 0) : (A - U * a).fdiv b = x := by
  have e : A - U * a = x * b := by omega
  rw [e]
  exact Int.mul_fdiv_cancel x hb

section
variable {P : Program} {w : World} {K : PySem.W.Frag} {mg : Str → Option Value} {base : Heap}
/-! ### bezout -/
def sp_bezout (_ : PySem.W.Frag) : Sp := fun vs H Q _ => ∃ a b : Int, vs = [.int a, .int b] ∧ a.natAbs < 2 ^ 60 ∧ b.natAbs < 2 ^ 60 ∧
  ∀ (u v : Int) (p : Addr) (H' : Hp), u * a + v * b = (Int.gcd a b : Nat) → Same H H' → H' p = some (.tup [.int u, .int v, .int (Int.gcd a b : Nat)]) → Q (.ref p) H'
set_option maxHeartbeats 4000000 in
theorem ok_bezout (T : Txt K mg) : FnOk P w K mg base CX0 1 T.a_bezout T.fd_bezout ["one", "other"] (sp_bezout K) := by
  refine T.F_bezout.ok sc_bezout (fun vs H Q E h => ?_) (fun cdv A outer s H vs Q E hr h => ?_)
  · obtain ⟨a, b, rfl, ha, hb, k⟩ := h
    rfl
  · obtain ⟨a, b, rfl, ha, hb, k⟩ := h
    have hu := hu_of hr
    refine ⟨_, (pss_cons (ps_par (i := 2) (j := 3) (by rfl) sc_bezout.nd rfl rfl (by decide) rfl rfl (pa_cons (pv 0) (pa_cons (pv 1) pa_nil)) (by rfl))
        (pss_cons (ps_asg (pe_tup (pa_cons pe_int (pa_cons pe_int pa_nil))) (pg_tup (by rfl) (pgs_cons (pg_name (i := 4) sc_bezout.nd rfl (Or.inl rfl)) (pgs_cons (pg_name (i := 5) sc_bezout.nd rfl (Or.inl rfl)) pgs_nil))))
        (pss_cons (ps_while PassesOwn.never (pt_cmp (pc_neI (pv 3) pe_int)) (pss_cons (ps_set (i := 6) sc_bezout.nd rfl (Or.inl rfl) (pe_op op_fdivB (pv 2) (pv 3)))
        (pss_cons (ps_par (i := 2) (j := 3) (by rfl) sc_bezout.nd rfl rfl (by decide) rfl rfl (pa_cons (pv 3) (pa_cons (pe_op op_sub (pv 2) (pe_op op_mul (pv 6) (pv 3))) pa_nil)) (by rfl))
        (pss_one (ps_par (i := 4) (j := 5) (by rfl) sc_bezout.nd rfl rfl (by decide) rfl rfl (pa_cons (pv 5) (pa_cons (pe_op op_sub (pv 4) (pe_op op_mul (pv 6) (pv 5))) pa_nil)) (by rfl))))))
        (pss_cons (ps_if (pt_cmp (pc_lt (pv 2) pe_int)) (pss_one (ps_par (i := 2) (j := 4) (by rfl) sc_bezout.nd rfl rfl (by decide) rfl rfl (pa_cons (pe_un un_neg (pv 2)) (pa_cons (pe_un un_neg (pv 4)) pa_nil)) (by rfl))) pss_nil)
        (pss_cons (ps_set (i := 7) sc_bezout.nd rfl (Or.inl rfl) (pe_ifExp (pt_cmp (pc_neI (pv 1) pe_int)) (pe_op op_fdivB (pe_op op_sub (pv 2) (pe_op op_mul (pv 4) (pv 0))) (pv 1)) pe_int))
        (pss_one (ps_ret (pe_tup (pa_cons (pv 4) (pa_cons (pv 7) (pa_cons (pv 2) pa_nil))))))))))), ?_⟩
    refine ⟨_, rfl, _, rfl, _, _, rfl, ?_⟩
    refine ⟨by show 2 ≤ sizeLine; decide, fun p0 hp0 => ?_⟩
    refine ⟨_, _, rfl, SqT.of upd_same, rfl, _, _, rfl, _, _, rfl, rfl, ?_⟩
    refine ⟨WBez a b _, ⟨_, a, b, 1, 0, none, rfl, rfl, rfl, ha, hb, rfl, ⟨0, by omega⟩, ⟨1, by omega⟩⟩, ?_⟩
    rintro m σ H' ⟨A, B, U, T, mm, rfl, rfl, rfl, hA, hB, hg, ⟨x, hx⟩, ⟨y, hy⟩⟩
    refine ⟨_, rfl, _, _, rfl, rfl, _, rfl, ?_⟩
    refine ite2 (fun hc => ?_) (fun hc => ?_)
    · have hB0 : B ≠ 0 := by simpa using hc
      have hq := fdiv_abs A B hB0
      have hm := fmod_lt A B hB0
      refine ⟨fun σ' H' => ∃ m', m' < B.natAbs ∧ WBez a b _ m' σ' H', fun _ _ z => z, ?_⟩
      refine ⟨_, rfl, _, rfl, _, _, rfl, rfl, divB hB0 (by omega), ?_⟩
      refine ⟨_, rfl, _, rfl, _, rfl, _, rfl, _, _, rfl, rfl, .inr ⟨by omega, by omega⟩, _, _, rfl, rfl, _, _, rfl, ?_⟩
      refine ⟨_, rfl, _, rfl, _, rfl, _, rfl, _, _, rfl, rfl, .inl ⟨by omega, by omega⟩, _, _, rfl, rfl, _, _, rfl, ?_⟩
      refine ⟨_, hm, B, _, T, _, _, rfl, rfl, rfl, hB, by omega, (gcd_step A B).trans hg, ⟨y, hy⟩, ⟨x - A.fdiv B * y, ?_⟩⟩
      rw [Int.sub_mul, Int.sub_mul, Int.mul_assoc, Int.mul_assoc]
      have h3 : A.fdiv B * B = A.fdiv B * (T * a) + A.fdiv B * (y * b) := by rw [← Int.mul_add, ← hy]
      omega
    · have hB0 : B = 0 := by simpa using hc
      subst hB0
      rw [Int.gcd_zero_right] at hg
      have s0 : ∀ {o}, Same H (upd H p0 o) := fun b o e => by rw [upd_ne (ne_of_none e hp0)]; exact e
      refine ⟨_, rfl, _, _, rfl, rfl, _, rfl, ?_⟩
      refine ite2 (fun hn => ?_) (fun hn => ?_)
      · have hn' : A < 0 := by simpa using hn
        refine ⟨_, rfl, _, rfl, _, rfl, _, rfl, _, _, rfl, ?_⟩
        refine ⟨_, rfl, _, _, rfl, rfl, _, rfl, ?_⟩
        refine ite2 (fun hb1 => ?_) (fun hb1 => ?_)
        · have hb0 : b ≠ 0 := by simpa using hb1
          have hx' : -A = -U * a + -x * b := by rw [Int.neg_mul, Int.neg_mul]; omega
          refine ⟨_, rfl, _, rfl, _, rfl, _, _, rfl, rfl, .inr ⟨by omega, by omega⟩, _, _, rfl, rfl, _, rfl, _, _, rfl, rfl, divB hb0 (by omega), ?_⟩
          refine ⟨_, rfl, _, rfl, _, rfl, by show 3 ≤ sizeLine; decide, fun p hp => ?_⟩
          have eg : -A = ((Int.gcd a b : Nat) : Int) := by omega
          dsimp only
          rw [bez_v hx' hb0, eg]
          exact k _ _ p _ (by omega) (s0.trans fun b o e => by rw [upd_ne (ne_of_none e hp)]; exact e) upd_same
        · have hb0 : b = 0 := by simpa using hb1
          refine ⟨_, rfl, _, rfl, _, rfl, by show 3 ≤ sizeLine; decide, fun p hp => ?_⟩
          have eg : -A = ((Int.gcd a b : Nat) : Int) := by omega
          dsimp only
          rw [eg]
          refine k _ _ p _ ?_ (s0.trans fun b o e => by rw [upd_ne (ne_of_none e hp)]; exact e) upd_same
          subst hb0
          rw [Int.mul_zero] at hx ⊢
          rw [Int.neg_mul]
          omega
      · have hn' : ¬ A < 0 := by simpa using hn
        refine ⟨_, rfl, _, _, rfl, rfl, _, rfl, ?_⟩
        refine ite2 (fun hb1 => ?_) (fun hb1 => ?_)
        · have hb0 : b ≠ 0 := by simpa using hb1
          refine ⟨_, rfl, _, rfl, _, rfl, _, _, rfl, rfl, .inr ⟨by omega, by omega⟩, _, _, rfl, rfl, _, rfl, _, _, rfl, rfl, divB hb0 (by omega), ?_⟩
          refine ⟨_, rfl, _, rfl, _, rfl, by show 3 ≤ sizeLine; decide, fun p hp => ?_⟩
          have eg : A = ((Int.gcd a b : Nat) : Int) := by omega
          dsimp only
          rw [bez_v hx hb0, eg]
          exact k _ _ p _ (by omega) (s0.trans fun b o e => by rw [upd_ne (ne_of_none e hp)]; exact e) upd_same
        · have hb0 : b = 0 := by simpa using hb1
          refine ⟨_, rfl, _, rfl, _, rfl, by show 3 ≤ sizeLine; decide, fun p hp => ?_⟩
          have eg : A = ((Int.gcd a b : Nat) : Int) := by omega
          dsimp only
          rw [eg]
          refine k _ _ p _ ?_ (s0.trans fun b o e => by rw [upd_ne (ne_of_none e hp)]; exact e) upd_same
          subst hb0
          rw [Int.mul_zero] at hx ⊢
          omega
/-! ### is_long_integer -/
def sp_is_long_integer (K : PySem.W.Frag) : Sp := fun vs H Q _ => ∃ x b, vs = [x] ∧ Isn K H x b ∧ Q (.bl b) H
set_option maxHeartbeats 4000000 in
theorem ok_is_long_integer (T : Txt K mg) : FnOk P w K mg base CX0 1 T.a_is_long_integer T.fd_is_long_integer ["value"] (sp_is_long_integer K) := by
  refine T.F_is_long_integer.ok sc_is_long_integer (fun vs H Q E h => ?_) (fun cdv A outer s H vs Q E hr h => ?_)
  · obtain ⟨x, b, rfl, ⟨n, b1, b2, ty, e1, e2, rfl⟩, k⟩ := h
    rfl
  · obtain ⟨x, b, rfl, ⟨n, b1, b2, ty, e1, e2, rfl⟩, k⟩ := h
    have hu := hu_of hr
    refine ⟨_, (pss_one (ps_ret (pe_and (pe_callB call_isi (by rfl) T.z_isinstance (by decide +kernel) (pa_cons (pv 0) (pa_cons (pe_bltn (v := .ty "int") (by rfl) T.z_int (by decide +kernel) rfl) pa_nil))) (pe_one (pe_not (pe_callB call_isi (by rfl) T.z_isinstance (by decide +kernel) (pa_cons (pv 0) (pa_cons (pe_bltn (v := .ty "bool") (by rfl) T.z_bool (by decide +kernel) rfl) pa_nil)))))))), ?_⟩
    refine ⟨_, rfl, _, _, _, _, b1, rfl, .ty _, ty, kit_ty e1, b1, rfl, ?_⟩
    cases b1 with
    | true => exact ⟨_, rfl, _, _, _, _, b2, rfl, .ty _, ty, kit_ty e2, b2, rfl, k⟩
    | false => exact k
/-! ### is_integer -/
def sp_is_integer (K : PySem.W.Frag) : Sp := fun vs H Q _ => ∃ x, vs = [x] ∧ ((∃ i, x = .int i ∧ Q (.bl (decide (i.natAbs < 1000000000000))) H) ∨ (Isn K H x false ∧ Q (.bl false) H))
set_option maxHeartbeats 4000000 in
theorem ok_is_integer (T : Txt K mg) : FnOk P w K mg base CX0 2 T.a_is_integer T.fd_is_integer ["value"] (sp_is_integer K) := by
  refine T.F_is_integer.ok sc_is_integer (fun vs H Q E h => ?_) (fun cdv A outer s H vs Q E hr h => ?_)
  · obtain ⟨x, rfl, k⟩ := h
    rfl
  · obtain ⟨x, rfl, k⟩ := h
    have hu := hu_of hr
    refine ⟨_, (pss_one (ps_ret (pe_and (pe_call (ok_is_long_integer T) (hr.mono (by decide)) (by rfl) T.m_is_long_integer T.F_is_long_integer.kp T.b_is_long_integer .nil pass0 (pa_cons (pv 0) pa_nil)) (pe_one (pe_cmp (pc_lt (pe_callB call_abs (by rfl) T.z_abs (by decide +kernel) (pa_cons (pv 0) pa_nil)) (pe_glob (v := .int 1000000000000) (by rfl) T.c_TOO_LONG ⟨_, rfl⟩))))))), ?_⟩
    rcases k with ⟨i, rfl, k⟩ | ⟨hn, k⟩
    · refine ⟨_, rfl, _, _, rfl, Isn.int i, true, rfl, ?_⟩
      refine ⟨_, rfl, _, rfl, _, _, rfl, rfl, ?_⟩
      have e : decide ((if i < 0 then -i else i) < 1000000000000) = decide (i.natAbs < 1000000000000) := by
        rw [decide_eq_decide]
        split <;> omega
      rw [← e] at k
      exact k
    · exact ⟨_, rfl, _, _, rfl, hn, false, rfl, k⟩
/-! ### check_integer -/
def sp_check_integer (_ : PySem.W.Frag) : Sp := fun vs H Q _ => ∃ i : Int, vs = [.int i] ∧ i.natAbs < 1000000000000 ∧ Q .non H
set_option maxHeartbeats 4000000 in
theorem ok_check_integer (T : Txt K mg) : FnOk P w K mg base CX0 3 T.a_check_integer T.fd_check_integer ["value"] (sp_check_integer K) := by
  refine T.F_check_integer.ok sc_check_integer (fun vs H Q E h => ?_) (fun cdv A outer s H vs Q E hr h => ?_)
  · obtain ⟨i, rfl, hi, k⟩ := h
    rfl
  · obtain ⟨i, rfl, hi, k⟩ := h
    have hu := hu_of hr
    refine ⟨_, (pss_one (ps_if (pt_not (pt_val (pe_call (ok_is_integer T) (hr.mono (by decide)) (by rfl) T.m_is_integer T.F_is_integer.kp T.b_is_integer .nil pass0 (pa_cons (pv 0) pa_nil)))) (pss_one ps_never) pss_nil)), ?_⟩
    refine ⟨_, rfl, _, rfl, .inl ⟨i, rfl, _, rfl, ?_⟩⟩
    rw [decide_eq_true hi]
    exact k
/-! ### check_least -/
def sp_check_least (_ : PySem.W.Frag) : Sp := fun vs H Q _ => ∃ i l : Int, vs = [.int i, .int l] ∧ i.natAbs < 1000000000000 ∧ l ≤ i ∧ Q .non H
set_option maxHeartbeats 4000000 in
theorem ok_check_least (T : Txt K mg) : FnOk P w K mg base CX0 3 T.a_check_least T.fd_check_least ["value", "least"] (sp_check_least K) := by
  refine T.F_check_least.ok sc_check_least (fun vs H Q E h => ?_) (fun cdv A outer s H vs Q E hr h => ?_)
  · obtain ⟨i, l, rfl, hi, hl, k⟩ := h
    rfl
  · obtain ⟨i, l, rfl, hi, hl, k⟩ := h
    have hu := hu_of hr
    refine ⟨_, (pss_one (ps_if (PW.pt (pw_or (pt_not (pt_val (pe_call (ok_is_integer T) (hr.mono (by decide)) (by rfl) T.m_is_integer T.F_is_integer.kp T.b_is_integer .nil pass0 (pa_cons (pv 0) pa_nil)))) (pw_or1 (pt_cmp (pc_lt (pv 0) (pv 1)))))) (pss_one ps_never) pss_nil)), ?_⟩
    refine ⟨_, rfl, _, rfl, .inl ⟨i, rfl, _, rfl, ?_⟩⟩
    rw [decide_eq_true hi]
    refine ⟨_, rfl, _, rfl, _, _, rfl, rfl, _, rfl, ?_⟩
    exact iF (decide_eq_false (show ¬ i < l by omega)) k
/-! ### is_nought -/
def NV (K : PySem.W.Frag) (H : Hp) (x : V) (m : Int) (b : Bool) : Prop := (∃ i : Int, x = .int i ∧ b = (decide (i.natAbs < 1000000000000) && (if m = 0 then decide (i = 0) else decide (i % m = 0)))) ∨ (Isn K H x false ∧ b = false)
def sp_is_nought (K : PySem.W.Frag) : Sp := fun vs H Q _ => ∃ x m b, vs = [x, .int m] ∧ 0 ≤ m ∧ m < 1000000000000 ∧ NV K H x m b ∧ Q (.bl b) H
set_option maxHeartbeats 4000000 in
theorem ok_is_nought (T : Txt K mg) : FnOk P w K mg base CX0 4 T.a_is_nought T.fd_is_nought ["value", "modulus"] (sp_is_nought K) := by
  refine T.F_is_nought.ok sc_is_nought (fun vs H Q E h => ?_) (fun cdv A outer s H vs Q E hr h => ?_)
  · obtain ⟨x, m, b, rfl, h0, h1, nv, k⟩ := h
    rfl
  · obtain ⟨x, m, b, rfl, h0, h1, nv, k⟩ := h
    have hu := hu_of hr
    refine ⟨_, (pss_cons (ps_expr (pe_call (ok_check_least T) (hr.mono (by decide)) (by rfl) T.m_check_least T.F_check_least.kp T.b_check_least .nil pass0 (pa_cons (pv 1) (pa_cons pe_int pa_nil))))
        (pss_cons (ps_if (pt_not (pt_val (pe_call (ok_is_integer T) (hr.mono (by decide)) (by rfl) T.m_is_integer T.F_is_integer.kp T.b_is_integer .nil pass0 (pa_cons (pv 0) pa_nil)))) (pss_one (ps_ret pe_bl)) pss_nil)
        (pss_one (ps_ret (pe_ifExp (pt_cmp (pc_eqI (pv 1) pe_int)) (pe_cmp (pc_eqI (pv 0) pe_int)) (pe_cmp (pc_eqI (pe_op op_mod (pv 0) (pv 1)) pe_int))))))), ?_⟩
    refine ⟨_, rfl, m, 0, rfl, by omega, h0, ?_⟩
    rcases nv with ⟨i, rfl, rfl⟩ | ⟨hn, rfl⟩
    · by_cases hi : i.natAbs < 1000000000000
      · refine ⟨_, rfl, _, rfl, .inl ⟨i, rfl, _, rfl, ?_⟩⟩
        rw [decide_eq_true hi] at k ⊢
        rw [Bool.true_and] at k
        refine ⟨_, rfl, _, _, rfl, rfl, _, rfl, ?_⟩
        by_cases hm : m = 0
        · rw [if_pos hm] at k
          exact iT (decide_eq_true hm) ⟨_, rfl, _, _, rfl, rfl, k⟩
        · rw [if_neg hm] at k
          exact iF (decide_eq_false hm) ⟨_, rfl, _, rfl, _, _, rfl, rfl, (by show 0 < m; omega), _, _, rfl, rfl, k⟩
      · refine ⟨_, rfl, _, rfl, .inl ⟨i, rfl, _, rfl, ?_⟩⟩
        rw [decide_eq_false hi] at k ⊢
        exact k
    · exact ⟨_, rfl, _, rfl, .inr ⟨hn, _, rfl, k⟩⟩
/-! ### shared -/
def sp_shared (_ : PySem.W.Frag) : Sp := fun vs H Q _ => ∃ a b : Int, vs = [.int a, .int b] ∧ a.natAbs < 1000000000000 ∧ b.natAbs < 1000000000000 ∧
  ∀ (u v : Int) (p : Addr) (H' : Hp), u * a + v * b = (Int.gcd a b : Nat) → Same H H' → H' p = some (.tup [.int u, .int v, .int (Int.gcd a b : Nat)]) → Q (.ref p) H'
set_option maxHeartbeats 4000000 in
theorem ok_shared (T : Txt K mg) : FnOk P w K mg base CX0 4 T.a_shared T.fd_shared ["one", "other"] (sp_shared K) := by
  refine T.F_shared.ok sc_shared (fun vs H Q E h => ?_) (fun cdv A outer s H vs Q E hr h => ?_)
  · obtain ⟨a, b, rfl, ha, hb, k⟩ := h
    rfl
  · obtain ⟨a, b, rfl, ha, hb, k⟩ := h
    have hu := hu_of hr
    refine ⟨_, (pss_cons (ps_expr (pe_call (ok_check_integer T) (hr.mono (by decide)) (by rfl) T.m_check_integer T.F_check_integer.kp T.b_check_integer .nil pass0 (pa_cons (pv 0) pa_nil)))
        (pss_cons (ps_expr (pe_call (ok_check_integer T) (hr.mono (by decide)) (by rfl) T.m_check_integer T.F_check_integer.kp T.b_check_integer .nil pass0 (pa_cons (pv 1) pa_nil)))
        (pss_one (ps_ret (pe_call (ok_bezout T) (hr.mono (by decide)) (by rfl) T.m_bezout T.F_bezout.kp T.b_bezout .nil pass0 (pa_cons (pv 0) (pa_cons (pv 1) pa_nil))))))), ?_⟩
    refine ⟨_, rfl, a, rfl, ha, ?_⟩
    refine ⟨_, rfl, b, rfl, hb, ?_⟩
    exact ⟨_, rfl, _, rfl, a, b, rfl, by omega, by omega, k⟩
/-! ### law_hat -/
def sp_law_hat (K : PySem.W.Frag) : Sp := fun vs H Q _ => ∃ (a : Addr) (ns : List Int) (n : Int), vs = [.ref a, .int n] ∧ SqL K H a (ns.map V.int) ∧ 0 ≤ n ∧ n < 100 ∧
  ∀ (p : Addr) (x y : Int), H p = none → Q (.ref p) (upd H p (.lst [.int x, .int y, .int 0]))
set_option maxHeartbeats 4000000 in
theorem ok_law_hat (T : Txt K mg) : FnOk P w K mg base CX0 1 T.a_law_hat T.fd_law_hat ["script", "spot"] (sp_law_hat K) := by
  refine T.F_law_hat.ok sc_law_hat (fun vs H Q E h => ?_) (fun cdv A outer s H vs Q E hr h => ?_)
  · obtain ⟨a, ns, n, rfl, hS, h0, h1, k⟩ := h
    rfl
  · obtain ⟨a, ns, n, rfl, hS, h0, h1, k⟩ := h
    have hu := hu_of hr
    refine ⟨_, (pss_cons (ps_set (i := 2) sc_law_hat.nd rfl (Or.inl rfl) (pe_ifExp (pt_cmp (pc_lt (pv 1) (pe_callB call_len_seq (by rfl) T.z_len (by decide +kernel) (pa_cons (pv 0) pa_nil)))) (pe_callTy call_int1 (by rfl) T.z_int (by decide +kernel) (pa_cons (pe_ix ix_list (pv 0) (pv 1) (fun _ _ => rfl)) pa_nil)) (pe_op op_add (pe_op op_mul pe_int (pv 1)) pe_int)))
        (pss_cons (ps_set (i := 3) sc_law_hat.nd rfl (Or.inl rfl) (pe_op op_mod (pe_callTy call_int1 (by rfl) T.z_int (by decide +kernel) (pa_cons (pe_callB call_abs (by rfl) T.z_abs (by decide +kernel) (pa_cons (pv 2) pa_nil)) pa_nil)) (pe_op op_powB (pe_op op_powB pe_int pe_int) pe_int)))
        (pss_cons (ps_set (i := 4) sc_law_hat.nd rfl (Or.inl rfl) (pe_callTy call_int1 (by rfl) T.z_int (by decide +kernel) (pa_cons (pe_op op_add (pe_op op_add (pe_op op_add (pe_op op_mul (pe_op op_mod (pv 3) pe_int) pe_int) (pe_op op_mul pe_int (pv 1))) (pe_op op_mul pe_int (pe_callTy call_int1 (by rfl) T.z_int (by decide +kernel) (pa_cons (pe_cmp (pc_lt (pv 2) pe_int)) pa_nil)))) pe_int) pa_nil)))
        (pss_one (ps_ret (pe_lst (pa_cons (pe_callB (call_max2 rfl) (by rfl) T.z_max (by decide +kernel) (pa_cons pe_int (pa_cons (pe_op op_sub (pv 3) (pe_op op_powB pe_int pe_int)) pa_nil))) (pa_cons (pe_op op_mod (pv 4) pe_int) (pa_cons pe_int pa_nil))))))))), ?_⟩
    refine ⟨_, rfl, _, rfl, a, _, rfl, .inl hS, _, _, rfl, rfl, _, rfl, i2 (fun hc => ?_) (fun _ => ⟨_, rfl, _, _, rfl, rfl, .inl ⟨by decide, by decide⟩, _, _, rfl, rfl, ?_⟩)⟩
    · have hc' := of_decide_eq_true hc
      rw [List.length_map] at hc'
      obtain ⟨z, hz⟩ := at_of_lt h0 hc'
      refine ⟨_, rfl, _, rfl, a, _, n, .int z, rfl, rfl, hS, hz, .inl ⟨_, rfl, ?_⟩⟩
      refine ⟨_, rfl, _, rfl, .inl ⟨_, rfl, _, _, rfl, rfl, ⟨by decide, by decide +kernel⟩, _, _, rfl, rfl, ⟨by decide, by decide +kernel⟩, _, _, rfl, rfl, by show (0 : Int) < (10 ^ (51 : Int).toNat) ^ (8 : Int).toNat; decide +kernel, ?_⟩⟩
      refine ⟨_, rfl, _, _, rfl, rfl, by show (0 : Int) < 2305843009213693907; decide, _, _, rfl, rfl, .inr ⟨by decide, by decide⟩, _, rfl, _, _, rfl, rfl, .inl ⟨by decide, by decide⟩, _, _, rfl, rfl, ?_⟩
      refine ⟨_, rfl, _, _, rfl, rfl, .inr ⟨_, rfl, _, _, rfl, rfl, .inl ⟨by decide, by decide⟩, _, _, rfl, rfl, _, _, rfl, rfl, .inl ⟨_, rfl, ?_⟩⟩⟩
      refine ⟨_, rfl, _, _, rfl, rfl, ⟨by decide, by decide +kernel⟩, _, _, rfl, rfl, _, _, rfl, _, rfl, _, _, rfl, rfl, by show (0 : Int) < 2305843009213693951; decide, by show 3 ≤ sizeLine; decide, fun p hp => ?_⟩
      exact k p _ _ hp
    · refine ⟨_, rfl, _, rfl, .inl ⟨_, rfl, _, _, rfl, rfl, ⟨by decide, by decide +kernel⟩, _, _, rfl, rfl, ⟨by decide, by decide +kernel⟩, _, _, rfl, rfl, by show (0 : Int) < (10 ^ (51 : Int).toNat) ^ (8 : Int).toNat; decide +kernel, ?_⟩⟩
      refine ⟨_, rfl, _, _, rfl, rfl, by show (0 : Int) < 2305843009213693907; decide, _, _, rfl, rfl, .inr ⟨by decide, by decide⟩, _, rfl, _, _, rfl, rfl, .inl ⟨by decide, by decide⟩, _, _, rfl, rfl, ?_⟩
      refine ⟨_, rfl, _, _, rfl, rfl, .inr ⟨_, rfl, _, _, rfl, rfl, .inl ⟨by decide, by decide⟩, _, _, rfl, rfl, _, _, rfl, rfl, .inl ⟨_, rfl, ?_⟩⟩⟩
      refine ⟨_, rfl, _, _, rfl, rfl, ⟨by decide, by decide +kernel⟩, _, _, rfl, rfl, _, _, rfl, _, rfl, _, _, rfl, rfl, by show (0 : Int) < 2305843009213693951; decide, by show 3 ≤ sizeLine; decide, fun p hp => ?_⟩
      exact k p _ _ hp
/-! ### law_up_to -/
def sp_law_up_to (_ : PySem.W.Frag) : Sp := fun vs H Q _ => ∃ (p : Addr) (n x y z : Int), vs = [.ref p, .int n] ∧ 0 < n ∧ n < 1000000000 ∧ H p = some (.lst [.int x, .int y, .int z]) ∧
  ∀ (r x' z' : Int), 0 ≤ r → r < n → Q (.int r) (upd H p (.lst [.int x', .int y, .int z']))
set_option maxHeartbeats 4000000 in
theorem ok_law_up_to (T : Txt K mg) : FnOk P w K mg base CX0 1 T.a_law_up_to T.fd_law_up_to ["hat", "total"] (sp_law_up_to K) := by
  refine T.F_law_up_to.ok sc_law_up_to (fun vs H Q E h => ?_) (fun cdv A outer s H vs Q E hr h => ?_)
  · obtain ⟨p, n, x, y, z, rfl, h0, h1, hp, k⟩ := h
    rfl
  · obtain ⟨p, n, x, y, z, rfl, h0, h1, hp, k⟩ := h
    have hu := hu_of hr
    refine ⟨_, (pss_cons (ps_if (pt_cmp (pc_gt (pe_ix ix_list (pv 0) pe_int (fun _ _ => rfl)) pe_int)) (pss_cons (ps_set (i := 2) sc_law_up_to.nd rfl (Or.inl rfl) (pe_op op_mod (pe_callTy call_int1 (by rfl) T.z_int (by decide +kernel) (pa_cons (pe_ix ix_list (pv 0) pe_int (fun _ _ => rfl)) pa_nil)) (pv 1)))
        (pss_cons (ps_asg (pe_op op_fdivB (pe_ix ix_list (pv 0) pe_int (fun _ _ => rfl)) (pv 1)) (pg_sub (pv 0) pe_int set_list))
        (pss_one (ps_ret (pv 2))))) pss_nil)
        (pss_cons (ps_asg (pe_op op_add (pe_ix ix_list (pv 0) pe_int (fun _ _ => rfl)) pe_int) (pg_sub (pv 0) pe_int set_list))
        (pss_cons (ps_set (i := 3) sc_law_up_to.nd rfl (Or.inl rfl) (pe_op op_mod (pe_callTy call_int1 (by rfl) T.z_int (by decide +kernel) (pa_cons (pe_op op_add (pe_ix ix_list (pv 0) pe_int (fun _ _ => rfl)) (pe_op op_mul pe_int (pe_ix ix_list (pv 0) pe_int (fun _ _ => rfl)))) pa_nil)) pe_int))
        (pss_cons (ps_set (i := 4) sc_law_up_to.nd rfl (Or.inl rfl) (pe_op op_add (pe_op op_add (pe_op op_mul (pe_op op_mod (pe_callTy call_int1 (by rfl) T.z_int (by decide +kernel) (pa_cons (pe_op op_add (pe_op op_mul (pv 3) (pv 3)) pe_int) pa_nil)) pe_int) pe_int) (pv 3)) (pe_op op_mul pe_int (pe_ix ix_list (pv 0) pe_int (fun _ _ => rfl)))))
        (pss_one (ps_ret (pe_op op_mod (pe_callTy call_int1 (by rfl) T.z_int (by decide +kernel) (pa_cons (pe_op op_fdivB (pv 4) pe_int) pa_nil)) (pv 1)))))))), ?_⟩
    refine ⟨_, rfl, p, _, 0, _, rfl, rfl, SqL.of hp, rfl, _, _, rfl, rfl, _, rfl, ?_⟩
    refine i2 (fun _ => ?_) (fun _ => ?_)
    · refine ⟨_, rfl, p, _, 0, _, rfl, rfl, SqL.of hp, rfl, .inl ⟨_, rfl, ?_⟩⟩
      refine ⟨_, rfl, _, _, rfl, rfl, h0, ?_⟩
      refine ⟨_, rfl, p, _, 0, _, rfl, rfl, SqL.of hp, rfl, _, rfl, _, _, rfl, rfl, divB (by omega) (by omega), ?_⟩
      refine ⟨_, rfl, p, _, _, 0, rfl, rfl, hp, rfl, ?_⟩
      exact ⟨_, rfl, k _ _ _ (Int.emod_nonneg _ (by omega)) (Int.emod_lt_of_pos _ h0)⟩
    · refine ⟨_, rfl, p, _, 2, _, rfl, rfl, SqL.of hp, rfl, _, _, rfl, rfl, ?_⟩
      refine ⟨_, rfl, p, _, _, 2, rfl, rfl, hp, rfl, ?_⟩
      have hp2 := upd_same (H := H) (a := p) (o := .lst [.int x, .int y, .int (z + 1)])
      refine ⟨_, rfl, p, _, 1, _, rfl, rfl, SqL.of hp2, rfl, _, rfl, p, _, 2, _, rfl, rfl, SqL.of hp2, rfl, _, _, rfl, rfl, .inl ⟨by decide, by decide⟩, _, _, rfl, rfl, .inl ⟨_, rfl, _, _, rfl, rfl, by show (0 : Int) < 2305843009213693951; decide, ?_⟩⟩
      refine ⟨_, rfl, _, rfl, _, _, rfl, rfl, .inl (emodB _ _ (by decide) (by decide)), _, _, rfl, rfl, .inl ⟨_, rfl, _, _, rfl, rfl, by show (0 : Int) < 2305843009213693921; decide, _, _, rfl, rfl, .inr ⟨by decide, by decide⟩, _, rfl, _, _, rfl, rfl, ?_⟩⟩
      refine ⟨_, rfl, p, _, 2, _, rfl, rfl, SqL.of hp2, rfl, _, _, rfl, rfl, .inl ⟨by decide, by decide⟩, _, _, rfl, rfl, ?_⟩
      refine ⟨_, rfl, _, _, rfl, rfl, divB (by decide) (by decide), .inl ⟨_, rfl, _, rfl, _, _, rfl, rfl, h0, ?_⟩⟩
      exact k _ _ _ (Int.emod_nonneg _ (by omega)) (Int.emod_lt_of_pos _ h0)
/-! ### law_out_of -/
def sp_law_out_of (K : PySem.W.Frag) : Sp := fun vs H Q _ => ∃ (p q : Addr) (xs : List V), vs = [.ref p, .ref q] ∧ HatAt H p ∧ SqL K H q xs ∧ q ≠ p ∧ 0 < xs.length ∧ xs.length < 1000 ∧
  ∀ (i : Nat) (x : V) (H' : Hp), xs[i]? = some x → HatAt H' p → Wr p H H' → Q x H'
set_option maxHeartbeats 4000000 in
theorem ok_law_out_of (T : Txt K mg) : FnOk P w K mg base CX0 2 T.a_law_out_of T.fd_law_out_of ["hat", "items"] (sp_law_out_of K) := by
  refine T.F_law_out_of.ok sc_law_out_of (fun vs H Q E h => ?_) (fun cdv A outer s H vs Q E hr h => ?_)
  · obtain ⟨p, q, xs, rfl, ⟨x, y, z, hp⟩, hq, nq, l0, l1, k⟩ := h
    rfl
  · obtain ⟨p, q, xs, rfl, ⟨x, y, z, hp⟩, hq, nq, l0, l1, k⟩ := h
    have hu := hu_of hr
    refine ⟨_, (pss_one (ps_ret (pe_ix ix_list (pv 1) (pe_call (ok_law_up_to T) (hr.mono (by decide)) (by rfl) T.m_law_up_to T.F_law_up_to.kp T.b_law_up_to .nil pass0 (pa_cons (pv 0) (pa_cons (pe_callB call_len_seq (by rfl) T.z_len (by decide +kernel) (pa_cons (pv 1) pa_nil)) pa_nil))) (fun _ _ => rfl)))), ?_⟩
    refine ⟨_, rfl, _, rfl, _, rfl, q, xs, rfl, .inl hq, ?_⟩
    refine ⟨p, _, x, y, z, rfl, by omega, by omega, hp, fun r x' z' r0 r1 => ?_⟩
    have hl : r.toNat < xs.length := by omega
    have e : r = ((r.toNat : Nat) : Int) := by omega
    refine ⟨q, xs, r, xs[r.toNat], rfl, rfl, Wr.upd.seq nq hq, ?_, ?_⟩
    · exact at_of e (by simp [hl])
    · exact k r.toNat _ _ (by simp [hl]) ⟨_, _, _, upd_same⟩ Wr.upd
/-! ### law_number -/
def sp_law_number (_ : PySem.W.Frag) : Sp := fun vs H Q _ => ∃ (p : Addr), vs = [.ref p] ∧ HatAt H p ∧ ∀ (i : Int) (H' : Hp), -3 ≤ i → i ≤ 3 → HatAt H' p → Wr p H H' → Q (.int i) H'
set_option maxHeartbeats 4000000 in
theorem ok_law_number (T : Txt K mg) : FnOk P w K mg base CX0 3 T.a_law_number T.fd_law_number ["hat"] (sp_law_number K) := by
  refine T.F_law_number.ok sc_law_number (fun vs H Q E h => ?_) (fun cdv A outer s H vs Q E hr h => ?_)
  · obtain ⟨p, rfl, hp, k⟩ := h
    rfl
  · obtain ⟨p, rfl, hp, k⟩ := h
    have hu := hu_of hr
    refine ⟨_, (pss_one (ps_ret (pe_call (ok_law_out_of T) (hr.mono (by decide)) (by rfl) T.m_law_out_of T.F_law_out_of.kp T.b_law_out_of .nil pass0 (pa_cons (pv 0) (pa_cons (pe_lst (pa_cons (pe_un un_neg pe_int) (pa_cons (pe_un un_neg pe_int) (pa_cons (pe_un un_neg pe_int) (pa_cons pe_int (pa_cons pe_int (pa_cons pe_int (pa_cons pe_int (pa_cons pe_int pa_nil))))))))) pa_nil))))), ?_⟩
    refine ⟨_, rfl, _, rfl, _, rfl, _, rfl, by show 8 ≤ sizeLine; decide, fun q hq => ?_⟩
    refine ⟨p, q, _, rfl, hp.new hq, SqL.of upd_same, (hp.ne hq).symm, by decide, by decide, fun i x H' hx ha hw => ?_⟩
    have hm := List.mem_of_getElem? hx
    simp only [List.mem_cons, List.not_mem_nil, or_false] at hm
    rcases hm with rfl | rfl | rfl | rfl | rfl | rfl | rfl | rfl <;> exact k _ _ (by decide) (by decide) ha ((Wr.new hq).trans hw)
/-! ### law_shared -/
def sp_law_shared (_ : PySem.W.Frag) : Sp := fun vs H Q _ => ∃ a b : Int, vs = [.int a, .int b] ∧ Q (.int (Int.gcd a b : Nat)) H
set_option maxHeartbeats 4000000 in
theorem ok_law_shared (T : Txt K mg) : FnOk P w K mg base CX0 1 T.a_law_shared T.fd_law_shared ["one", "other"] (sp_law_shared K) := by
  refine T.F_law_shared.ok sc_law_shared (fun vs H Q E h => ?_) (fun cdv A outer s H vs Q E hr h => ?_)
  · obtain ⟨a, b, rfl, k⟩ := h
    rfl
  · obtain ⟨a, b, rfl, k⟩ := h
    have hu := hu_of hr
    refine ⟨_, (pss_cons (ps_par (i := 0) (j := 1) (by rfl) sc_law_shared.nd rfl rfl (by decide) rfl rfl (pa_cons (pe_callB call_abs (by rfl) T.z_abs (by decide +kernel) (pa_cons (pv 0) pa_nil)) (pa_cons (pe_callB call_abs (by rfl) T.z_abs (by decide +kernel) (pa_cons (pv 1) pa_nil)) pa_nil)) (by rfl))
        (pss_cons (ps_while PassesOwn.never (pt_cmp (pc_neI (pv 1) pe_int)) (pss_one (ps_par (i := 0) (j := 1) (by rfl) sc_law_shared.nd rfl rfl (by decide) rfl rfl (pa_cons (pv 1) (pa_cons (pe_op op_mod (pv 0) (pv 1)) pa_nil)) (by rfl))))
        (pss_one (ps_ret (pv 0))))), ?_⟩
    refine ⟨_, rfl, _, rfl, _, rfl, _, rfl, _, _, rfl, ?_⟩
    refine ⟨fun m σ H' => ∃ A B : Int, H' = H ∧ σ = [some (.int A), some (.int B)] ∧ m = B.natAbs ∧ 0 ≤ A ∧ 0 ≤ B ∧ Int.gcd A B = Int.gcd a b, ⟨_, _, _, rfl, rfl, rfl, by split <;> omega, by split <;> omega, gcd_abs a b⟩, ?_⟩
    rintro m σ H' ⟨A, B, rfl, rfl, rfl, hA, hB, hg⟩
    refine ⟨_, rfl, _, _, rfl, rfl, _, rfl, i2 (fun hc => ?_) (fun hc => ?_)⟩
    · have hB0 : B ≠ 0 := by simpa using hc
      have hBp : 0 < B := by omega
      refine ⟨_, fun _ _ z => z, ?_⟩
      refine ⟨_, rfl, _, rfl, _, rfl, _, _, rfl, rfl, hBp, _, _, rfl, ?_⟩
      have h1 := Int.emod_nonneg A hB0
      have h2 := Int.emod_lt_of_pos A hBp
      refine ⟨_, ?_, _, _, rfl, rfl, rfl, hB, h1, ?_⟩
      · show (A % B).natAbs < B.natAbs
        omega
      · rw [← hg, Int.gcd_comm A B]
        exact (gcd_emod B A)
    · have hB0 : B = 0 := by simpa using hc
      subst hB0
      rw [Int.gcd_zero_right] at hg
      have e : A = ((Int.gcd a b : Nat) : Int) := by omega
      refine ⟨_, rfl, ?_⟩
      rw [e]
      exact k
/-! ### law_jg_entry -/
def sp_law_jg_entry (_ : PySem.W.Frag) : Sp := fun vs H Q _ => ∃ (p : Addr), vs = [.ref p] ∧ HatAt H p ∧ ∀ (i : Int) (H' : Hp), i.natAbs < 1000000000000 → HatAt H' p → Wr p H H' → Q (.int i) H'
set_option maxHeartbeats 4000000 in
theorem ok_law_jg_entry (T : Txt K mg) : FnOk P w K mg base CX0 3 T.a_law_jg_entry T.fd_law_jg_entry ["hat"] (sp_law_jg_entry K) := by
  refine T.F_law_jg_entry.ok sc_law_jg_entry (fun vs H Q E h => ?_) (fun cdv A outer s H vs Q E hr h => ?_)
  · obtain ⟨p, rfl, hp, k⟩ := h
    rfl
  · obtain ⟨p, rfl, hp, k⟩ := h
    have hu := hu_of hr
    refine ⟨_, (pss_one (ps_ret (pe_call (ok_law_out_of T) (hr.mono (by decide)) (by rfl) T.m_law_out_of T.F_law_out_of.kp T.b_law_out_of .nil pass0 (pa_cons (pv 0) (pa_cons (pe_lst (pa_cons pe_int (pa_cons pe_int (pa_cons pe_int (pa_cons (pe_un un_neg pe_int) (pa_cons pe_int (pa_cons (pe_un un_neg pe_int) (pa_cons pe_int (pa_cons (pe_op op_sub (pe_op op_powB pe_int pe_int) pe_int) (pa_cons (pe_op op_sub pe_int (pe_op op_powB pe_int pe_int)) (pa_cons (pe_op op_sub (pe_call (ok_law_up_to T) (hr.mono (by decide)) (by rfl) T.m_law_up_to T.F_law_up_to.kp T.b_law_up_to .nil pass0 (pa_cons (pv 0) (pa_cons (pe_op op_powB pe_int pe_int) pa_nil))) pe_int) pa_nil))))))))))) pa_nil))))), ?_⟩
    refine ⟨_, rfl, _, rfl, _, rfl, _, _, rfl, rfl, ⟨by decide, by decide +kernel⟩, _, _, rfl, rfl, _, _, rfl, rfl, ⟨by decide, by decide +kernel⟩, _, _, rfl, rfl, ?_⟩
    refine ⟨_, rfl, _, _, rfl, rfl, ⟨by decide, by decide +kernel⟩, ?_⟩
    have hp0 := hp
    obtain ⟨x, y, z, e⟩ := hp
    refine ⟨p, _, x, y, z, rfl, by decide, by decide, e, fun r x' z' r0 r1 => ⟨_, _, rfl, rfl, by show 10 ≤ sizeLine; decide, fun q hq => ?_⟩⟩
    have h1 : HatAt (upd H p (.lst [.int x', .int y, .int z'])) p := ⟨_, _, _, upd_same⟩
    have r1' : r < 1000000 := r1
    refine ⟨p, q, _, rfl, h1.new hq, SqL.of upd_same, (h1.ne hq).symm, by show 0 < 10; decide, by show 10 < 1000; decide, fun i x H' hx ha hw => ?_⟩
    have hm := List.mem_of_getElem? hx
    have hw' : Wr p H H' := (Wr.upd.trans (Wr.new hq)).trans hw
    simp only [List.mem_cons, List.not_mem_nil, or_false] at hm
    rcases hm with rfl | rfl | rfl | rfl | rfl | rfl | rfl | rfl | rfl | rfl
    all_goals first
      | exact k _ _ (by decide +kernel) ha hw'
      | (refine k _ _ ?_ ha hw'
         show (r - 500000).natAbs < 1000000000000
         omega)
/-! ### law_right -/
def sp_law_right (_ : PySem.W.Frag) : Sp := fun vs H Q _ => ∃ (p : Addr), vs = [.ref p] ∧ HatAt H p ∧ ∀ (H' : Hp), HatAt H' p → Wr p H H' → Q (.bl true) H'
set_option maxHeartbeats 4000000 in
theorem ok_law_right (T : Txt K mg) : FnOk P w K mg base CX0 5 T.a_law_right T.fd_law_right ["hat"] (sp_law_right K) := by
  refine T.F_law_right.ok sc_law_right (fun vs H Q E h => ?_) (fun cdv A outer s H vs Q E hr h => ?_)
  · obtain ⟨p, rfl, hp, k⟩ := h
    rfl
  · obtain ⟨p, rfl, hp, k⟩ := h
    have hu := hu_of hr
    refine ⟨_, (pss_cons (ps_par (i := 1) (j := 2) (by rfl) sc_law_right.nd rfl rfl (by decide) rfl rfl (pa_cons (pe_call (ok_law_jg_entry T) (hr.mono (by decide)) (by rfl) T.m_law_jg_entry T.F_law_jg_entry.kp T.b_law_jg_entry .nil pass0 (pa_cons (pv 0) pa_nil)) (pa_cons (pe_call (ok_law_jg_entry T) (hr.mono (by decide)) (by rfl) T.m_law_jg_entry T.F_law_jg_entry.kp T.b_law_jg_entry .nil pass0 (pa_cons (pv 0) pa_nil)) pa_nil)) (by rfl))
        (pss_cons (ps_set (i := 3) sc_law_right.nd rfl (Or.inl rfl) (pe_callB call_abs (by rfl) T.z_abs (by decide +kernel) (pa_cons (pe_call (ok_law_jg_entry T) (hr.mono (by decide)) (by rfl) T.m_law_jg_entry T.F_law_jg_entry.kp T.b_law_jg_entry .nil pass0 (pa_cons (pv 0) pa_nil)) pa_nil)))
        (pss_cons (ps_par (i := 4) (j := 5) (by rfl) sc_law_right.nd rfl rfl (by decide) rfl rfl (pa_cons (pe_call (ok_law_out_of T) (hr.mono (by decide)) (by rfl) T.m_law_out_of T.F_law_out_of.kp T.b_law_out_of .nil pass0 (pa_cons (pv 0) (pa_cons (pe_lst (pa_cons pe_int (pa_cons pe_int (pa_cons pe_int (pa_cons pe_int (pa_cons pe_int pa_nil)))))) pa_nil))) (pa_cons (pe_cmp (pc_eqI (pv 1) pe_int)) pa_nil)) (by rfl))
        (C8.pss_cut (ps_if (pt_cmp (pc_gt (pv 3) pe_int)) (pss_one (ps_set (i := 5) sc_law_right.nd rfl (Or.inl rfl) (pe_cmp (pc_eqI (pe_op op_mod (pe_callB call_abs (by rfl) T.z_abs (by decide +kernel) (pa_cons (pv 1) pa_nil)) (pv 3)) pe_int)))) pss_nil)
        (pss_cons (ps_if (PW.pt (pw_or (pt_cmpR op_ne (pe_call (ok_is_nought T) (hr.mono (by decide)) (by rfl) T.m_is_nought T.F_is_nought.kp T.b_is_nought .nil pass0 (pa_cons (pv 1) (pa_cons (pv 3) pa_nil))) (pv 5) (nomark _)) (pw_or1 (pt_not (pt_val (pe_call (ok_is_nought T) (hr.mono (by decide)) (by rfl) T.m_is_nought T.F_is_nought.kp T.b_is_nought .nil pass0 (pa_cons pe_int (pa_cons (pv 3) pa_nil)))))))) (pss_one (ps_ret pe_bl)) pss_nil)
        (pss_cons (ps_set (i := 6) sc_law_right.nd rfl (Or.inl rfl) (pe_call (ok_law_out_of T) (hr.mono (by decide)) (by rfl) T.m_law_out_of T.F_law_out_of.kp T.b_law_out_of .nil pass0 (pa_cons (pv 0) (pa_cons (pe_lst (pa_cons pe_bl (pa_cons pe_bl (pa_cons pe_non (pa_cons pe_str (pa_cons (pe_tup (pa_cons pe_int pa_nil)) (pa_cons (pe_lst pa_nil) (pa_cons (pe_op op_powB pe_int pe_int) (pa_cons (pe_op op_sub pe_int (pe_op op_powB pe_int pe_int)) pa_nil))))))))) pa_nil))))
        (pss_cons (ps_if (PW.pt (pw_or (pt_val (pe_call (ok_is_nought T) (hr.mono (by decide)) (by rfl) T.m_is_nought T.F_is_nought.kp T.b_is_nought .nil pass0 (pa_cons (pv 6) (pa_cons (pv 3) pa_nil)))) (pw_or1 (pt_cmpR op_notBl (pe_call (ok_is_nought T) (hr.mono (by decide)) (by rfl) T.m_is_nought T.F_is_nought.kp T.b_is_nought .nil pass0 (pa_cons (pv 3) (pa_cons (pv 3) pa_nil))) pe_bl (nomark _))))) (pss_one (ps_ret pe_bl)) pss_nil)
        (pss_cons (ps_if (PW.pt (pw_and (pt_cmp (pc_lt (pe_callB call_abs (by rfl) T.z_abs (by decide +kernel) (pa_cons (pe_op op_mul (pv 3) (pv 4)) pa_nil)) (pe_op op_powB pe_int pe_int))) (pw_and1 (pt_cmpR op_notBl (pe_call (ok_is_nought T) (hr.mono (by decide)) (by rfl) T.m_is_nought T.F_is_nought.kp T.b_is_nought .nil pass0 (pa_cons (pe_op op_mul (pv 3) (pv 4)) (pa_cons (pv 3) pa_nil))) pe_bl (nomark _))))) (pss_one (ps_ret pe_bl)) pss_nil)
        (pss_cons (ps_for PassesOwn.never rfl (pi_tup (pe_tup (pa_cons (pe_tup (pa_cons (pv 1) (pa_cons (pv 2) pa_nil))) (pa_cons (pe_tup (pa_cons (pv 2) (pa_cons (pv 1) pa_nil))) (pa_cons (pe_tup (pa_cons (pe_op op_sub pe_int (pv 1)) (pa_cons (pv 2) pa_nil))) (pa_cons (pe_tup (pa_cons (pv 1) (pa_cons (pe_op op_sub pe_int (pv 2)) pa_nil))) (pa_cons (pe_tup (pa_cons (pv 1) (pa_cons pe_int pa_nil))) (pa_cons (pe_tup (pa_cons pe_int (pa_cons (pv 2) pa_nil))) (pa_cons (pe_tup (pa_cons (pv 1) (pa_cons (pv 1) pa_nil))) pa_nil))))))))) (pg_tup (by rfl) (pgs_cons (pg_name (i := 7) sc_law_right.nd rfl (Or.inl rfl)) (pgs_cons (pg_name (i := 8) sc_law_right.nd rfl (Or.inl rfl)) pgs_nil))) (pss_cons (ps_set (i := 9) sc_law_right.nd rfl (Or.inl rfl) (pe_call (ok_shared T) (hr.mono (by decide)) (by rfl) T.m_shared T.F_shared.kp T.b_shared .nil pass0 (pa_cons (pv 7) (pa_cons (pv 8) pa_nil))))
        (pss_cons (ps_if (PW.pt (pw_or (pt_not (pt_val (pe_callB call_isi (by rfl) T.z_isinstance (by decide +kernel) (pa_cons (pv 9) (pa_cons (pe_bltn (v := .ty "tuple") (by rfl) T.z_tuple (by decide +kernel) rfl) pa_nil))))) (pw_or (pt_cmp (pc_neI (pe_callB call_len_seq (by rfl) T.z_len (by decide +kernel) (pa_cons (pv 9) pa_nil)) pe_int)) (pw_or1 (pt_cmp (pc_neI (pe_op op_add (pe_op op_mul (pe_ix ix_tup (pv 9) pe_int (fun _ _ => rfl)) (pv 7)) (pe_op op_mul (pe_ix ix_tup (pv 9) pe_int (fun _ _ => rfl)) (pv 8))) (pe_ix ix_tup (pv 9) pe_int (fun _ _ => rfl)))))))) (pss_one (ps_ret pe_bl)) pss_nil)
        (pss_one (ps_if (pt_cmp (pc_neI (pe_ix ix_tup (pv 9) pe_int (fun _ _ => rfl)) (pe_call (ok_law_shared T) (hr.mono (by decide)) (by rfl) T.m_law_shared T.F_law_shared.kp T.b_law_shared .nil pass0 (pa_cons (pv 7) (pa_cons (pv 8) pa_nil))))) (pss_one (ps_ret pe_bl)) pss_nil)))))
        (pss_cons (ps_par (i := 10) (j := 11) (by rfl) sc_law_right.nd rfl rfl (by decide) rfl rfl (pa_cons (pe_call (ok_law_number T) (hr.mono (by decide)) (by rfl) T.m_law_number T.F_law_number.kp T.b_law_number .nil pass0 (pa_cons (pv 0) pa_nil)) (pa_cons (pe_call (ok_law_number T) (hr.mono (by decide)) (by rfl) T.m_law_number T.F_law_number.kp T.b_law_number .nil pass0 (pa_cons (pv 0) pa_nil)) pa_nil)) (by rfl))
        (pss_one (ps_ret (pe_cmp (pc_eqI (pe_ix ix_tup (pe_call (ok_shared T) (hr.mono (by decide)) (by rfl) T.m_shared T.F_shared.kp T.b_shared .nil pass0 (pa_cons (pe_op op_mul (pv 10) (pv 4)) (pa_cons (pe_op op_mul (pv 11) (pv 4)) pa_nil))) pe_int (fun _ _ => rfl)) (pe_op op_mul (pe_ix ix_tup (pe_call (ok_shared T) (hr.mono (by decide)) (by rfl) T.m_shared T.F_shared.kp T.b_shared .nil pass0 (pa_cons (pv 10) (pa_cons (pv 11) pa_nil))) pe_int (fun _ _ => rfl)) (pv 4)))))))))))))))), ?_⟩
    refine ⟨_, rfl, p, rfl, hp, fun a H1 ha hp1 w1 => ⟨_, rfl, p, rfl, hp1, fun b H2 hb hp2 w2 => ⟨_, _, rfl, ?_⟩⟩⟩
    refine ⟨_, rfl, p, rfl, hp2, fun c H3 hc hp3 w3 => ⟨_, rfl, ?_⟩⟩
    have hm0 : 0 ≤ (if c < 0 then -c else c) := by split <;> omega
    have hm1 : (if c < 0 then -c else c) < 1000000000000 := by split <;> omega
    generalize (if c < 0 then -c else c) = m at hm0 hm1 ⊢
    refine ⟨_, rfl, by show 5 ≤ sizeLine; decide, fun q hq => ?_⟩
    refine ⟨p, q, _, rfl, hp3.new hq, SqL.of upd_same, (hp3.ne hq).symm, by decide, by decide, fun i x H4 hx hp4 w4 => ⟨_, rfl, _, _, rfl, rfl, _, _, rfl, ?_⟩⟩
    obtain ⟨t, rfl, ht⟩ : ∃ t : Int, x = .int t ∧ (t = 1 ∨ t = 2 ∨ t = 3 ∨ t = 10 ∨ t = 999) := by
      have hm := List.mem_of_getElem? hx
      simp only [List.mem_cons, List.not_mem_nil, or_false] at hm
      rcases hm with rfl | rfl | rfl | rfl | rfl <;> exact ⟨_, rfl, by decide⟩
    have w4' : Wr p H H4 := (((w1.trans w2).trans w3).trans (Wr.new hq)).trans w4
    clear w1 w2 w3 w4 hp hp1 hp2 hp3 hx hq
    refine ⟨fun σ H' => H' = H4 ∧ σ = [some (.ref p), some (.int a), some (.int b), some (.int m), some (.int t), some (.bl (if m = 0 then decide (a = 0) else decide (a % m = 0))), none, none, none, none, none, none], ?_, ?_⟩
    · refine ⟨_, rfl, _, _, rfl, rfl, _, rfl, i2 (fun h => ?_) (fun h => ?_)⟩
      · have hm : 0 < m := of_decide_eq_true h
        refine ⟨_, rfl, _, rfl, _, rfl, _, _, rfl, rfl, hm, _, _, rfl, rfl, rfl, ?_⟩
        have e1 : decide ((if a < 0 then -a else a) % m = 0) = decide (a % m = 0) := by
          rw [decide_eq_decide]
          constructor
          · intro h
            have d := Int.dvd_of_emod_eq_zero h
            refine Int.emod_eq_zero_of_dvd ?_
            split at d
            · exact (Int.dvd_neg).mp d
            · exact d
          · intro h
            have d := Int.dvd_of_emod_eq_zero h
            refine Int.emod_eq_zero_of_dvd ?_
            split
            · exact (Int.dvd_neg).mpr d
            · exact d
        rw [if_neg (show ¬ m = 0 by omega), ← e1]
        rfl
      · have hm : ¬ 0 < m := of_decide_eq_false h
        refine ⟨rfl, ?_⟩
        rw [if_pos (show m = 0 by omega)]
        rfl
    rintro σ H' ⟨rfl, rfl⟩
    refine ⟨_, rfl, _, rfl, .int a, m, _, rfl, hm0, hm1, .inl ⟨a, rfl, rfl⟩, ?_⟩
    rw [decide_eq_true ha, Bool.true_and]
    refine ⟨_, rfl, rfl, _, rfl, iF (by simp) ?_⟩
    refine ⟨_, rfl, .int 0, m, _, rfl, hm0, hm1, .inl ⟨0, rfl, rfl⟩, ?_⟩
    refine ⟨_, rfl, iF (by simp) ?_⟩
    refine ⟨_, rfl, by show 1 ≤ sizeLine; decide, fun t0 ht0 => ⟨by show 0 ≤ sizeLine; decide, fun l0 hl0 => ?_⟩⟩
    refine ⟨_, _, rfl, rfl, ⟨by decide, by decide +kernel⟩, _, _, rfl, rfl, ⟨by decide, by decide +kernel⟩, _, _, rfl, rfl, by show 8 ≤ sizeLine; decide, fun q hq => ?_⟩
    have hq0 := (hp4.new ht0).new (o := .lst []) hl0
    refine ⟨p, q, _, rfl, hq0.new hq, SqL.of upd_same, (hq0.ne hq).symm, by show 0 < 8; decide, by show 8 < 1000; decide, fun i x H5 hx hp5 w5 => ?_⟩
    have npt : t0 ≠ p := (hp4.ne ht0).symm
    have npl : l0 ≠ p := ((hp4.new ht0).ne hl0).symm
    have nlt : l0 ≠ t0 := fun e => by rw [e, upd_same] at hl0; cases hl0
    have nqt : t0 ≠ q := fun e => by rw [← e, upd_ne nlt.symm, upd_same] at hq; cases hq
    have nql : l0 ≠ q := fun e => by rw [← e, upd_same] at hq; cases hq
    have ht5 : H5 t0 = some (.tup [.int 0]) := w5 _ _ npt (by rw [upd_ne nqt, upd_ne nlt.symm, upd_same])
    have hl5 : H5 l0 = some (.lst []) := w5 _ _ npl (by rw [upd_ne nql, upd_same])
    have nv : NV K H5 x m false := by
      have hm := List.mem_of_getElem? hx
      simp only [List.mem_cons, List.not_mem_nil, or_false] at hm
      rcases hm with rfl | rfl | rfl | rfl | rfl | rfl | rfl | rfl
      · exact .inr ⟨.bl _, rfl⟩
      · exact .inr ⟨.bl _, rfl⟩
      · exact .inr ⟨.non, rfl⟩
      · exact .inr ⟨.str _, rfl⟩
      · exact .inr ⟨.tup ht5, rfl⟩
      · exact .inr ⟨.lst hl5, rfl⟩
      · exact .inl ⟨_, rfl, by rw [decide_eq_false (by decide +kernel)]; rfl⟩
      · exact .inl ⟨_, rfl, by rw [decide_eq_false (by decide +kernel)]; rfl⟩
    have w5' : Wr p H H5 := ((((w4'.trans (Wr.new ht0)).trans (Wr.new hl0)).trans (Wr.new hq))).trans w5
    clear w5 ht5 hl5 nql nqt nlt npl npt hq0 hq hl0 ht0 hx w4' hp4
    have selfN : (if m = 0 then decide (m = 0) else decide (m % m = 0)) = true := by
      by_cases e : m = 0
      · rw [if_pos e, decide_eq_true e]
      · rw [if_neg e, Int.emod_self, decide_eq_true rfl]
    refine ⟨_, rfl, _, rfl, x, m, _, rfl, hm0, hm1, nv, _, rfl, iF rfl ?_⟩
    refine ⟨_, rfl, _, rfl, .int m, m, _, rfl, hm0, hm1, .inl ⟨m, rfl, rfl⟩, ?_⟩
    rw [decide_eq_true (show m.natAbs < 1000000000000 by omega), Bool.true_and, selfN]
    refine ⟨_, _, rfl, rfl, _, rfl, iF rfl ?_⟩
    have ht9 : 0 ≤ t ∧ t ≤ 999 := by omega
    refine ⟨_, rfl, _, rfl, _, _, rfl, rfl, .inl ⟨by omega, by omega⟩, _, rfl, _, _, rfl, rfl, ⟨by decide, by decide +kernel⟩, _, _, rfl, rfl, _, rfl, cutI ?_ (fun hc tail => ?_)⟩
    rotate_left
    · have hc' := of_decide_eq_true hc
      have hmt : 0 ≤ m * t := Int.mul_nonneg hm0 ht9.1
      have hmt2 : (m * t).natAbs < 1000000000000 := by
        have e12 : (10 : Int) ^ (12 : Int).toNat = 1000000000000 := by decide +kernel
        rw [e12, if_neg (by omega)] at hc'
        omega
      refine ⟨_, rfl, _, rfl, _, _, rfl, rfl, .inl ⟨by omega, by omega⟩, _, rfl, .int (m * t), m, _, rfl, hm0, hm1, .inl ⟨m * t, rfl, rfl⟩, ?_⟩
      have mulN : (if m = 0 then decide (m * t = 0) else decide (m * t % m = 0)) = true := by
        by_cases e : m = 0
        · rw [if_pos e, e, Int.zero_mul, decide_eq_true rfl]
        · rw [if_neg e, Int.mul_emod_right, decide_eq_true rfl]
      rw [decide_eq_true hmt2, Bool.true_and, mulN]
      exact ⟨_, _, rfl, rfl, _, rfl, iF rfl tail⟩
    refine iF rfl ?_
    refine ⟨_, rfl, _, rfl, by show 2 ≤ sizeLine; decide, fun t1 n1 => ⟨_, rfl, _, rfl, by show 2 ≤ sizeLine; decide, fun t2 n2 => ?_⟩⟩
    refine ⟨_, rfl, _, _, rfl, rfl, _, rfl, by show 2 ≤ sizeLine; decide, fun t3 n3 => ⟨_, rfl, _, rfl, _, _, rfl, rfl, by show 2 ≤ sizeLine; decide, fun t4 n4 => ?_⟩⟩
    refine ⟨_, rfl, by show 2 ≤ sizeLine; decide, fun t5 n5 => ⟨_, rfl, by show 2 ≤ sizeLine; decide, fun t6 n6 => ⟨_, rfl, _, rfl, by show 2 ≤ sizeLine; decide, fun t7 n7 => ?_⟩⟩⟩
    refine ⟨by show 7 ≤ sizeLine; decide, fun tt nt => ?_⟩
    generalize hH6 : upd _ tt _ = H6
    have e6 : H6 tt = some (.tup [.ref t1, .ref t2, .ref t3, .ref t4, .ref t5, .ref t6, .ref t7]) := by rw [← hH6, upd_same]
    have f7 : H6 t7 = some (.tup [.int a, .int a]) := by rw [← hH6]; exact sm nt _ _ upd_same
    have f6 : H6 t6 = some (.tup [.int 0, .int b]) := by rw [← hH6]; exact sm nt _ _ (sm n7 _ _ upd_same)
    have f5 : H6 t5 = some (.tup [.int a, .int 0]) := by rw [← hH6]; exact sm nt _ _ (sm n7 _ _ (sm n6 _ _ upd_same))
    have f4 : H6 t4 = some (.tup [.int a, .int (0 - b)]) := by rw [← hH6]; exact sm nt _ _ (sm n7 _ _ (sm n6 _ _ (sm n5 _ _ upd_same)))
    have f3 : H6 t3 = some (.tup [.int (0 - a), .int b]) := by rw [← hH6]; exact sm nt _ _ (sm n7 _ _ (sm n6 _ _ (sm n5 _ _ (sm n4 _ _ upd_same))))
    have f2 : H6 t2 = some (.tup [.int b, .int a]) := by rw [← hH6]; exact sm nt _ _ (sm n7 _ _ (sm n6 _ _ (sm n5 _ _ (sm n4 _ _ (sm n3 _ _ upd_same)))))
    have f1 : H6 t1 = some (.tup [.int a, .int b]) := by rw [← hH6]; exact sm nt _ _ (sm n7 _ _ (sm n6 _ _ (sm n5 _ _ (sm n4 _ _ (sm n3 _ _ (sm n2 _ _ upd_same))))))
    have s6 : Same H5 H6 := by rw [← hH6]; exact fun b o e => sm nt _ _ (sm n7 _ _ (sm n6 _ _ (sm n5 _ _ (sm n4 _ _ (sm n3 _ _ (sm n2 _ _ (sm n1 _ _ e)))))))
    have all : ∀ (i : Nat) (x : V), ([.ref t1, .ref t2, .ref t3, .ref t4, .ref t5, .ref t6, .ref t7] : List V)[i]? = some x → ∃ (t : Addr) (l r : Int), x = .ref t ∧ H6 t = some (.tup [.int l, .int r]) ∧ l.natAbs < 1000000000000 ∧ r.natAbs < 1000000000000 := by
      intro i x hx
      have hm := List.mem_of_getElem? hx
      simp only [List.mem_cons, List.not_mem_nil, or_false] at hm
      rcases hm with rfl | rfl | rfl | rfl | rfl | rfl | rfl
      · exact ⟨_, _, _, rfl, f1, by omega, by omega⟩
      · exact ⟨_, _, _, rfl, f2, by omega, by omega⟩
      · exact ⟨_, _, _, rfl, f3, by omega, by omega⟩
      · exact ⟨_, _, _, rfl, f4, by omega, by omega⟩
      · exact ⟨_, _, _, rfl, f5, by omega, by omega⟩
      · exact ⟨_, _, _, rfl, f6, by omega, by omega⟩
      · exact ⟨_, _, _, rfl, f7, by omega, by omega⟩
    clear f1 f2 f3 f4 f5 f6 f7 hH6 n1 n2 n3 n4 n5 n6 n7 nt
    refine ⟨tt, rfl, ⟨_, SqT.of e6⟩, for_tup (K := K) (a := tt) (xs := [.ref t1, .ref t2, .ref t3, .ref t4, .ref t5, .ref t6, .ref t7]) (fun i σ H' => ∃ (v1 v2 v3 v0 : Option V), σ = [some (.ref p), some (.int a), some (.int b), some (.int m), some (.int t), some (.bl (if m = 0 then decide (a = 0) else decide (a % m = 0))), v0, v1, v2, v3, none, none] ∧ Same H6 H')
      ⟨_, _, _, _, rfl, Same.refl _⟩ (fun i σ H' _ ⟨_, _, _, _, _, e⟩ => SqT.of (e _ _ e6)) ?_ ?_⟩
    · rintro i x σ H' hi ⟨v1, v2, v3, v0, rfl, sH⟩
      obtain ⟨tx, l, r, rfl, fx, hl, hr'⟩ := all i x hi
      refine ⟨tx, _, rfl, SqT.of (sH _ _ fx), rfl, _, _, rfl, _, _, rfl, rfl, ?_⟩
      refine ⟨_, rfl, _, rfl, l, r, rfl, hl, hr', fun u v q H7 e s7 hq => ?_⟩
      refine ⟨_, rfl, _, _, _, _, true, rfl, .ty _, .base (.tup hq), kit_ty (by decide +kernel), _, rfl, iF rfl ?_⟩
      refine ⟨_, rfl, q, _, rfl, .inr (SqT.of hq), _, _, rfl, rfl, _, rfl, iF rfl ?_⟩
      refine ⟨_, rfl, q, _, 0, _, rfl, rfl, SqT.of hq, rfl, _, rfl, _, _, rfl, rfl, .inr ⟨by omega, by omega⟩, ?_⟩
      refine ⟨_, rfl, q, _, 1, _, rfl, rfl, SqT.of hq, rfl, _, rfl, _, _, rfl, rfl, .inr ⟨by omega, by omega⟩, _, _, rfl, rfl, ?_⟩
      refine ⟨_, rfl, q, _, 2, _, rfl, rfl, SqT.of hq, rfl, _, _, rfl, rfl, _, rfl, iF (by simp [e]) ?_⟩
      refine ⟨_, rfl, q, _, 2, _, rfl, rfl, SqT.of hq, rfl, _, rfl, _, rfl, l, r, rfl, _, _, rfl, rfl, _, rfl, iF (by simp) ?_⟩
      exact ⟨_, _, _, _, rfl, sH.trans s7⟩
    rintro σ H7 ⟨v1, v2, v3, v0, rfl, sH⟩
    have hp7 : HatAt H7 p := by
      obtain ⟨x, y, z, e⟩ := hp5
      exact ⟨x, y, z, sH _ _ (s6 _ _ e)⟩
    have w7 : Wr p H H7 := w5'.trans fun b o _ e => sH _ _ (s6 _ _ e)
    refine ⟨_, rfl, p, rfl, hp7, fun sm' H8 a1 a2 hp8 w8 => ⟨_, rfl, p, rfl, hp8, fun mo H9 b1 b2 hp9 w9 => ⟨_, _, rfl, ?_⟩⟩⟩
    have q1 : (sm' * t).natAbs < 1000000000000 := by
      rcases ht with rfl | rfl | rfl | rfl | rfl <;> omega
    have q2 : (mo * t).natAbs < 1000000000000 := by
      rcases ht with rfl | rfl | rfl | rfl | rfl <;> omega
    refine ⟨_, rfl, _, rfl, _, _, rfl, rfl, .inl ⟨by omega, by omega⟩, _, rfl, _, rfl, _, _, rfl, rfl, .inl ⟨by omega, by omega⟩, _, _, rfl, q1, q2, fun u v q HA e sA hq => ?_⟩
    refine ⟨q, _, 2, _, rfl, rfl, SqT.of hq, rfl, ?_⟩
    refine ⟨_, rfl, _, rfl, _, _, rfl, by omega, by omega, fun u2 v2 q' HB e2 sB hq2 => ?_⟩
    refine ⟨q', _, 2, _, rfl, rfl, SqT.of hq2, rfl, _, rfl, _, _, rfl, rfl, .inr ⟨by omega, by omega⟩, _, _, rfl, rfl, ?_⟩
    have eg := gcd_mul sm' mo t ht9.1
    have wl : Wr p H HB := ((w7.trans w8).trans w9).trans fun b o _ e => sB _ _ (sA _ _ e)
    have hpB : HatAt HB p := by
      obtain ⟨x, y, z, e⟩ := hp9
      exact ⟨x, y, z, sB _ _ (sA _ _ e)⟩
    have fin := k HB hpB wl
    rw [← decide_eq_true eg] at fin
    exact fin
/-! ### law -/
def sp_law (K : PySem.W.Frag) : Sp := fun vs H Q _ => ∃ (a : Addr) (ns : List Int), vs = [.ref a] ∧ SqL K H a (ns.map V.int) ∧ ns.length ≤ 63 ∧ ∀ H', Q (.bl true) H'
set_option maxHeartbeats 4000000 in
theorem ok_law (T : Txt K mg) : FnOk P w K mg base CX0 6 T.a_law T.fd_law ["script"] (sp_law K) := by
  refine T.F_law.ok sc_law (fun vs H Q E h => ?_) (fun cdv A outer s H vs Q E hr h => ?_)
  · obtain ⟨a, ns, rfl, hS, hlen, k⟩ := h
    rfl
  · obtain ⟨a, ns, rfl, hS, hlen, k⟩ := h
    have hu := hu_of hr
    refine ⟨_, (pss_cons (ps_for PassesOwn.never rfl (pi_range1 (by rfl) T.z_range (pa_cons (pe_callB (call_max2 rfl) (by rfl) T.z_max (by decide +kernel) (pa_cons pe_int (pa_cons (pe_callB (call_min2 rfl) (by rfl) T.z_min (by decide +kernel) (pa_cons pe_int (pa_cons (pe_callB call_len_seq (by rfl) T.z_len (by decide +kernel) (pa_cons (pv 0) pa_nil)) pa_nil))) pa_nil))) pa_nil)) (pg_name (i := 1) sc_law.nd rfl (Or.inl rfl)) (pss_cons (ps_set (i := 2) sc_law.nd rfl (Or.inl rfl) (pe_call (ok_law_hat T) (hr.mono (by decide)) (by rfl) T.m_law_hat T.F_law_hat.kp T.b_law_hat .nil pass0 (pa_cons (pv 0) (pa_cons (pv 1) pa_nil))))
        (pss_one (ps_for PassesOwn.never rfl (pi_range1 (by rfl) T.z_range (pa_cons pe_int pa_nil)) (pg_name (i := 3) sc_law.nd rfl (Or.inl rfl)) (pss_one (ps_if (pt_not (pt_val (pe_call (ok_law_right T) (hr.mono (by decide)) (by rfl) T.m_law_right T.F_law_right.kp T.b_law_right .nil pass0 (pa_cons (pv 2) pa_nil)))) (pss_one (ps_ret pe_bl)) pss_nil))))))
        (pss_cons (ps_set (i := 4) sc_law.nd rfl (Or.inl rfl) (pe_lst (pa_cons (pe_call (ok_is_nought T) (hr.mono (by decide)) (by rfl) T.m_is_nought T.F_is_nought.kp T.b_is_nought .nil pass0 (pa_cons pe_int (pa_cons pe_int pa_nil))) (pa_cons (pe_call (ok_is_nought T) (hr.mono (by decide)) (by rfl) T.m_is_nought T.F_is_nought.kp T.b_is_nought .nil pass0 (pa_cons (pe_un un_neg pe_int) (pa_cons pe_int pa_nil))) (pa_cons (pe_call (ok_is_nought T) (hr.mono (by decide)) (by rfl) T.m_is_nought T.F_is_nought.kp T.b_is_nought .nil pass0 (pa_cons pe_int (pa_cons pe_int pa_nil))) (pa_cons (pe_call (ok_is_nought T) (hr.mono (by decide)) (by rfl) T.m_is_nought T.F_is_nought.kp T.b_is_nought .nil pass0 (pa_cons pe_int (pa_cons pe_int pa_nil))) (pa_cons (pe_call (ok_is_nought T) (hr.mono (by decide)) (by rfl) T.m_is_nought T.F_is_nought.kp T.b_is_nought .nil pass0 (pa_cons pe_int (pa_cons pe_int pa_nil))) (pa_cons (pe_call (ok_is_nought T) (hr.mono (by decide)) (by rfl) T.m_is_nought T.F_is_nought.kp T.b_is_nought .nil pass0 (pa_cons pe_int (pa_cons pe_int pa_nil))) (pa_cons (pe_call (ok_is_nought T) (hr.mono (by decide)) (by rfl) T.m_is_nought T.F_is_nought.kp T.b_is_nought .nil pass0 (pa_cons pe_bl (pa_cons pe_int pa_nil))) pa_nil)))))))))
        (pss_cons (ps_if (pt_cmpR (op_neD hr.units) (pv 4) (pe_lst (pa_cons pe_bl (pa_cons pe_bl (pa_cons pe_bl (pa_cons pe_bl (pa_cons pe_bl (pa_cons pe_bl (pa_cons pe_bl pa_nil)))))))) (nomark _)) (pss_one (ps_ret pe_bl)) pss_nil)
        (pss_one (ps_ret (pe_cmpR (op_eqD hr.units) (pe_lst (pa_cons (pe_ix ix_tup (pe_call (ok_shared T) (hr.mono (by decide)) (by rfl) T.m_shared T.F_shared.kp T.b_shared .nil pass0 (pa_cons pe_int (pa_cons (pe_un un_neg pe_int) pa_nil))) pe_int (fun _ _ => rfl)) (pa_cons (pe_ix ix_tup (pe_call (ok_shared T) (hr.mono (by decide)) (by rfl) T.m_shared T.F_shared.kp T.b_shared .nil pass0 (pa_cons pe_int (pa_cons pe_int pa_nil))) pe_int (fun _ _ => rfl)) (pa_cons (pe_ix ix_tup (pe_call (ok_shared T) (hr.mono (by decide)) (by rfl) T.m_shared T.F_shared.kp T.b_shared .nil pass0 (pa_cons (pe_un un_neg pe_int) (pa_cons pe_int pa_nil))) pe_int (fun _ _ => rfl)) (pa_cons (pe_ix ix_tup (pe_call (ok_shared T) (hr.mono (by decide)) (by rfl) T.m_shared T.F_shared.kp T.b_shared .nil pass0 (pa_cons (pe_op op_sub (pe_op op_powB pe_int pe_int) pe_int) (pa_cons (pe_op op_add (pe_op op_powB pe_int pe_int) pe_int) pa_nil))) pe_int (fun _ _ => rfl)) pa_nil))))) (pe_lst (pa_cons pe_int (pa_cons pe_int (pa_cons pe_int (pa_cons (pe_op op_add (pe_op op_powB pe_int pe_int) pe_int) pa_nil))))) (nomark _))))))), ?_⟩
    refine ⟨_, rfl, a, _, rfl, .inl hS, _, _, rfl, _, _, rfl, ?_⟩
    have hb1 : (if (if (((ns.map V.int).length : Nat) : Int) < 4 then (((ns.map V.int).length : Nat) : Int) else 4) > 1 then (if (((ns.map V.int).length : Nat) : Int) < 4 then (((ns.map V.int).length : Nat) : Int) else 4) else 1) ≤ (4 : Int) := by
      split <;> first | omega | (split <;> omega)
    have hb0 : (1 : Int) ≤ (if (if (((ns.map V.int).length : Nat) : Int) < 4 then (((ns.map V.int).length : Nat) : Int) else 4) > 1 then (if (((ns.map V.int).length : Nat) : Int) < 4 then (((ns.map V.int).length : Nat) : Int) else 4) else 1) := by
      split <;> omega
    generalize (if (if (((ns.map V.int).length : Nat) : Int) < 4 then (((ns.map V.int).length : Nat) : Int) else 4) > 1 then (if (((ns.map V.int).length : Nat) : Int) < 4 then (((ns.map V.int).length : Nat) : Int) else 4) else 1) = n at hb0 hb1 ⊢
    refine ⟨n, rfl, by omega, by omega, for_range (fun i σ H' => ∃ (v1 v2 v3 : Option V), σ = [some (.ref a), v1, v2, v3, none] ∧ SqL K H' a (ns.map V.int)) ⟨_, _, _, rfl, hS⟩ ?_ ?_⟩
    · rintro i σ H' hi ⟨v1, v2, v3, rfl, hS'⟩
      refine ⟨_, rfl, _, rfl, a, ns, _, rfl, hS', by omega, by omega, fun p x y hp => ?_⟩
      refine ⟨5, rfl, by decide, by decide, for_range (n := 5) (fun j σ2 H2 => ∃ (v5 : Option V), σ2 = [some (.ref a), some (.int (0 + (i : Int))), some (.ref p), v5, none] ∧ HatAt H2 p ∧ Wr p H' H2) ⟨_, rfl, ⟨_, _, _, upd_same⟩, Wr.upd⟩ ?_ ?_⟩
      · rintro j σ2 H2 hj ⟨v5, rfl, hat, w⟩
        refine ⟨_, rfl, p, rfl, hat, fun H3 hat3 w3 => ⟨_, rfl, iF rfl ?_⟩⟩
        exact ⟨_, rfl, hat3, w.trans w3⟩
      · rintro σ2 H2 ⟨v5, rfl, hat, w⟩
        exact ⟨_, _, _, rfl, seqW hp hS' w⟩
    · rintro σ H' ⟨v1, v2, v3, rfl, hS'⟩
      have nv : ∀ (H : Hp) (i m : Int), i.natAbs < 1000000000000 → NV K H (.int i) m (if m = 0 then decide (i = 0) else decide (i % m = 0)) := fun H i m h => .inl ⟨i, rfl, by rw [decide_eq_true h, Bool.true_and]⟩
      refine ⟨.int 12, 6, _, rfl, by decide, by decide, nv _ _ _ (by decide), ?_⟩
      refine ⟨_, rfl, .int (-12), 6, _, rfl, by decide, by decide, nv _ _ _ (by decide), ?_⟩
      refine ⟨.int 13, 6, _, rfl, by decide, by decide, nv _ _ _ (by decide), ?_⟩
      refine ⟨.int 0, 0, _, rfl, by decide, by decide, nv _ _ _ (by decide), ?_⟩
      refine ⟨.int 6, 0, _, rfl, by decide, by decide, nv _ _ _ (by decide), ?_⟩
      refine ⟨.int 5, 1, _, rfl, by decide, by decide, nv _ _ _ (by decide), ?_⟩
      refine ⟨.bl true, 1, _, rfl, by decide, by decide, .inr ⟨.bl _, rfl⟩, by show 7 ≤ sizeLine; decide, fun q hq => ?_⟩
      refine ⟨_, rfl, by show 7 ≤ sizeLine; decide, fun q2 hq2 => ?_⟩
      refine ⟨.list [.bool true, .bool true, .bool false, .bool true, .bool false, .bool true, .bool false], .list [.bool true, .bool true, .bool false, .bool true, .bool false, .bool true, .bool false],
        .lst (SqL.of (sm hq2 _ _ upd_same)) (.cons (.bl _) (.cons (.bl _) (.cons (.bl _) (.cons (.bl _) (.cons (.bl _) (.cons (.bl _) (.cons (.bl _) .nil))))))),
        .lst (SqL.of upd_same) (.cons (.bl _) (.cons (.bl _) (.cons (.bl _) (.cons (.bl _) (.cons (.bl _) (.cons (.bl _) (.cons (.bl _) .nil))))))), by decide +kernel, by decide +kernel, _, rfl, iF (by decide +kernel) ?_⟩
      refine ⟨_, rfl, 12, -18, rfl, by decide, by decide, fun u1 w1 p1 H1 e1 s1 h1 => ⟨p1, _, 2, _, rfl, rfl, SqT.of h1, rfl, ?_⟩⟩
      refine ⟨0, 0, rfl, by decide, by decide, fun u2 w2 p2 H2 e2 s2 h2 => ⟨p2, _, 2, _, rfl, rfl, SqT.of h2, rfl, ?_⟩⟩
      refine ⟨_, rfl, -7, 0, rfl, by decide, by decide, fun u3 w3 p3 H3 e3 s3 h3 => ⟨p3, _, 2, _, rfl, rfl, SqT.of h3, rfl, ?_⟩⟩
      refine ⟨_, _, rfl, rfl, ⟨by decide, by decide +kernel⟩, _, _, rfl, rfl, _, _, rfl, rfl, ⟨by decide, by decide +kernel⟩, _, _, rfl, rfl, _, _, rfl, by decide +kernel, by decide +kernel, fun u4 w4 p4 H4 e4 s4 h4 => ⟨p4, _, 2, _, rfl, rfl, SqT.of h4, rfl, ?_⟩⟩
      refine ⟨by show 4 ≤ sizeLine; decide, fun q3 hq3 => ?_⟩
      refine ⟨_, _, rfl, rfl, ⟨by decide, by decide +kernel⟩, _, _, rfl, rfl, by show 4 ≤ sizeLine; decide, fun q4 hq4 => ?_⟩
      refine ⟨.list [.int 6, .int 0, .int 7, .int 1000001], .list [.int 6, .int 0, .int 7, .int 1000001],
        .lst (SqL.of (sm hq4 _ _ upd_same)) (.cons (dpi (by decide +kernel)) (.cons (dpi (by decide +kernel)) (.cons (dpi (by decide +kernel)) (.cons (dpi (by decide +kernel)) .nil)))),
        .lst (SqL.of upd_same) (.cons (dpi rfl) (.cons (dpi rfl) (.cons (dpi rfl) (.cons (dpi (by decide +kernel)) .nil)))), by decide +kernel, by decide +kernel, ?_⟩
      exact k _
end
theorem all_mk {l : PySem.W.OpenLaw} {w : World} {K : PySem.W.Frag} {h : Heap} {mg : Str → Option Value} {fa : Addr} (X : K.In h) (G : h.Ns mainGlobals mg) (hfa : mg "law" = some (.ref fa))
  {f0 f1 f2 f3 f4 f5 f6 f7 f8 f9 f10 f11 f12 f13 f14 : Addr}
  {od0 an0 od1 an1 od2 an2 od3 an3 od4 an4 od5 an5 od6 an6 od7 an7 od8 an8 od9 an9 od10 an10 od11 an11 od12 an12 od13 an13 od14 an14 : Option Addr} {sl0 sl1 sl2 sl3 sl4 sl5 sl6 sl7 sl8 sl9 sl10 sl11 sl12 sl13 sl14 : Array (Option Value)}
  {oc0 kV0 dc0 pm0 cd0 ct0 oc1 kV1 dc1 pm1 cd1 ct1 oc2 kV2 dc2 pm2 cd2 ct2 oc3 kV3 dc3 pm3 cd3 ct3 oc4 kV4 dc4 pm4 cd4 ct4 oc5 kV5 dc5 pm5 cd5 ct5 oc6 kV6 dc6 pm6 cd6 ct6 oc7 kV7 dc7 pm7 cd7 ct7 oc8 kV8 dc8 pm8 cd8 ct8 oc9 kV9 dc9 pm9 cd9 ct9 oc10 kV10 dc10 pm10 cd10 ct10 oc11 kV11 dc11 pm11 cd11 ct11 oc12 kV12 dc12 pm12 cd12 ct12 oc13 kV13 dc13 pm13 cd13 ct13 oc14 kV14 dc14 pm14 cd14 ct14 : Value}
  (a0 : PySem.W.nsIn K mainGlobals "bezout" = some (some (.ref f0))) (l0 : K.lookup f0 = some ⟨oc0, od0, .func (PySem.W.fnOf "bezout" "bezout" (defArgs s_bezout) (defBody s_bezout) (defScope s_bezout) .none kV0 dc0 pm0 an0 cd0 ct0), sl0⟩) (c0 : PySem.W.codeIn K cd0 "bezout" = true) (k0 : PySem.W.keepIn K (.ref f0) = true)
  (a1 : PySem.W.nsIn K mainGlobals "is_long_integer" = some (some (.ref f1))) (l1 : K.lookup f1 = some ⟨oc1, od1, .func (PySem.W.fnOf "is_long_integer" "is_long_integer" (defArgs s_is_long_integer) (defBody s_is_long_integer) (defScope s_is_long_integer) .none kV1 dc1 pm1 an1 cd1 ct1), sl1⟩) (c1 : PySem.W.codeIn K cd1 "is_long_integer" = true) (k1 : PySem.W.keepIn K (.ref f1) = true)
  (a2 : PySem.W.nsIn K mainGlobals "is_integer" = some (some (.ref f2))) (l2 : K.lookup f2 = some ⟨oc2, od2, .func (PySem.W.fnOf "is_integer" "is_integer" (defArgs s_is_integer) (defBody s_is_integer) (defScope s_is_integer) .none kV2 dc2 pm2 an2 cd2 ct2), sl2⟩) (c2 : PySem.W.codeIn K cd2 "is_integer" = true) (k2 : PySem.W.keepIn K (.ref f2) = true)
  (a3 : PySem.W.nsIn K mainGlobals "check_integer" = some (some (.ref f3))) (l3 : K.lookup f3 = some ⟨oc3, od3, .func (PySem.W.fnOf "check_integer" "check_integer" (defArgs s_check_integer) (defBody s_check_integer) (defScope s_check_integer) .none kV3 dc3 pm3 an3 cd3 ct3), sl3⟩) (c3 : PySem.W.codeIn K cd3 "check_integer" = true) (k3 : PySem.W.keepIn K (.ref f3) = true)
  (a4 : PySem.W.nsIn K mainGlobals "check_least" = some (some (.ref f4))) (l4 : K.lookup f4 = some ⟨oc4, od4, .func (PySem.W.fnOf "check_least" "check_least" (defArgs s_check_least) (defBody s_check_least) (defScope s_check_least) .none kV4 dc4 pm4 an4 cd4 ct4), sl4⟩) (c4 : PySem.W.codeIn K cd4 "check_least" = true) (k4 : PySem.W.keepIn K (.ref f4) = true)
  (a5 : PySem.W.nsIn K mainGlobals "is_nought" = some (some (.ref f5))) (l5 : K.lookup f5 = some ⟨oc5, od5, .func (PySem.W.fnOf "is_nought" "is_nought" (defArgs s_is_nought) (defBody s_is_nought) (defScope s_is_nought) .none kV5 dc5 pm5 an5 cd5 ct5), sl5⟩) (c5 : PySem.W.codeIn K cd5 "is_nought" = true) (k5 : PySem.W.keepIn K (.ref f5) = true)
  (a6 : PySem.W.nsIn K mainGlobals "shared" = some (some (.ref f6))) (l6 : K.lookup f6 = some ⟨oc6, od6, .func (PySem.W.fnOf "shared" "shared" (defArgs s_shared) (defBody s_shared) (defScope s_shared) .none kV6 dc6 pm6 an6 cd6 ct6), sl6⟩) (c6 : PySem.W.codeIn K cd6 "shared" = true) (k6 : PySem.W.keepIn K (.ref f6) = true)
  (a7 : PySem.W.nsIn K mainGlobals "_law_hat" = some (some (.ref f7))) (l7 : K.lookup f7 = some ⟨oc7, od7, .func (PySem.W.fnOf "_law_hat" "_law_hat" (defArgs s_law_hat) (defBody s_law_hat) (defScope s_law_hat) .none kV7 dc7 pm7 an7 cd7 ct7), sl7⟩) (c7 : PySem.W.codeIn K cd7 "_law_hat" = true) (k7 : PySem.W.keepIn K (.ref f7) = true)
  (a8 : PySem.W.nsIn K mainGlobals "_law_up_to" = some (some (.ref f8))) (l8 : K.lookup f8 = some ⟨oc8, od8, .func (PySem.W.fnOf "_law_up_to" "_law_up_to" (defArgs s_law_up_to) (defBody s_law_up_to) (defScope s_law_up_to) .none kV8 dc8 pm8 an8 cd8 ct8), sl8⟩) (c8 : PySem.W.codeIn K cd8 "_law_up_to" = true) (k8 : PySem.W.keepIn K (.ref f8) = true)
  (a9 : PySem.W.nsIn K mainGlobals "_law_out_of" = some (some (.ref f9))) (l9 : K.lookup f9 = some ⟨oc9, od9, .func (PySem.W.fnOf "_law_out_of" "_law_out_of" (defArgs s_law_out_of) (defBody s_law_out_of) (defScope s_law_out_of) .none kV9 dc9 pm9 an9 cd9 ct9), sl9⟩) (c9 : PySem.W.codeIn K cd9 "_law_out_of" = true) (k9 : PySem.W.keepIn K (.ref f9) = true)
  (a10 : PySem.W.nsIn K mainGlobals "_law_number" = some (some (.ref f10))) (l10 : K.lookup f10 = some ⟨oc10, od10, .func (PySem.W.fnOf "_law_number" "_law_number" (defArgs s_law_number) (defBody s_law_number) (defScope s_law_number) .none kV10 dc10 pm10 an10 cd10 ct10), sl10⟩) (c10 : PySem.W.codeIn K cd10 "_law_number" = true) (k10 : PySem.W.keepIn K (.ref f10) = true)
  (a11 : PySem.W.nsIn K mainGlobals "_law_shared" = some (some (.ref f11))) (l11 : K.lookup f11 = some ⟨oc11, od11, .func (PySem.W.fnOf "_law_shared" "_law_shared" (defArgs s_law_shared) (defBody s_law_shared) (defScope s_law_shared) .none kV11 dc11 pm11 an11 cd11 ct11), sl11⟩) (c11 : PySem.W.codeIn K cd11 "_law_shared" = true) (k11 : PySem.W.keepIn K (.ref f11) = true)
  (a12 : PySem.W.nsIn K mainGlobals "_law_jg_entry" = some (some (.ref f12))) (l12 : K.lookup f12 = some ⟨oc12, od12, .func (PySem.W.fnOf "_law_jg_entry" "_law_jg_entry" (defArgs s_law_jg_entry) (defBody s_law_jg_entry) (defScope s_law_jg_entry) .none kV12 dc12 pm12 an12 cd12 ct12), sl12⟩) (c12 : PySem.W.codeIn K cd12 "_law_jg_entry" = true) (k12 : PySem.W.keepIn K (.ref f12) = true)
  (a13 : PySem.W.nsIn K mainGlobals "_law_right" = some (some (.ref f13))) (l13 : K.lookup f13 = some ⟨oc13, od13, .func (PySem.W.fnOf "_law_right" "_law_right" (defArgs s_law_right) (defBody s_law_right) (defScope s_law_right) .none kV13 dc13 pm13 an13 cd13 ct13), sl13⟩) (c13 : PySem.W.codeIn K cd13 "_law_right" = true) (k13 : PySem.W.keepIn K (.ref f13) = true)
  (a14 : PySem.W.nsIn K mainGlobals "law" = some (some (.ref f14))) (l14 : K.lookup f14 = some ⟨oc14, od14, .func (PySem.W.fnOf "law" "law" (defArgs s_law) (defBody s_law) (defScope s_law) .none kV14 dc14 pm14 an14 cd14 ct14), sl14⟩) (c14 : PySem.W.codeIn K cd14 "law" = true) (k14 : PySem.W.keepIn K (.ref f14) = true)
  {t_TOO_LONG : Tok} (g_TOO_LONG : PySem.W.nsIn K mainGlobals "TOO_LONG" = some (some (.int 1000000000000 t_TOO_LONG)))
  (z_abs : PySem.W.nsIn K mainGlobals "abs" = some none)
  (z_bool : PySem.W.nsIn K mainGlobals "bool" = some none)
  (z_int : PySem.W.nsIn K mainGlobals "int" = some none)
  (z_isinstance : PySem.W.nsIn K mainGlobals "isinstance" = some none)
  (z_len : PySem.W.nsIn K mainGlobals "len" = some none)
  (z_max : PySem.W.nsIn K mainGlobals "max" = some none)
  (z_min : PySem.W.nsIn K mainGlobals "min" = some none)
  (z_range : PySem.W.nsIn K mainGlobals "range" = some none)
  (z_tuple : PySem.W.nsIn K mainGlobals "tuple" = some none)
  : ∃ fd : FuncData, (∀ (s : Shared) (v : Value), BindsTo s fd ⟨[v], []⟩ [("script", v)]) ∧ ∀ base : Heap, K.In base → base.Ns mainGlobals mg → FnOk l.prog w K mg base CX0 6 fa fd ["script"] (sp_law K) := by
  have e := hfa.symm.trans (PySem.W.mg_of X G a14)
  cases e
  have F0 := fun_mk (st := s_bezout) l0 c0 k0
  have b0 := F0.binds (ps := ["one", "other"]) fun _ _ _ _ _ _ us hl => match us, hl with | [_, _], _ => rfl
  have F1 := fun_mk (st := s_is_long_integer) l1 c1 k1
  have b1 := F1.binds (ps := ["value"]) fun _ _ _ _ _ _ us hl => match us, hl with | [_], _ => rfl
  have F2 := fun_mk (st := s_is_integer) l2 c2 k2
  have b2 := F2.binds (ps := ["value"]) fun _ _ _ _ _ _ us hl => match us, hl with | [_], _ => rfl
  have F3 := fun_mk (st := s_check_integer) l3 c3 k3
  have b3 := F3.binds (ps := ["value"]) fun _ _ _ _ _ _ us hl => match us, hl with | [_], _ => rfl
  have F4 := fun_mk (st := s_check_least) l4 c4 k4
  have b4 := F4.binds (ps := ["value", "least"]) fun _ _ _ _ _ _ us hl => match us, hl with | [_, _], _ => rfl
  have F5 := fun_mk (st := s_is_nought) l5 c5 k5
  have b5 := F5.binds (ps := ["value", "modulus"]) fun _ _ _ _ _ _ us hl => match us, hl with | [_, _], _ => rfl
  have F6 := fun_mk (st := s_shared) l6 c6 k6
  have b6 := F6.binds (ps := ["one", "other"]) fun _ _ _ _ _ _ us hl => match us, hl with | [_, _], _ => rfl
  have F7 := fun_mk (st := s_law_hat) l7 c7 k7
  have b7 := F7.binds (ps := ["script", "spot"]) fun _ _ _ _ _ _ us hl => match us, hl with | [_, _], _ => rfl
  have F8 := fun_mk (st := s_law_up_to) l8 c8 k8
  have b8 := F8.binds (ps := ["hat", "total"]) fun _ _ _ _ _ _ us hl => match us, hl with | [_, _], _ => rfl
  have F9 := fun_mk (st := s_law_out_of) l9 c9 k9
  have b9 := F9.binds (ps := ["hat", "items"]) fun _ _ _ _ _ _ us hl => match us, hl with | [_, _], _ => rfl
  have F10 := fun_mk (st := s_law_number) l10 c10 k10
  have b10 := F10.binds (ps := ["hat"]) fun _ _ _ _ _ _ us hl => match us, hl with | [_], _ => rfl
  have F11 := fun_mk (st := s_law_shared) l11 c11 k11
  have b11 := F11.binds (ps := ["one", "other"]) fun _ _ _ _ _ _ us hl => match us, hl with | [_, _], _ => rfl
  have F12 := fun_mk (st := s_law_jg_entry) l12 c12 k12
  have b12 := F12.binds (ps := ["hat"]) fun _ _ _ _ _ _ us hl => match us, hl with | [_], _ => rfl
  have F13 := fun_mk (st := s_law_right) l13 c13 k13
  have b13 := F13.binds (ps := ["hat"]) fun _ _ _ _ _ _ us hl => match us, hl with | [_], _ => rfl
  have F14 := fun_mk (st := s_law) l14 c14 k14
  have b14 := F14.binds (ps := ["script"]) fun _ _ _ _ _ _ us hl => match us, hl with | [_], _ => rfl
  let T : Txt K mg := {
    a_bezout := f0, fd_bezout := _, F_bezout := F0, m_bezout := PySem.W.mg_of X G a0, b_bezout := b0,
    a_is_long_integer := f1, fd_is_long_integer := _, F_is_long_integer := F1, m_is_long_integer := PySem.W.mg_of X G a1, b_is_long_integer := b1,
    a_is_integer := f2, fd_is_integer := _, F_is_integer := F2, m_is_integer := PySem.W.mg_of X G a2, b_is_integer := b2,
    a_check_integer := f3, fd_check_integer := _, F_check_integer := F3, m_check_integer := PySem.W.mg_of X G a3, b_check_integer := b3,
    a_check_least := f4, fd_check_least := _, F_check_least := F4, m_check_least := PySem.W.mg_of X G a4, b_check_least := b4,
    a_is_nought := f5, fd_is_nought := _, F_is_nought := F5, m_is_nought := PySem.W.mg_of X G a5, b_is_nought := b5,
    a_shared := f6, fd_shared := _, F_shared := F6, m_shared := PySem.W.mg_of X G a6, b_shared := b6,
    a_law_hat := f7, fd_law_hat := _, F_law_hat := F7, m_law_hat := PySem.W.mg_of X G a7, b_law_hat := b7,
    a_law_up_to := f8, fd_law_up_to := _, F_law_up_to := F8, m_law_up_to := PySem.W.mg_of X G a8, b_law_up_to := b8,
    a_law_out_of := f9, fd_law_out_of := _, F_law_out_of := F9, m_law_out_of := PySem.W.mg_of X G a9, b_law_out_of := b9,
    a_law_number := f10, fd_law_number := _, F_law_number := F10, m_law_number := PySem.W.mg_of X G a10, b_law_number := b10,
    a_law_shared := f11, fd_law_shared := _, F_law_shared := F11, m_law_shared := PySem.W.mg_of X G a11, b_law_shared := b11,
    a_law_jg_entry := f12, fd_law_jg_entry := _, F_law_jg_entry := F12, m_law_jg_entry := PySem.W.mg_of X G a12, b_law_jg_entry := b12,
    a_law_right := f13, fd_law_right := _, F_law_right := F13, m_law_right := PySem.W.mg_of X G a13, b_law_right := b13,
    a_law := fa, fd_law := _, F_law := F14, m_law := PySem.W.mg_of X G a14, b_law := b14,
    t_TOO_LONG := t_TOO_LONG, c_TOO_LONG := PySem.W.mg_of X G g_TOO_LONG,
    z_abs := PySem.W.mg_none_of X G z_abs,
    z_bool := PySem.W.mg_none_of X G z_bool,
    z_int := PySem.W.mg_none_of X G z_int,
    z_isinstance := PySem.W.mg_none_of X G z_isinstance,
    z_len := PySem.W.mg_none_of X G z_len,
    z_max := PySem.W.mg_none_of X G z_max,
    z_min := PySem.W.mg_none_of X G z_min,
    z_range := PySem.W.mg_none_of X G z_range,
    z_tuple := PySem.W.mg_none_of X G z_tuple }
  exact ⟨_, fun s v => .of_eq rfl, fun base _ _ => ok_law (T := T)⟩
end My
open PySem PySem.W PyProof.Rows in
set_option maxRecDepth 100000 in
set_option maxHeartbeats 0 in
theorem PySem.Challenge.cw_gluewhole_k02_whole_moduli_and_shared_di_holds : PySem.Challenge.rw_gluewhole_k02_whole_moduli_and_shared_di.Holds := by
  w_on; o_law; k_head; (case hw => w_witness2)
  k_fill
  refine L2.walk_of (l := PySem.Challenge.rw_gluewhole_k02_whole_moduli_and_shared_di) (n := 63) (k := 6) (x := "script") (CX := fun _ => L2.CX0) (sp := fun w => My.sp_law _) rfl (by decide) rfl ⟨rfl, by decide, by decide⟩ (fun w h Y => PySem.W.kIn_of Y) ?F (fun _ _ a ns hl _ hS => ⟨a, ns, rfl, hS, hl, fun _ => rfl⟩) (fun _ _ _ _ _ h => h)
  case F =>
    intro w mg fa h KX G hmg
    refine' My.all_mk KX G hmg ?a0 ?l0 ?c0 ?k0 ?a1 ?l1 ?c1 ?k1 ?a2 ?l2 ?c2 ?k2 ?a3 ?l3 ?c3 ?k3 ?a4 ?l4 ?c4 ?k4 ?a5 ?l5 ?c5 ?k5 ?a6 ?l6 ?c6 ?k6 ?a7 ?l7 ?c7 ?k7 ?a8 ?l8 ?c8 ?k8 ?a9 ?l9 ?c9 ?k9 ?a10 ?l10 ?c10 ?k10 ?a11 ?l11 ?c11 ?k11 ?a12 ?l12 ?c12 ?k12 ?a13 ?l13 ?c13 ?k13 ?a14 ?l14 ?c14 ?k14 ?g_TOO_LONG ?z_abs ?z_bool ?z_int ?z_isinstance ?z_len ?z_max ?z_min ?z_range ?z_tuple
    (case a0 => k_is)
    (case l0 => k_is)
    (case c0 => k_is)
    (case k0 => k_is)
    (case a1 => k_is)
    (case l1 => k_is)
    (case c1 => k_is)
    (case k1 => k_is)
    (case a2 => k_is)
    (case l2 => k_is)
    (case c2 => k_is)
    (case k2 => k_is)
    (case a3 => k_is)
    (case l3 => k_is)
    (case c3 => k_is)
    (case k3 => k_is)
    (case a4 => k_is)
    (case l4 => k_is)
    (case c4 => k_is)
    (case k4 => k_is)
    (case a5 => k_is)
    (case l5 => k_is)
    (case c5 => k_is)
    (case k5 => k_is)
    (case a6 => k_is)
    (case l6 => k_is)
    (case c6 => k_is)
    (case k6 => k_is)
    (case a7 => k_is)
    (case l7 => k_is)
    (case c7 => k_is)
    (case k7 => k_is)
    (case a8 => k_is)
    (case l8 => k_is)
    (case c8 => k_is)
    (case k8 => k_is)
    (case a9 => k_is)
    (case l9 => k_is)
    (case c9 => k_is)
    (case k9 => k_is)
    (case a10 => k_is)
    (case l10 => k_is)
    (case c10 => k_is)
    (case k10 => k_is)
    (case a11 => k_is)
    (case l11 => k_is)
    (case c11 => k_is)
    (case k11 => k_is)
    (case a12 => k_is)
    (case l12 => k_is)
    (case c12 => k_is)
    (case k12 => k_is)
    (case a13 => k_is)
    (case l13 => k_is)
    (case c13 => k_is)
    (case k13 => k_is)
    (case a14 => k_is)
    (case l14 => k_is)
    (case c14 => k_is)
    (case k14 => k_is)
    (case g_TOO_LONG => k_is)
    (case z_abs => k_is)
    (case z_bool => k_is)
    (case z_int => k_is)
    (case z_isinstance => k_is)
    (case z_len => k_is)
    (case z_max => k_is)
    (case z_min => k_is)
    (case z_range => k_is)
    (case z_tuple => k_is)
