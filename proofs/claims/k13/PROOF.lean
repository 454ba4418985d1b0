import PyProof.Rows.All
import Wide.All
import OpenK.AllK
import Wide.FinOn
import HandS.ForMost
import HandS.Wide
import HandS.WideBits
import HandS.Style
import HandS.IsInst
import HandS.StrMore
import HandS.Codes
import PySem.Challenge.RW_partlabels_k13_names
set_option Elab.async false
set_option linter.all false
set_option maxRecDepth 100000
set_option maxHeartbeats 2000000
/-! Common to the laws: how a def of the text is told, the tape, drawing. -/
namespace Pt
open PySem PySem.Spec PyProof.Rows L2

/-- a def that may be called by its name; CX tells what may leave it -/
structure Cal (P : Program) (w : World) (K : PySem.W.Frag) (mg : Str → Option Value) (base : Heap) (CX : CXT) (k : Nat) (x : Str) (sp : Sp) : Prop where
  ex : ∃ (f : Addr) (fd : FuncData) (ps : List Str), FnOk P w K mg base CX k f fd ps sp ∧ mg x = some (.ref f) ∧ PySem.W.keepIn K (.ref f) = true ∧ Binds K fd ps []
/-- a def of the text as the top leaves it, under its name -/
structure DefAt (K : PySem.W.Frag) (mg : Str → Option Value) (x : Str) (st : Stmt) (ps : List Str) : Prop where
  ex : ∃ (f : Addr) (fd : FuncData), Fun K x x st f fd ∧ mg x = some (.ref f) ∧ Binds K fd ps []
theorem defAt_mk {K : PySem.W.Frag} {h : Heap} {mg : Str → Option Value} {x : Str} {st : Stmt} {ps : List Str} {f : Addr} {oc : Value} {od an : Option Addr} {sl : Array (Option Value)} {kV dc pm cd ct : Value} (X : K.In h) (G : h.Ns mainGlobals mg)
    (a : PySem.W.nsIn K mainGlobals x = some (some (.ref f)))
    (l : K.lookup f = some ⟨oc, od, .func (PySem.W.fnOf x x (defArgs st) (defBody st) (defScope st) .none kV dc pm an cd ct), sl⟩) (c : PySem.W.codeIn K cd x = true) (k : PySem.W.keepIn K (.ref f) = true)
    (hb : ∀ (kV doc pm : Value) (an : Option Addr) (cdv ct : Value) (us : List Value), us.length = ps.length → bindArgs (PySem.W.fnOf x x (defArgs st) (defBody st) (defScope st) .none kV doc pm an cdv ct) ⟨us, []⟩ = pure (ps.zip us)) : DefAt K mg x st ps := by
  have F := fun_mk (st := st) l c k
  exact ⟨⟨f, _, F, PySem.W.mg_of X G a, F.binds hb⟩⟩
section
variable {P : Program} {w : World} {K : PySem.W.Frag} {mg : Str → Option Value} {base : Heap}
theorem cal_of {CX : CXT} {k : Nat} {x : Str} {st : Stmt} {ps : List Str} {sp : Sp} (D : DefAt K mg x st ps) (h : ∀ (f : Addr) (fd : FuncData), Fun K x x st f fd → FnOk P w K mg base CX k f fd ps sp) : Cal P w K mg base CX k x sp := by
  obtain ⟨f, fd, F, m, b⟩ := D.ex
  exact ⟨⟨f, fd, ps, h f fd F, m, F.kp, b⟩⟩
end
section
variable {X : Cx} {j k : Nat} {x : Str} {sp : Sp} {p pos : Pos} {e : Expr} {es : List Expr} {t : TA}
theorem pe_c (c : Cal X.prog X.w X.K X.mg X.base CX0 k x sp) (hr : Room j X.A) (hk : k ≤ j) (hg : Gl X x) (ha : PA X (e :: es) t)
    (hdb : (x == ("__debug__" : Str)) = false := by decide) (he : starEach (e :: es) X.env = (false, eval e X.env) :: starEach es X.env := by rfl) (hpl : (backTo pos (starEach es X.env)).any (·.1) = false := by rfl) :
    PE X (.Call (.Name x p) (e :: es) [] pos) (tCall sp [] E0 t) := by
  obtain ⟨f, fd, ps, F, hm, kp, b⟩ := c.ex
  exact pe_call F (hr.mono hk) hg hm kp b .nil pass0 ha hdb he hpl
/-- text * int -/
def rMulS : R2 := fun x y H Q => ∃ (z : Str) (n : Int), x = .str z ∧ y = .int n ∧ 0 ≤ n ∧ n ≤ 100000 ∧ z.length ≤ 100 ∧ Q (.str (Txt.mul z n)) H
theorem op_mul_str : OpR X (binaryOp .Mult) rMulS := by
  intro pins s σ H x y v u Q I rx ry h
  obtain ⟨z, n, rfl, rfl, h0, h1, hz, q⟩ := h
  obtain ⟨t, rfl⟩ := rx
  obtain ⟨t', rfl⟩ := ry
  refine SB.mul ⟨?_, fun a b => ?_, fun a b => ?_⟩ (fun t2 k => ⟨.str (Txt.mul z n), H, I.tok _, ⟨_, rfl⟩, q⟩)
  · rw [decide_eq_false (by omega), decide_eq_false (by omega)] <;> rfl
  · have hn : 0 < n := by omega
    have e : (100 : Int) ≤ (2 ^ 63 - 1) / n := by
      refine (Int.le_ediv_iff_mul_le hn).mpr ?_
      omega
    omega
  · unfold Builtin.Str.tooLong
    have hs : sizeLine = 16777216 := sizeLine_eq
    have e : z.length * n.toNat ≤ 100 * 100000 := Nat.mul_le_mul hz (by omega)
    refine decide_eq_false ?_
    omega
end

theorem if_true_of {c : Bool} {A B : Prop} (hc : c = true) (h : A) : if c = true then A else B := by
  rw [if_pos hc]
  exact h
theorem if_false_of {c : Bool} {A B : Prop} (hc : c = false) (h : B) : if c = true then A else B := by
  rw [hc, if_neg Bool.false_ne_true]
  exact h

/-! ### the tape -/
def tapeO (A B : Int) : HO := .lst [.int A, .int B]
def TapeOk (A B : Int) : Prop := 0 ≤ A ∧ 0 ≤ B ∧ B ≤ 2147483647
def TapeAt (H : Hp) (a : Addr) : Prop := ∃ A B : Int, H a = some (tapeO A B) ∧ TapeOk A B
/-- all but the tape at a stands -/
def Frm (a : Addr) (H H' : Hp) : Prop := (∀ b, b ≠ a → H' b = H b) ∧ TapeAt H' a
theorem Frm.refl {a : Addr} {H : Hp} (h : TapeAt H a) : Frm a H H := ⟨fun _ _ => rfl, h⟩
theorem Frm.trans {a : Addr} {H H1 H2 : Hp} (x : Frm a H H1) (y : Frm a H1 H2) : Frm a H H2 := ⟨fun b hb => (y.1 b hb).trans (x.1 b hb), y.2⟩
theorem Frm.put {a : Addr} {H : Hp} {A B : Int} (h : TapeOk A B) : Frm a H (upd H a (tapeO A B)) := ⟨fun b hb => upd_ne hb, A, B, upd_same, h⟩

def spTape (K : PySem.W.Frag) : Sp := fun vs H Q _ => ∃ (a : Addr) (ns : List Int) (k : Int), vs = [.ref a, .int k] ∧ SqL K H a (ns.map V.int) ∧ 0 ≤ k ∧ k ≤ 1000 ∧
  ∀ (p : Addr) (A B : Int), H p = none → TapeOk A B → Q (.ref p) (upd H p (tapeO A B))
def spPick : Sp := fun vs H Q _ => ∃ (a : Addr) (m : Int), vs = [.ref a, .int m] ∧ TapeAt H a ∧ 0 < m ∧ m < 2 ^ 120 ∧
  ∀ (r : Int) (H' : Hp), 0 ≤ r → r < m → Frm a H H' → Q (.int r) H'
end Pt
/-! Texts as lists of code points: the rules by values, told so. -/
namespace Pt
open PySem PySem.Spec PyProof.Rows L2
open SX (S S_len S_cat)
section
variable {X : Cx}
theorem S_beq_iff {a b : List Nat} : (V.str (S a) = V.str (S b)) ↔ a = b := ⟨fun h => SX.S_inj (V.str.inj h), fun h => by rw [h]⟩
theorem S_dec {a b : List Nat} : decide (V.str (S a) = V.str (S b)) = decide (a = b) := decide_eq_decide.mpr S_beq_iff
theorem size_ok {n : Nat} (h : n ≤ 1000000) : n ≤ sizeLine := Nat.le_trans h (by decide)
theorem pe_strS {x : Str} {j : Nat} {pos : Pos} (l : List Nat) (h : x = S l) : PE X (.Constant (.str x) j pos) (tC (.str (S l))) := by
  subst h
  exact pe_str
def rCatS : R2 := fun x y H Q => ∃ a b : List Nat, x = .str (S a) ∧ y = .str (S b) ∧ a.length + b.length ≤ 1000000 ∧ Q (.str (S (a ++ b))) H
theorem op_catS : OpR X (binaryOp .Add) rCatS := by
  intro pins s σ H x y v u Q I rx ry h
  obtain ⟨a, b, rfl, rfl, hz, q⟩ := h
  rw [← S_cat] at q
  exact op_add_str pins s σ H _ _ v u Q I rx ry ⟨S a, S b, rfl, rfl, by rw [S_len, S_len]; exact size_ok hz, q⟩
def rIxSL : R2 := fun x y H Q => ∃ (l : List Nat) (i : Int) (c : Nat), x = .str (S l) ∧ y = .int i ∧ l.length ≤ 1000000 ∧ atI l i = some c ∧ Q (.str (S [c])) H
theorem ix_S : IxR X rIxSL := by
  intro value slice pins s σ H x y v u Q I rx ry h hs
  obtain ⟨l, i, c, rfl, rfl, hz, he, q⟩ := h
  exact ix_str value slice pins s σ H _ _ v u Q I rx ry ⟨S l, i, c, rfl, rfl, by rw [S_len]; exact size_ok hz, by simpa using he, q⟩ hs
def rSlToS : V → Option Int → Option Int → Hp → VK → Prop := fun x lo hi H Q => ∃ (l : List Nat) (i : Int), x = .str (S l) ∧ lo = none ∧ hi = some i ∧ 0 ≤ i ∧ l.length ≤ 1000000 ∧ Q (.str (S (l.take i.toNat))) H
theorem sl_to : SlR X rSlToS := by
  intro pins s σ H x v vl vu lo hi sl Q I rx hs pl pu h
  obtain ⟨l, i, rfl, rfl, rfl, h0, hz, q⟩ := h
  exact C8.sl_txt pins s σ H _ v vl vu _ _ sl Q I rx hs pl pu ⟨S l, rfl, by rw [S_len]; exact size_ok hz, by rw [SX.slice_to h0]; exact q⟩
def rSlFromS : V → Option Int → Option Int → Hp → VK → Prop := fun x lo hi H Q => ∃ (l : List Nat) (i : Int), x = .str (S l) ∧ lo = some i ∧ hi = none ∧ 0 ≤ i ∧ l.length ≤ 1000000 ∧ Q (.str (S (l.drop i.toNat))) H
theorem sl_from : SlR X rSlFromS := by
  intro pins s σ H x v vl vu lo hi sl Q I rx hs pl pu h
  obtain ⟨l, i, rfl, rfl, rfl, h0, hz, q⟩ := h
  exact C8.sl_txt pins s σ H _ v vl vu _ _ sl Q I rx hs pl pu ⟨S l, rfl, by rw [S_len]; exact size_ok hz, by rw [SX.slice_from h0]; exact q⟩
theorem call_lenS : CallR X (.builtin "len") (fun xs H Q => ∃ l : List Nat, xs = [.str (S l)] ∧ l.length ≤ 1000000 ∧ Q (.int l.length) H) := by
  intro pins s σ H xs us Q I r h
  obtain ⟨l, rfl, hz, q⟩ := h
  exact call_len_str pins s σ H _ us Q I r ⟨S l, rfl, by rw [S_len]; exact size_ok hz, by rw [S_len]; exact q⟩
theorem foldl_rep (l : List Nat) : ∀ (n : Nat) (a : Array Nat), ((List.replicate n l.toArray).foldl (· ++ ·) a).toList = a.toList ++ (List.replicate n l).flatten
  | 0, a => by simp
  | n + 1, a => by
    rw [List.replicate_succ, List.foldl_cons, foldl_rep l n, List.replicate_succ, List.flatten_cons, Array.toList_append, List.append_assoc]
theorem mul_S (l : List Nat) {n : Int} (h0 : 0 ≤ n) : Txt.mul (S l) n = S (List.replicate n.toNat l).flatten := by
  unfold Txt.mul
  by_cases h1 : n < 1
  · have e : n.toNat = 0 := by omega
    rw [if_pos h1, e]
    rfl
  · rw [if_neg h1]
    by_cases h2 : (n == 1 || (S l).length == 0) = true
    · rw [if_pos h2]
      rw [Bool.or_eq_true, beq_iff_eq, beq_iff_eq, S_len] at h2
      rcases h2 with h2 | h2
      · subst h2
        show S l = S (List.replicate 1 l).flatten
        simp
      · have e : l = [] := List.length_eq_zero_iff.mp h2
        subst e
        simp
    · rw [if_neg h2]
      refine (SX.S_tl _).symm.trans (congrArg S ?_)
      show ((List.replicate n.toNat l.toArray).foldl (· ++ ·) #[]).toList = _
      rw [foldl_rep]
      rfl
def rMulSL : R2 := fun x y H Q => ∃ (l : List Nat) (n : Int), x = .str (S l) ∧ y = .int n ∧ 0 ≤ n ∧ n ≤ 100000 ∧ l.length ≤ 100 ∧ Q (.str (S (List.replicate n.toNat l).flatten)) H
theorem op_mulS : OpR X (binaryOp .Mult) rMulSL := by
  intro pins s σ H x y v u Q I rx ry h
  obtain ⟨l, n, rfl, rfl, h0, h1, hz, q⟩ := h
  exact op_mul_str pins s σ H _ _ v u Q I rx ry ⟨S l, n, rfl, rfl, h0, h1, by rw [S_len]; exact hz, by rw [mul_S l h0]; exact q⟩
end
theorem ite_bl {a b : Bool} {A : Prop} {Q : VK} {H : Hp} (h : Q (.bl (a && b)) H) (k : Q (.bl b) H → A) : if a = true then A else Q (.bl false) H := by
  cases a with
  | true => exact if_true_of rfl (k h)
  | false => exact if_false_of rfl h
theorem bl_ne {a b : Bool} (h : a = b) : (!decide (V.bl a = V.bl b)) = false := by rw [h]; simp
theorem at_in {l : List Nat} {r : Int} (h0 : 0 ≤ r) (h1 : r < (l.length : Int)) : ∃ c, atI l r = some c ∧ c ∈ l := by
  have hk : r.toNat < l.length := by omega
  refine ⟨l[r.toNat], by have q := atI_nat (List.getElem?_eq_getElem hk); rwa [show ((r.toNat : Nat) : Int) = r by omega] at q, List.getElem_mem hk⟩
end Pt
namespace Pt
open PySem PySem.Spec PyProof.Rows L2
def top (i : Nat) : Stmt := PySem.Challenge.pw_partlabels_k13_names.main.body.getD i (.Pass ⟨0, 0, 0, 0⟩)
structure Txt (K : PySem.W.Frag) (mg : Str → Option Value) : Prop where
  z_abs : mg "abs" = none
  z_bool : mg "bool" = none
  z_int : mg "int" = none
  z_isinstance : mg "isinstance" = none
  z_len : mg "len" = none
  z_range : mg "range" = none
  z_str : mg "str" = none
  g_LONGEST : ∃ u, mg "LONGEST" = some u ∧ RelV (.int 8) u
/-! ### the tape's two defs -/
theorem pure_tape_len {ns : List Int} {k : Int} (h0 : 0 ≤ k) (c : k < (((ns.map V.int).length : Nat) : Int)) : ∃ z, atI (ns.map V.int) k = some (V.int z) := by
  rw [List.length_map] at c
  have hk : k.toNat < ns.length := by omega
  exact ⟨ns[k.toNat], at_of (j := k.toNat) (by omega) (by rw [List.getElem?_map, List.getElem?_eq_getElem hk] <;> rfl)⟩
theorem abs_nn (c : Int) : 0 ≤ (if c < 0 then -c else c) := by split <;> omega
abbrev sTape : Stmt := top 4
theorem scTape : FnScope ["_law_script", "_law_k", "_law_cell"] ["_law_script", "_law_k"] (defScope sTape) := ⟨rfl, rfl, rfl, by decide +kernel, rfl, by decide +kernel, by decide +kernel⟩
theorem ok_tape {P : Program} {w : World} {K : PySem.W.Frag} {mg : Str → Option Value} {base : Heap} (T : Txt K mg) {f : Addr} {fd : FuncData} (F : Fun K "_law_tape" "_law_tape" sTape f fd) : FnOk P w K mg base CX0 1 f fd ["_law_script", "_law_k"] (spTape K) := by
  refine F.ok scTape (fun vs H Q E h => ?_) (fun cdv A outer s H vs Q E hr h => ?_)
  · obtain ⟨a, ns, k, rfl, _⟩ := h
    rfl
  · obtain ⟨a, ns, k, rfl, hS, h0, h1, q⟩ := h
    refine ⟨_, (pss_cons (ps_set (i := 2) scTape.nd rfl (Or.inl rfl) (pe_ifExp (pt_cmpR op_lt (pv 1) (pe_callB call_len_seq (by rfl) T.z_len (by decide +kernel) (pa_cons (pv 0) pa_nil)) (nomark _)) (pe_ix ix_list (pv 0) (pv 1) (fun _ _ => rfl)) pe_int))
  (pss_one (ps_ret (pe_lst (pa_cons (pe_callB call_abs (by rfl) T.z_abs (by decide +kernel) (pa_cons (pv 2) pa_nil)) (pa_cons (pe_op op_add (pe_op op_mul pe_int (pv 1)) pe_int) pa_nil)))))), ?_⟩
    have hl : (2 : Nat) ≤ sizeLine := by decide
    refine ⟨_, rfl, _, rfl, _, _, rfl, .inl hS, _, _, rfl, rfl, _, rfl, ?_⟩
    by_cases c : k < (((ns.map V.int).length : Nat) : Int)
    · obtain ⟨z, hz⟩ := pure_tape_len h0 c
      refine if_true_of (decide_eq_true c) ?_
      refine ⟨_, rfl, _, rfl, _, _, _, _, rfl, rfl, hS, hz, ?_⟩
      exact ⟨_, rfl, _, rfl, _, rfl, _, _, rfl, rfl, .inl ⟨by decide, by decide⟩, _, _, rfl, rfl, hl, fun p hp => q p _ _ hp ⟨abs_nn _, by omega, by omega⟩⟩
    · refine if_false_of (decide_eq_false c) ?_
      exact ⟨_, rfl, _, rfl, _, rfl, _, _, rfl, rfl, .inl ⟨by decide, by decide⟩, _, _, rfl, rfl, hl, fun p hp => q p _ _ hp ⟨abs_nn _, by omega, by omega⟩⟩
abbrev sPick : Stmt := top 5
theorem scPick : FnScope ["_law_tape_here", "_law_many", "_law_digit", "_law_mixed"] ["_law_tape_here", "_law_many"] (defScope sPick) := ⟨rfl, rfl, rfl, by decide +kernel, rfl, by decide +kernel, by decide +kernel⟩
theorem ok_pick {P : Program} {w : World} {K : PySem.W.Frag} {mg : Str → Option Value} {base : Heap} (T : Txt K mg) {f : Addr} {fd : FuncData} (F : Fun K "_law_pick" "_law_pick" sPick f fd) : FnOk P w K mg base CX0 1 f fd ["_law_tape_here", "_law_many"] spPick := by
  refine F.ok scPick (fun vs H Q E h => ?_) (fun cdv A outer s H vs Q E hr h => ?_)
  · obtain ⟨a, m, rfl, _⟩ := h
    rfl
  · obtain ⟨a, m, rfl, ⟨Z, B, hA, hA0, hB0, hB1⟩, hm0, hm1, q⟩ := h
    have hL : SqL K H a [.int Z, .int B] := SqL.of hA
    refine ⟨_, (pss_cons (ps_if (pt_cmpR op_ge (pe_ix ix_list (pv 0) pe_int (fun _ _ => rfl)) (pe_op op_pow pe_int pe_int) (nomark _)) (pss_cons (ps_set (i := 2) scPick.nd rfl (Or.inl rfl) (pe_op op_mod (pe_callTy call_int1 (by rfl) T.z_int (by decide +kernel) (pa_cons (pe_ix ix_list (pv 0) pe_int (fun _ _ => rfl)) pa_nil)) (pv 1)))
  (pss_cons (ps_asg (pe_op op_fdivW (pe_ix ix_list (pv 0) pe_int (fun _ _ => rfl)) (pv 1)) (pg_sub (pv 0) pe_int set_list))
  (pss_one (ps_ret (pv 2))))) pss_nil)
  (pss_cons (ps_asg (pe_op op_mod (pe_callTy call_int1 (by rfl) T.z_int (by decide +kernel) (pa_cons (pe_op op_add (pe_op op_add (pe_op op_mul (pe_ix ix_list (pv 0) pe_int (fun _ _ => rfl)) pe_int) (pe_op op_mul (pe_ix ix_list (pv 0) pe_int (fun _ _ => rfl)) pe_int)) pe_int) pa_nil)) pe_int) (pg_sub (pv 0) pe_int set_list))
  (pss_cons (ps_set (i := 3) scPick.nd rfl (Or.inl rfl) (pe_op op_mod (pe_callTy call_int1 (by rfl) T.z_int (by decide +kernel) (pa_cons (pe_op op_add (pe_op op_add (pe_op op_mul (pe_ix ix_list (pv 0) pe_int (fun _ _ => rfl)) (pe_ix ix_list (pv 0) pe_int (fun _ _ => rfl))) (pe_op op_mul (pe_ix ix_list (pv 0) pe_int (fun _ _ => rfl)) pe_int)) pe_int) pa_nil)) pe_int))
  (pss_one (ps_ret (pe_op op_mod (pe_callTy call_int1 (by rfl) T.z_int (by decide +kernel) (pa_cons (pe_op op_fdivW (pv 3) pe_int) pa_nil)) (pv 1))))))), ?_⟩
    refine ⟨_, rfl, _, _, _, _, rfl, rfl, hL, rfl, _, _, rfl, rfl, ⟨by decide, by decide, by decide⟩, _, _, rfl, rfl, _, rfl, ?_⟩
    have mb : m.natAbs < 2 ^ 120 := by omega
    by_cases c : (10 : Int) ^ (18 : Int).toNat ≤ Z
    · refine if_true_of (decide_eq_true c) ?_
      refine ⟨_, rfl, _, _, _, _, rfl, rfl, hL, rfl, .inl ⟨_, rfl, _, rfl, _, _, rfl, rfl, hm0, ?_⟩⟩
      refine ⟨_, rfl, _, _, _, _, rfl, rfl, hL, rfl, _, rfl, _, _, rfl, rfl, wide_div hm0 mb (by decide) (by decide), _, rfl, _, _, _, 0, rfl, rfl, hA, rfl, ?_⟩
      exact ⟨_, rfl, q _ _ (Int.emod_nonneg _ (by omega)) (Int.emod_lt_of_pos _ hm0) (Frm.put (A := Z / m) (B := B) ⟨Int.ediv_nonneg hA0 (by omega), hB0, hB1⟩)⟩
    · refine if_false_of (decide_eq_false c) ?_
      have cz : Z < 1000000000000000000 := by
        have e : (10 : Int) ^ (18 : Int).toNat = 1000000000000000000 := by decide
        omega
      refine ⟨_, rfl, _, _, _, _, rfl, rfl, hL, rfl, _, _, rfl, rfl, .inl ⟨by omega, by omega⟩, _, rfl, _, _, _, _, rfl, rfl, hL, rfl, _, _, rfl, rfl, .inl ⟨by omega, by omega⟩, _, _, rfl, rfl, _, _, rfl, rfl, .inl ⟨_, rfl, _, _, rfl, rfl, (by show (0 : Int) < 2147483647; decide), _, rfl, _, _, _, 1, rfl, rfl, hA, rfl, ?_⟩⟩
      have b0 : 0 ≤ (B * 48271 + Z * 69621 + 11) % 2147483647 := Int.emod_nonneg _ (by decide)
      have b1 : (B * 48271 + Z * 69621 + 11) % 2147483647 < 2147483647 := Int.emod_lt_of_pos _ (by decide)
      have hA' : upd H a (.lst (([.int Z, .int B] : List V).set 1 (.int ((B * 48271 + Z * 69621 + 11) % 2147483647)))) a = some (.lst [.int Z, .int ((B * 48271 + Z * 69621 + 11) % 2147483647)]) := upd_same
      have hL' : SqL K (upd H a (.lst (([.int Z, .int B] : List V).set 1 (.int ((B * 48271 + Z * 69621 + 11) % 2147483647))))) a [.int Z, .int ((B * 48271 + Z * 69621 + 11) % 2147483647)] := SqL.of hA'
      refine ⟨_, rfl, _, _, _, _, rfl, rfl, hL', rfl, _, rfl, _, _, _, _, rfl, rfl, hL', rfl, _, _, rfl, rfl, .inl ⟨by omega, by omega⟩, _, rfl, _, _, _, _, rfl, rfl, hL', rfl, _, _, rfl, rfl, .inl ⟨by omega, by omega⟩, _, _, rfl, rfl, _, _, rfl, rfl, .inl ⟨_, rfl, _, _, rfl, rfl, (by show (0 : Int) < 2147483399; decide), ?_⟩⟩
      refine ⟨_, rfl, _, _, rfl, rfl, wide_div (b := 10) (by decide) (by decide) (by decide) (by decide), .inl ⟨_, rfl, _, rfl, _, _, rfl, rfl, hm0, ?_⟩⟩
      exact q _ _ (Int.emod_nonneg _ (by omega)) (Int.emod_lt_of_pos _ hm0) (Frm.put (A := Z) (B := (B * 48271 + Z * 69621 + 11) % 2147483647) ⟨hA0, b0, by omega⟩)

/-! ### names: the mathematics -/
open SX (S S_len S_cat)
def lowc (c : Nat) : Bool := decide (97 ≤ c) && decide (c ≤ 122)
def nameL (l : List Nat) : Bool := decide (1 ≤ l.length) && decide (l.length ≤ 8) && l.all lowc
theorem uni_alpha : ∀ c : Nat, c < 128 → Unicode.isAlpha c = ((decide (65 ≤ c) && decide (c ≤ 90)) || lowc c) := by decide +kernel
theorem uni_lower : ∀ c : Nat, c < 128 → Unicode.isLower c = lowc c := by decide +kernel
theorem uni_upper : ∀ c : Nat, c < 128 → (Unicode.isUpper c || Unicode.isTitle c) = (decide (65 ≤ c) && decide (c ≤ 90)) := by decide +kernel
theorem name_val {l : List Nat} (h8 : l.length ≤ 8) : (Txt.isascii (S l) && (Txt.isalpha (S l) && Txt.islower (S l))) = nameL l := by
  have e1 : Txt.isascii (S l) = l.all (fun c => decide (c < 128)) := by unfold Txt.isascii; simp
  have e2 : Txt.isalpha (S l) = (decide (0 < l.length) && l.all Unicode.isAlpha) := by unfold Txt.isalpha; rw [S_len]; simp
  have e3 : Txt.islower (S l) = (l.any Unicode.isLower && !l.any fun c => Unicode.isUpper c || Unicode.isTitle c) := by unfold Txt.islower; simp
  rw [e1, e2, e3, Bool.eq_iff_iff]
  unfold nameL
  simp only [Bool.and_eq_true, List.all_eq_true, decide_eq_true_eq, Bool.not_eq_true', List.any_eq_true, List.any_eq_false]
  constructor
  · rintro ⟨a, ⟨b, c⟩, d, e⟩
    refine ⟨⟨b, h8⟩, fun x hx => ?_⟩
    have q := c x hx
    rw [uni_alpha x (a x hx)] at q
    have q2 := e x hx
    rw [uni_upper x (a x hx)] at q2
    rw [Bool.or_eq_true] at q
    exact q.resolve_left q2
  · rintro ⟨⟨a, _⟩, b⟩
    have lt : ∀ x ∈ l, x < 128 := fun x hx => by
      have q := b x hx
      unfold lowc at q
      rw [Bool.and_eq_true, decide_eq_true_eq, decide_eq_true_eq] at q
      omega
    refine ⟨lt, ⟨a, fun x hx => ?_⟩, ?_, fun x hx => ?_⟩
    · rw [uni_alpha x (lt x hx), b x hx, Bool.or_true]
    · cases l with
      | nil => exact absurd a (by decide)
      | cons c r => exact ⟨c, List.mem_cons_self .., by rw [uni_lower c (lt c (List.mem_cons_self ..))]; exact b c (List.mem_cons_self ..)⟩
    · rw [uni_upper x (lt x hx)]
      have q := b x hx
      unfold lowc at q
      rw [Bool.and_eq_true, decide_eq_true_eq, decide_eq_true_eq] at q
      simp only [Bool.and_eq_true, decide_eq_true_eq]
      omega
theorem nameL_long {l : List Nat} (h : 8 < l.length) : nameL l = false := by
  unfold nameL
  rw [decide_eq_false (show ¬ l.length ≤ 8 by omega)]
  simp
theorem nameL_bad {l : List Nat} {c : Nat} (h : c ∈ l) (hc : lowc c = false) : nameL l = false := by
  unfold nameL
  have e : l.all lowc = false := by
    rw [Bool.eq_false_iff]
    intro q
    rw [List.all_eq_true] at q
    rw [q c h] at hc
    cases hc
  rw [e, Bool.and_false]
theorem nameL_low {l : List Nat} (h : ∀ c ∈ l, lowc c = true) : nameL l = (decide (1 ≤ l.length) && decide (l.length ≤ 8)) := by
  unfold nameL
  rw [List.all_eq_true.mpr h, Bool.and_true]

def spName : Sp := fun vs H Q _ => ∃ l : List Nat, vs = [.str (S l)] ∧ l.length ≤ 1000000 ∧ Q (.bl (nameL l)) H
abbrev sName : Stmt := top 2
theorem scName : FnScope ["text"] ["text"] (defScope sName) := ⟨rfl, rfl, rfl, by decide +kernel, rfl, by decide +kernel, by decide +kernel⟩
theorem ok_name {P : Program} {w : World} {K : PySem.W.Frag} {mg : Str → Option Value} {base : Heap} (T : Txt K mg) {f : Addr} {fd : FuncData} (F : Fun K "is_name" "is_name" sName f fd) : FnOk P w K mg base CX0 1 f fd ["text"] spName := by
  refine F.ok scName (fun vs H Q E h => ?_) (fun cdv A outer s H vs Q E hr h => ?_)
  · obtain ⟨l, rfl, _⟩ := h
    rfl
  · obtain ⟨l, rfl, hl, q⟩ := h
    refine ⟨_, (pss_cons (ps_if (PW.pt (pw_or (pt_not (pt_val (pe_callB call_isi (by rfl) T.z_isinstance (by decide +kernel) (pa_cons (pv 0) (pa_cons (pe_bltn (v := .ty "str") (by rfl) T.z_str (by decide +kernel) rfl) pa_nil))))) (pw_or1 (pt_cmpR op_gt (pe_callB call_lenS (by rfl) T.z_len (by decide +kernel) (pa_cons (pv 0) pa_nil)) (C8.pe_gc rfl T.g_LONGEST) (nomark _))))) (pss_one (ps_ret pe_bl)) pss_nil)
  (pss_one (ps_ret (pe_and (pe_bm0 PySem.F.plainAttrs_str PySem.F.slot_str_isascii PySem.F.type_str_isascii mt_isascii (pv 0)) (pe_and (pe_bm0 PySem.F.plainAttrs_str PySem.F.slot_str_isalpha PySem.F.type_str_isalpha mt_isalpha (pv 0)) (pe_one (pe_bm0 PySem.F.plainAttrs_str PySem.F.slot_str_islower PySem.F.type_str_islower mt_islower (pv 0)))))))), ?_⟩
    refine ⟨_, rfl, _, _, _, _, true, rfl, .ty _, .base (.str _), kit_ty (by decide +kernel), _, rfl, ?_⟩
    refine if_false_of rfl ?_
    refine ⟨_, rfl, l, rfl, hl, _, _, rfl, rfl, _, rfl, ?_⟩
    by_cases c : (8 : Int) < (l.length : Int)
    · refine if_true_of (decide_eq_true c) ?_
      rw [nameL_long (by omega)] at q
      exact q
    · refine if_false_of (decide_eq_false c) ?_
      rw [← name_val (by omega)] at q
      exact ⟨_, rfl, rfl, _, rfl, rfl, trivial, _, rfl, ite_bl q fun q1 => ⟨_, rfl, rfl, _, rfl, rfl, trivial, _, rfl, ite_bl q1 fun q2 => ⟨_, rfl, rfl, _, rfl, rfl, trivial, q2⟩⟩⟩
/-! ### the law -/
def spLaw (K : PySem.W.Frag) : Sp := fun vs H Q _ => ∃ (a : Addr) (ns : List Int), vs = [.ref a] ∧ SqL K H a (ns.map V.int) ∧ ns.length ≤ 63 ∧ ∀ H', Q (.bl true) H'
abbrev poolL : List Nat := [97, 98, 99, 100, 101, 102, 103, 104, 105, 106, 107, 108, 109, 110, 111, 112, 113, 114, 115, 116, 117, 118, 119, 120, 121, 122]
abbrev othL : List Nat := [65, 66, 90, 48, 49, 57, 32, 95, 45, 46, 58, 47, 123, 125, 33, 126, 64, 91, 96, 10, 34, 39, 43, 44, 59, 35]
theorem pool_low : ∀ c ∈ poolL, lowc c = true := by decide +kernel
theorem oth_low : ∀ c ∈ othL, lowc c = false := by decide +kernel
theorem rep8 (l : List Nat) : (∀ c ∈ (List.replicate (8 : Int).toNat (l.take (1 : Int).toNat)).flatten, c ∈ l) ∧ (List.replicate (8 : Int).toNat (l.take (1 : Int).toNat)).flatten.length = 8 * (min 1 l.length) := by
  constructor
  · intro c hc
    obtain ⟨m, hm, hc⟩ := List.mem_flatten.mp hc
    have e := List.eq_of_mem_replicate hm
    subst e
    exact List.mem_of_mem_take hc
  · cases l with
    | nil => rfl
    | cons c r => simp
abbrev sLaw : Stmt := top 6
theorem scLaw : FnScope ["_law_script", "_law_tape_here", "_law_pool", "_law_others", "_law_turn", "_law_size", "_law_text", "_law_k", "_law_at", "_law_sign", "_law_wrong"] ["_law_script"] (defScope sLaw) := ⟨rfl, rfl, rfl, by decide +kernel, rfl, by decide +kernel, by decide +kernel⟩
theorem ok_law {P : Program} {w : World} {K : PySem.W.Frag} {mg : Str → Option Value} {base : Heap} (T : Txt K mg) (dT : DefAt K mg "_law_tape" sTape ["_law_script", "_law_k"]) (dP : DefAt K mg "_law_pick" sPick ["_law_tape_here", "_law_many"]) (dN : DefAt K mg "is_name" sName ["text"])
    {f : Addr} {fd : FuncData} (F : Fun K "law" "law" sLaw f fd) : FnOk P w K mg base CX0 3 f fd ["_law_script"] (spLaw K) := by
  have cT : Cal P w K mg base CX0 1 "_law_tape" (spTape K) := cal_of dT fun f fd F => ok_tape T F
  have cP : Cal P w K mg base CX0 1 "_law_pick" spPick := cal_of dP fun f fd F => ok_pick T F
  have cN : Cal P w K mg base CX0 1 "is_name" spName := cal_of dN fun f fd F => ok_name T F
  refine F.ok scLaw (fun vs H Q E h => ?_) (fun cdv A outer s H vs Q E hr h => ?_)
  · obtain ⟨a, ns, rfl, _⟩ := h
    rfl
  · obtain ⟨a, ns, rfl, hS, hlen, q⟩ := h
    refine ⟨_, (pss_cons (ps_set (i := 1) scLaw.nd rfl (Or.inl rfl) (pe_c cT hr (by decide) rfl (pa_cons (pv 0) (pa_cons pe_int pa_nil))))
  (pss_cons (ps_set (i := 2) scLaw.nd rfl (Or.inl rfl) (pe_strS [97, 98, 99, 100, 101, 102, 103, 104, 105, 106, 107, 108, 109, 110, 111, 112, 113, 114, 115, 116, 117, 118, 119, 120, 121, 122] (by decide +kernel)))
  (pss_cons (ps_set (i := 3) scLaw.nd rfl (Or.inl rfl) (pe_strS [65, 66, 90, 48, 49, 57, 32, 95, 45, 46, 58, 47, 123, 125, 33, 126, 64, 91, 96, 10, 34, 39, 43, 44, 59, 35] (by decide +kernel)))
  (pss_cons (ps_for PassesOwn.never rfl (pi_range1 (by rfl) T.z_range (pa_cons pe_int pa_nil)) (pg_name (i := 4) scLaw.nd rfl (Or.inl rfl))
  (pss_cons (ps_set (i := 5) scLaw.nd rfl (Or.inl rfl) (pe_c cP hr (by decide) rfl (pa_cons (pv 1) (pa_cons pe_int pa_nil))))
  (pss_cons (ps_set (i := 6) scLaw.nd rfl (Or.inl rfl) (pe_strS ([] : List Nat) (by decide +kernel)))
  (pss_cons (ps_for PassesOwn.never rfl (pi_range1 (by rfl) T.z_range (pa_cons (pv 5) pa_nil)) (pg_name (i := 7) scLaw.nd rfl (Or.inl rfl))
  (pss_one (ps_set (i := 6) scLaw.nd rfl (Or.inl rfl) (pe_op op_catS (pv 6) (pe_ix ix_S (pv 2) (pe_c cP hr (by decide) rfl (pa_cons (pv 1) (pa_cons pe_int pa_nil))) (fun _ _ => rfl))))))
  (pss_cons (ps_if (PW.pt (pw_or (pt_cmpR op_ne (pe_c cN hr (by decide) rfl (pa_cons (pv 6) pa_nil)) (pe_chain op_le op_le pe_int (pv 5) pe_int) (nomark _)) (pw_or1 (pt_not (pt_val (pe_callB call_isi (by rfl) T.z_isinstance (by decide +kernel) (pa_cons (pe_c cN hr (by decide) rfl (pa_cons (pv 6) pa_nil)) (pa_cons (pe_bltn (v := .ty "bool") (by rfl) T.z_bool (by decide +kernel) rfl) pa_nil)))))))) (pss_one (ps_ret pe_bl)) pss_nil)
  (pss_cons (ps_set (i := 8) scLaw.nd rfl (Or.inl rfl) (pe_c cP hr (by decide) rfl (pa_cons (pv 1) (pa_cons (pe_op op_add (pv 5) pe_int) pa_nil))))
  (pss_cons (ps_set (i := 9) scLaw.nd rfl (Or.inl rfl) (pe_ix ix_S (pv 3) (pe_c cP hr (by decide) rfl (pa_cons (pv 1) (pa_cons (pe_callB call_lenS (by rfl) T.z_len (by decide +kernel) (pa_cons (pv 3) pa_nil)) pa_nil))) (fun _ _ => rfl)))
  (pss_cons (ps_set (i := 10) scLaw.nd rfl (Or.inl rfl) (pe_op op_catS (pe_op op_catS (pe_slice sl_to (pv 6) po_none (po_some (pv 8))) (pv 9)) (pe_slice sl_from (pv 6) (po_some (pv 8)) po_none)))
  (pss_cons (ps_if (PW.pt (pw_or (pt_cmpR op_notBl (pe_c cN hr (by decide) rfl (pa_cons (pv 10) pa_nil)) pe_bl (nomark _)) (pw_or1 (pt_cmpR op_notBl (pe_c cN hr (by decide) rfl (pa_cons (pv 9) pa_nil)) pe_bl (nomark _))))) (pss_one (ps_ret pe_bl)) pss_nil)
  (pss_one (ps_if (PW.pt (pw_or (pt_cmpR op_ne (pe_c cN hr (by decide) rfl (pa_cons (pe_op op_mulS (pe_slice sl_to (pv 6) po_none (po_some pe_int)) pe_int) pa_nil)) (pe_cmpR op_gt (pv 5) pe_int (nomark _)) (nomark _)) (pw_or1 (pt_cmpR op_notBl (pe_c cN hr (by decide) rfl (pa_cons (pv 2) pa_nil)) pe_bl (nomark _))))) (pss_one (ps_ret pe_bl)) pss_nil)))))))))))
  (pss_cons (ps_if (PW.pt (pw_or (pt_cmpR op_notBl (pe_c cN hr (by decide) rfl (pa_cons (pe_strS ([] : List Nat) (by decide +kernel)) pa_nil)) pe_bl (nomark _)) (pw_or1 (pt_cmpR op_notBl (pe_c cN hr (by decide) rfl (pa_cons (pe_strS [97] (by decide +kernel)) pa_nil)) pe_bl (nomark _))))) (pss_one (ps_ret pe_bl)) pss_nil)
  (pss_one (ps_ret (pe_and (pe_cmpR op_isBl (pe_c cN hr (by decide) rfl (pa_cons (pe_strS [97, 98, 99, 100, 101, 102, 103, 104] (by decide +kernel)) pa_nil)) pe_bl (nomark _)) (pe_one (pe_cmpR op_isBl (pe_c cN hr (by decide) rfl (pa_cons (pe_strS [97, 98, 99, 100, 101, 102, 103, 104, 105] (by decide +kernel)) pa_nil)) pe_bl (nomark _))))))))))), ?_⟩
    -- the tape, the two pools
    refine ⟨_, rfl, a, ns, 0, rfl, hS, by decide, by decide, fun tp TA TB htp htk => ?_⟩
    have F0 : TapeAt (upd H tp (tapeO TA TB)) tp := ⟨TA, TB, upd_same, htk⟩
    -- the turns
    refine ⟨6, rfl, by decide, by decide, for_range (lo := 0) (n := 6) (fun i σ H' => ∃ v4 v5 v6 v7 v8 v9 v10 : Option V, σ = [some (.ref a), some (.ref tp), some (.str (S poolL)), some (.str (S othL)), v4, v5, v6, v7, v8, v9, v10] ∧ TapeAt H' tp)
      ⟨none, none, none, none, none, none, none, rfl, F0⟩ ?_ ?_⟩
    · rintro i σ H1 hi ⟨v4, v5, v6, v7, v8, v9, v10, rfl, t1⟩
      refine ⟨_, rfl, tp, 12, rfl, t1, by decide, by decide, fun z H2 z0 z1 F2 => ?_⟩
      refine ⟨_, rfl, z, rfl, by omega, by omega, for_range (lo := 0) (n := z.toNat) (fun j σ H' => ∃ (l : List Nat) (v7 : Option V), σ = [some (.ref a), some (.ref tp), some (.str (S poolL)), some (.str (S othL)), some (.int (0 + (i : Int))), some (.int z), some (.str (S l)), v7, v8, v9, v10] ∧ l.length = j ∧ (∀ c ∈ l, lowc c = true) ∧ TapeAt H' tp)
        ⟨[], v7, rfl, rfl, (fun _ h => nomatch h), F2.2⟩ ?_ ?_⟩
      · rintro j σ H3 hj ⟨l, v7, rfl, hl, hlow, t3⟩
        refine ⟨_, rfl, _, rfl, _, rfl, tp, 26, rfl, t3, by decide, by decide, fun r H4 r0 r1 F4 => ?_⟩
        obtain ⟨c, hc, hm⟩ := at_in (l := poolL) r0 (by exact r1)
        refine ⟨poolL, r, c, rfl, rfl, by decide, hc, l, [c], rfl, rfl, (by rw [List.length_singleton]; omega), ?_⟩
        refine ⟨l ++ [c], _, rfl, by rw [List.length_append, hl, List.length_singleton], fun d hd => ?_, F4.2⟩
        rcases List.mem_append.mp hd with hd | hd
        · exact hlow d hd
        · rw [List.mem_singleton.mp hd]
          exact pool_low c hm
      · rintro σ H3 ⟨l, v7, rfl, hl, hlow, t3⟩
        have hz : (l.length : Int) = z := by omega
        have hb : l.length ≤ 1000000 := by omega
        have hnm : nameL l = (decide (1 ≤ z) && decide (z ≤ 8)) := by
          rw [nameL_low hlow]
          congr 1 <;> exact decide_eq_decide.mpr (by omega)
        -- is_name(text) != (1 <= size <= 8) or not isinstance(..)
        refine ⟨_, rfl, l, rfl, hb, _, rfl, _, _, rfl, rfl, _, rfl, ?_⟩
        refine ite_bl (b := decide (z ≤ 8)) (Q := fun v H' => rNe (.bl (nameL l)) v H' _) ?_ (fun q1 => ⟨_, _, rfl, rfl, q1⟩)
        refine ⟨rfl, _, rfl, ?_⟩
        refine if_false_of (bl_ne hnm) ?_
        refine ⟨_, rfl, l, rfl, hb, _, _, _, _, true, rfl, .ty _, .base (.bl _), kit_ty (by decide +kernel), _, rfl, ?_⟩
        refine if_false_of rfl ?_
        -- at, sign, wrong
        refine ⟨_, rfl, _, rfl, _, _, rfl, rfl, tp, z + 1, rfl, t3, by omega, by omega, fun at_ H4 a0 a1 F4 => ?_⟩
        refine ⟨_, rfl, _, rfl, _, rfl, othL, rfl, by decide, tp, _, rfl, F4.2, by decide, by decide, fun r H5 r0 r1 F5 => ?_⟩
        obtain ⟨c, hc, hm⟩ := at_in (l := othL) r0 (by exact r1)
        refine ⟨othL, r, c, rfl, rfl, by decide, hc, ?_⟩
        have lt : (l.take at_.toNat).length ≤ 1000 := by rw [List.length_take]; omega
        have ld : (l.drop at_.toNat).length ≤ 1000 := by rw [List.length_drop]; omega
        refine ⟨_, rfl, _, rfl, _, rfl, l, _, rfl, rfl, rfl, a0, hb, _, rfl, l.take at_.toNat, [c], rfl, rfl, by rw [List.length_singleton]; omega, _, rfl, _, rfl, _, rfl, l, _, rfl, rfl, rfl, a0, hb, _, _, rfl, rfl, by rw [List.length_append, List.length_singleton]; omega, ?_⟩
        have wb : ((l.take at_.toNat ++ [c]) ++ l.drop at_.toNat).length ≤ 1000000 := by rw [List.length_append, List.length_append, List.length_singleton]; omega
        have wn : nameL ((l.take at_.toNat ++ [c]) ++ l.drop at_.toNat) = false := nameL_bad (c := c) (by simp) (oth_low c hm)
        have sn : nameL [c] = false := nameL_bad (c := c) (by simp) (oth_low c hm)
        refine ⟨_, rfl, _, rfl, wb, _, _, rfl, rfl, _, rfl, ?_⟩
        rw [wn]
        refine if_false_of rfl ?_
        refine ⟨_, rfl, [c], rfl, (by show 1 ≤ 1000000; decide), _, _, rfl, rfl, _, rfl, ?_⟩
        rw [sn]
        refine if_false_of rfl ?_
        -- text[:1] * 8
        obtain ⟨r8m, r8l⟩ := rep8 l
        have r8 : nameL (List.replicate (8 : Int).toNat (l.take (1 : Int).toNat)).flatten = decide (0 < z) := by
          rw [nameL_low (fun c hc => hlow c (r8m c hc)), r8l]
          by_cases h0 : 0 < z
          · rw [decide_eq_true h0, decide_eq_true (by omega), decide_eq_true (by omega)]
            rfl
          · rw [decide_eq_false h0, decide_eq_false (by omega)]
            rfl
        refine ⟨_, rfl, _, rfl, l, _, rfl, rfl, rfl, by decide, hb, l.take (1 : Int).toNat, 8, rfl, rfl, by decide, by decide, by rw [List.length_take]; omega, _, rfl, by omega, ?_⟩
        refine ⟨_, rfl, _, _, rfl, rfl, rfl, _, rfl, ?_⟩
        refine if_false_of (bl_ne r8) ?_
        refine ⟨_, rfl, poolL, rfl, by decide, _, _, rfl, rfl, _, rfl, ?_⟩
        refine if_false_of (by decide) ?_
        exact ⟨_, _, _, _, _, _, _, rfl, F5.2⟩
    · rintro σ H1 ⟨v4, v5, v6, v7, v8, v9, v10, rfl, t1⟩
      refine ⟨[], rfl, by decide, _, _, rfl, rfl, _, rfl, ?_⟩
      refine if_false_of (by decide) ?_
      refine ⟨[97], rfl, by decide, _, _, rfl, rfl, _, rfl, ?_⟩
      refine if_false_of (by decide) ?_
      refine ⟨_, rfl, by decide, _, _, rfl, rfl, _, rfl, ?_⟩
      refine if_true_of (by decide) ?_
      refine ⟨_, rfl, by decide, _, _, rfl, rfl, ?_⟩
      exact q _
theorem all_mk {l : PySem.W.OpenLaw} {w : World} {K : PySem.W.Frag} {h : Heap} {mg : Str → Option Value} {fa f1 : Addr} (X : K.In h) (G : h.Ns mainGlobals mg) (hfa : mg "law" = some (.ref fa))
    {od an : Option Addr} {sl : Array (Option Value)} {oc kV dc pm cd ct : Value}
    (T : Txt K mg)
    (d__law_tape : DefAt K mg "_law_tape" sTape ["_law_script", "_law_k"])
    (d__law_pick : DefAt K mg "_law_pick" sPick ["_law_tape_here", "_law_many"])
    (d_is_name : DefAt K mg "is_name" sName ["text"])
    (a4 : PySem.W.nsIn K mainGlobals "law" = some (some (.ref f1))) (l4 : K.lookup f1 = some ⟨oc, od, .func (PySem.W.fnOf "law" "law" (defArgs sLaw) (defBody sLaw) (defScope sLaw) .none kV dc pm an cd ct), sl⟩) (c4 : PySem.W.codeIn K cd "law" = true) (k4 : PySem.W.keepIn K (.ref f1) = true) :
    ∃ fd : FuncData, (∀ (s : Shared) (v : Value), BindsTo s fd ⟨[v], []⟩ [("_law_script", v)]) ∧ ∀ base : Heap, K.In base → base.Ns mainGlobals mg → FnOk l.prog w K mg base CX0 3 fa fd ["_law_script"] (spLaw K) := by
  have e := hfa.symm.trans (PySem.W.mg_of X G a4)
  cases e
  exact ⟨PySem.W.fnOf "law" "law" (defArgs sLaw) (defBody sLaw) (defScope sLaw) .none kV dc pm an cd ct, fun s v => .of_eq rfl, fun base _ _ => ok_law T d__law_tape d__law_pick d_is_name (fun_mk (st := sLaw) l4 c4 k4)⟩
theorem walk_law {l : PySem.W.OpenLaw} {q : Program} {loose : List Str} {XP : (Str → Option Value) → Heap → Prop} {YP : World → Heap → Prop} {d : DefRec} {K : Params → PySem.W.Frag} (hn : l.most = some 63) (hdf : d.params.defaults = [])
    (hY : ∀ (w : World) (h : Heap), YP w h → (K w.params).In h)
    (F : ∀ (w : World) (mg : Str → Option Value) (fa : Addr) (h : Heap), (K w.params).In h → h.Ns mainGlobals mg → mg d.name = some (.ref fa) →
      ∃ fd : FuncData, (∀ (s : Shared) (u : Value), BindsTo s fd ⟨[u], []⟩ [("_law_script", u)]) ∧ ∀ base : Heap, (K w.params).In base → base.Ns mainGlobals mg → FnOk l.prog w (K w.params) mg base CX0 3 fa fd ["_law_script"] (spLaw (K w.params))) :
    PySem.W.WalkO q loose XP YP l.row.toRowW d [] (fun f vs => PySem.call f vs) :=
  L2.walk_of (n := 63) (k := 3) (x := "_law_script") (CX := fun _ => CX0) (sp := fun w => spLaw (K w.params)) hn (by decide) hdf ⟨rfl, by decide, by decide⟩ hY F (fun _ _ a ns hl _ hS => ⟨a, ns, rfl, hS, hl, fun _ => rfl⟩) fun _ _ _ _ _ z => z
end Pt

open PySem PySem.W PyProof.Rows in
set_option maxRecDepth 100000 in
set_option maxHeartbeats 0 in
theorem PySem.Challenge.cw_partlabels_k13_names_holds : PySem.Challenge.rw_partlabels_k13_names.Holds := by
  w_on; o_law; k_head; (case hw => w_witness2)
  k_fill
  refine Pt.walk_law (l := PySem.Challenge.rw_partlabels_k13_names) rfl rfl (fun w h Y => PySem.W.kIn_of Y) ?F
  case F =>
    intro w mg fa h KX G hmg
    refine' Pt.all_mk KX G hmg ⟨PySem.W.mg_none_of KX G ?z_abs, PySem.W.mg_none_of KX G ?z_bool, PySem.W.mg_none_of KX G ?z_int, PySem.W.mg_none_of KX G ?z_isinstance, PySem.W.mg_none_of KX G ?z_len, PySem.W.mg_none_of KX G ?z_range, PySem.W.mg_none_of KX G ?z_str, ⟨_, PySem.W.mg_of KX G ?g_LONGEST, ?r_LONGEST⟩⟩ (Pt.defAt_mk (x := "_law_tape") (st := Pt.sTape) (ps := ["_law_script", "_law_k"]) KX G ?a__law_tape ?l__law_tape ?c__law_tape ?k__law_tape (fun _ _ _ _ _ _ us hl => match us, hl with | [_, _], _ => rfl)) (Pt.defAt_mk (x := "_law_pick") (st := Pt.sPick) (ps := ["_law_tape_here", "_law_many"]) KX G ?a__law_pick ?l__law_pick ?c__law_pick ?k__law_pick (fun _ _ _ _ _ _ us hl => match us, hl with | [_, _], _ => rfl)) (Pt.defAt_mk (x := "is_name") (st := Pt.sName) (ps := ["text"]) KX G ?a_is_name ?l_is_name ?c_is_name ?k_is_name (fun _ _ _ _ _ _ us hl => match us, hl with | [_], _ => rfl)) ?a4 ?l4 ?c4 ?k4
    (case g_LONGEST => k_is)
    (case r_LONGEST => exact ⟨_, rfl⟩)
    (case z_abs => k_is)
    (case z_bool => k_is)
    (case z_int => k_is)
    (case z_isinstance => k_is)
    (case z_len => k_is)
    (case z_range => k_is)
    (case z_str => k_is)
    (case a__law_tape => k_is)
    (case l__law_tape => k_is)
    (case c__law_tape => k_is)
    (case k__law_tape => k_is)
    (case a__law_pick => k_is)
    (case l__law_pick => k_is)
    (case c__law_pick => k_is)
    (case k__law_pick => k_is)
    (case a_is_name => k_is)
    (case l_is_name => k_is)
    (case c_is_name => k_is)
    (case k_is_name => k_is)
    (case a4 => k_is)
    (case l4 => k_is)
    (case c4 => k_is)
    (case k4 => k_is)
