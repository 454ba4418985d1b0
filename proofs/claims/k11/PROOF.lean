import PyProof.Rows.All
import Wide.All
import OpenK.AllK
import Wide.FinOn
import HandS.ForMost
import HandS.Wide
import HandS.WideBits
import HandS.Style
import HandS.IsInst
import HandS.StrMore
import HandS.Codes
import HandS.Exc
import HandS.TryOnly
import HandS.TryMany
import HandS.ExcOwn
import HandS.WordsExc
import HandS.ExcInit
import HandS.ExcIs
import HandS.ExcField
import HandS.TupLe
import KE.KExcIs
import HandS.ExcValue
import HandS.Defaults
import PySem.Challenge.RW_partlabels_k11_errors
set_option Elab.async false
set_option linter.all false
set_option maxRecDepth 100000
set_option maxHeartbeats 2000000
/-! Common to the laws: how a def of the text is told, the tape, drawing. -/
namespace Pt
open PySem PySem.Spec PyProof.Rows L2

/-- a def that may be called by its name; CX tells what may leave it -/
structure Cal (P : Program) (w : World) (K : PySem.W.Frag) (mg : Str → Option Value) (base : Heap) (CX : CXT) (k : Nat) (x : Str) (sp : Sp) : Prop where
  ex : ∃ (f : Addr) (fd : FuncData) (ps : List Str), FnOk P w K mg base CX k f fd ps sp ∧ mg x = some (.ref f) ∧ PySem.W.keepIn K (.ref f) = true ∧ Binds K fd ps []
/-- a def of the text as the top leaves it, under its name -/
structure DefAt (K : PySem.W.Frag) (mg : Str → Option Value) (x : Str) (st : Stmt) (ps : List Str) : Prop where
  ex : ∃ (f : Addr) (fd : FuncData), Fun K x x st f fd ∧ mg x = some (.ref f) ∧ Binds K fd ps []
theorem defAt_mk {K : PySem.W.Frag} {h : Heap} {mg : Str → Option Value} {x : Str} {st : Stmt} {ps : List Str} {f : Addr} {oc : Value} {od an : Option Addr} {sl : Array (Option Value)} {kV dc pm cd ct : Value} (X : K.In h) (G : h.Ns mainGlobals mg)
    (a : PySem.W.nsIn K mainGlobals x = some (some (.ref f)))
    (l : K.lookup f = some ⟨oc, od, .func (PySem.W.fnOf x x (defArgs st) (defBody st) (defScope st) .none kV dc pm an cd ct), sl⟩) (c : PySem.W.codeIn K cd x = true) (k : PySem.W.keepIn K (.ref f) = true)
    (hb : ∀ (kV doc pm : Value) (an : Option Addr) (cdv ct : Value) (us : List Value), us.length = ps.length → bindArgs (PySem.W.fnOf x x (defArgs st) (defBody st) (defScope st) .none kV doc pm an cdv ct) ⟨us, []⟩ = pure (ps.zip us)) : DefAt K mg x st ps := by
  have F := fun_mk (st := st) l c k
  exact ⟨⟨f, _, F, PySem.W.mg_of X G a, F.binds hb⟩⟩
section
variable {P : Program} {w : World} {K : PySem.W.Frag} {mg : Str → Option Value} {base : Heap}
theorem cal_of {CX : CXT} {k : Nat} {x : Str} {st : Stmt} {ps : List Str} {sp : Sp} (D : DefAt K mg x st ps) (h : ∀ (f : Addr) (fd : FuncData), Fun K x x st f fd → FnOk P w K mg base CX k f fd ps sp) : Cal P w K mg base CX k x sp := by
  obtain ⟨f, fd, F, m, b⟩ := D.ex
  exact ⟨⟨f, fd, ps, h f fd F, m, F.kp, b⟩⟩
end
section
variable {X : Cx} {j k : Nat} {x : Str} {sp : Sp} {p pos : Pos} {e : Expr} {es : List Expr} {t : TA}
theorem pe_c (c : Cal X.prog X.w X.K X.mg X.base CX0 k x sp) (hr : Room j X.A) (hk : k ≤ j) (hg : Gl X x) (ha : PA X (e :: es) t)
    (hdb : (x == ("__debug__" : Str)) = false := by decide) (he : starEach (e :: es) X.env = (false, eval e X.env) :: starEach es X.env := by rfl) (hpl : (backTo pos (starEach es X.env)).any (·.1) = false := by rfl) :
    PE X (.Call (.Name x p) (e :: es) [] pos) (tCall sp [] E0 t) := by
  obtain ⟨f, fd, ps, F, hm, kp, b⟩ := c.ex
  exact pe_call F (hr.mono hk) hg hm kp b .nil pass0 ha hdb he hpl
/-- text * int -/
def rMulS : R2 := fun x y H Q => ∃ (z : Str) (n : Int), x = .str z ∧ y = .int n ∧ 0 ≤ n ∧ n ≤ 100000 ∧ z.length ≤ 100 ∧ Q (.str (Txt.mul z n)) H
theorem op_mul_str : OpR X (binaryOp .Mult) rMulS := by
  intro pins s σ H x y v u Q I rx ry h
  obtain ⟨z, n, rfl, rfl, h0, h1, hz, q⟩ := h
  obtain ⟨t, rfl⟩ := rx
  obtain ⟨t', rfl⟩ := ry
  refine SB.mul ⟨?_, fun a b => ?_, fun a b => ?_⟩ (fun t2 k => ⟨.str (Txt.mul z n), H, I.tok _, ⟨_, rfl⟩, q⟩)
  · rw [decide_eq_false (by omega), decide_eq_false (by omega)] <;> rfl
  · have hn : 0 < n := by omega
    have e : (100 : Int) ≤ (2 ^ 63 - 1) / n := by
      refine (Int.le_ediv_iff_mul_le hn).mpr ?_
      omega
    omega
  · unfold Builtin.Str.tooLong
    have hs : sizeLine = 16777216 := sizeLine_eq
    have e : z.length * n.toNat ≤ 100 * 100000 := Nat.mul_le_mul hz (by omega)
    refine decide_eq_false ?_
    omega
end

theorem if_true_of {c : Bool} {A B : Prop} (hc : c = true) (h : A) : if c = true then A else B := by
  rw [if_pos hc]
  exact h
theorem if_false_of {c : Bool} {A B : Prop} (hc : c = false) (h : B) : if c = true then A else B := by
  rw [hc, if_neg Bool.false_ne_true]
  exact h

/-! ### the tape -/
def tapeO (A B : Int) : HO := .lst [.int A, .int B]
def TapeOk (A B : Int) : Prop := 0 ≤ A ∧ 0 ≤ B ∧ B ≤ 2147483647
def TapeAt (H : Hp) (a : Addr) : Prop := ∃ A B : Int, H a = some (tapeO A B) ∧ TapeOk A B
/-- all but the tape at a stands -/
def Frm (a : Addr) (H H' : Hp) : Prop := (∀ b, b ≠ a → H' b = H b) ∧ TapeAt H' a
theorem Frm.refl {a : Addr} {H : Hp} (h : TapeAt H a) : Frm a H H := ⟨fun _ _ => rfl, h⟩
theorem Frm.trans {a : Addr} {H H1 H2 : Hp} (x : Frm a H H1) (y : Frm a H1 H2) : Frm a H H2 := ⟨fun b hb => (y.1 b hb).trans (x.1 b hb), y.2⟩
theorem Frm.put {a : Addr} {H : Hp} {A B : Int} (h : TapeOk A B) : Frm a H (upd H a (tapeO A B)) := ⟨fun b hb => upd_ne hb, A, B, upd_same, h⟩

def spTape (K : PySem.W.Frag) : Sp := fun vs H Q _ => ∃ (a : Addr) (ns : List Int) (k : Int), vs = [.ref a, .int k] ∧ SqL K H a (ns.map V.int) ∧ 0 ≤ k ∧ k ≤ 1000 ∧
  ∀ (p : Addr) (A B : Int), H p = none → TapeOk A B → Q (.ref p) (upd H p (tapeO A B))
def spPick : Sp := fun vs H Q _ => ∃ (a : Addr) (m : Int), vs = [.ref a, .int m] ∧ TapeAt H a ∧ 0 < m ∧ m < 2 ^ 120 ∧
  ∀ (r : Int) (H' : Hp), 0 ≤ r → r < m → Frm a H H' → Q (.int r) H'
end Pt
/-! Texts as lists of code points: the rules by values, told so. -/
namespace Pt
open PySem PySem.Spec PyProof.Rows L2
open SX (S S_len S_cat)
section
variable {X : Cx}
theorem S_beq_iff {a b : List Nat} : (V.str (S a) = V.str (S b)) ↔ a = b := ⟨fun h => SX.S_inj (V.str.inj h), fun h => by rw [h]⟩
theorem S_dec {a b : List Nat} : decide (V.str (S a) = V.str (S b)) = decide (a = b) := decide_eq_decide.mpr S_beq_iff
theorem size_ok {n : Nat} (h : n ≤ 1000000) : n ≤ sizeLine := Nat.le_trans h (by decide)
theorem pe_strS {x : Str} {j : Nat} {pos : Pos} (l : List Nat) (h : x = S l) : PE X (.Constant (.str x) j pos) (tC (.str (S l))) := by
  subst h
  exact pe_str
def rCatS : R2 := fun x y H Q => ∃ a b : List Nat, x = .str (S a) ∧ y = .str (S b) ∧ a.length + b.length ≤ 1000000 ∧ Q (.str (S (a ++ b))) H
theorem op_catS : OpR X (binaryOp .Add) rCatS := by
  intro pins s σ H x y v u Q I rx ry h
  obtain ⟨a, b, rfl, rfl, hz, q⟩ := h
  rw [← S_cat] at q
  exact op_add_str pins s σ H _ _ v u Q I rx ry ⟨S a, S b, rfl, rfl, by rw [S_len, S_len]; exact size_ok hz, q⟩
def rIxSL : R2 := fun x y H Q => ∃ (l : List Nat) (i : Int) (c : Nat), x = .str (S l) ∧ y = .int i ∧ l.length ≤ 1000000 ∧ atI l i = some c ∧ Q (.str (S [c])) H
theorem ix_S : IxR X rIxSL := by
  intro value slice pins s σ H x y v u Q I rx ry h hs
  obtain ⟨l, i, c, rfl, rfl, hz, he, q⟩ := h
  exact ix_str value slice pins s σ H _ _ v u Q I rx ry ⟨S l, i, c, rfl, rfl, by rw [S_len]; exact size_ok hz, by simpa using he, q⟩ hs
def rSlToS : V → Option Int → Option Int → Hp → VK → Prop := fun x lo hi H Q => ∃ (l : List Nat) (i : Int), x = .str (S l) ∧ lo = none ∧ hi = some i ∧ 0 ≤ i ∧ l.length ≤ 1000000 ∧ Q (.str (S (l.take i.toNat))) H
theorem sl_to : SlR X rSlToS := by
  intro pins s σ H x v vl vu lo hi sl Q I rx hs pl pu h
  obtain ⟨l, i, rfl, rfl, rfl, h0, hz, q⟩ := h
  exact C8.sl_txt pins s σ H _ v vl vu _ _ sl Q I rx hs pl pu ⟨S l, rfl, by rw [S_len]; exact size_ok hz, by rw [SX.slice_to h0]; exact q⟩
def rSlFromS : V → Option Int → Option Int → Hp → VK → Prop := fun x lo hi H Q => ∃ (l : List Nat) (i : Int), x = .str (S l) ∧ lo = some i ∧ hi = none ∧ 0 ≤ i ∧ l.length ≤ 1000000 ∧ Q (.str (S (l.drop i.toNat))) H
theorem sl_from : SlR X rSlFromS := by
  intro pins s σ H x v vl vu lo hi sl Q I rx hs pl pu h
  obtain ⟨l, i, rfl, rfl, rfl, h0, hz, q⟩ := h
  exact C8.sl_txt pins s σ H _ v vl vu _ _ sl Q I rx hs pl pu ⟨S l, rfl, by rw [S_len]; exact size_ok hz, by rw [SX.slice_from h0]; exact q⟩
theorem call_lenS : CallR X (.builtin "len") (fun xs H Q => ∃ l : List Nat, xs = [.str (S l)] ∧ l.length ≤ 1000000 ∧ Q (.int l.length) H) := by
  intro pins s σ H xs us Q I r h
  obtain ⟨l, rfl, hz, q⟩ := h
  exact call_len_str pins s σ H _ us Q I r ⟨S l, rfl, by rw [S_len]; exact size_ok hz, by rw [S_len]; exact q⟩
theorem foldl_rep (l : List Nat) : ∀ (n : Nat) (a : Array Nat), ((List.replicate n l.toArray).foldl (· ++ ·) a).toList = a.toList ++ (List.replicate n l).flatten
  | 0, a => by simp
  | n + 1, a => by
    rw [List.replicate_succ, List.foldl_cons, foldl_rep l n, List.replicate_succ, List.flatten_cons, Array.toList_append, List.append_assoc]
theorem mul_S (l : List Nat) {n : Int} (h0 : 0 ≤ n) : Txt.mul (S l) n = S (List.replicate n.toNat l).flatten := by
  unfold Txt.mul
  by_cases h1 : n < 1
  · have e : n.toNat = 0 := by omega
    rw [if_pos h1, e]
    rfl
  · rw [if_neg h1]
    by_cases h2 : (n == 1 || (S l).length == 0) = true
    · rw [if_pos h2]
      rw [Bool.or_eq_true, beq_iff_eq, beq_iff_eq, S_len] at h2
      rcases h2 with h2 | h2
      · subst h2
        show S l = S (List.replicate 1 l).flatten
        simp
      · have e : l = [] := List.length_eq_zero_iff.mp h2
        subst e
        simp
    · rw [if_neg h2]
      refine (SX.S_tl _).symm.trans (congrArg S ?_)
      show ((List.replicate n.toNat l.toArray).foldl (· ++ ·) #[]).toList = _
      rw [foldl_rep]
      rfl
def rMulSL : R2 := fun x y H Q => ∃ (l : List Nat) (n : Int), x = .str (S l) ∧ y = .int n ∧ 0 ≤ n ∧ n ≤ 100000 ∧ l.length ≤ 100 ∧ Q (.str (S (List.replicate n.toNat l).flatten)) H
theorem op_mulS : OpR X (binaryOp .Mult) rMulSL := by
  intro pins s σ H x y v u Q I rx ry h
  obtain ⟨l, n, rfl, rfl, h0, h1, hz, q⟩ := h
  exact op_mul_str pins s σ H _ _ v u Q I rx ry ⟨S l, n, rfl, rfl, h0, h1, by rw [S_len]; exact hz, by rw [mul_S l h0]; exact q⟩
end
theorem ite_bl {a b : Bool} {A : Prop} {Q : VK} {H : Hp} (h : Q (.bl (a && b)) H) (k : Q (.bl b) H → A) : if a = true then A else Q (.bl false) H := by
  cases a with
  | true => exact if_true_of rfl (k h)
  | false => exact if_false_of rfl h
theorem bl_ne {a b : Bool} (h : a = b) : (!decide (V.bl a = V.bl b)) = false := by rw [h]; simp
theorem at_in {l : List Nat} {r : Int} (h0 : 0 ≤ r) (h1 : r < (l.length : Int)) : ∃ c, atI l r = some c ∧ c ∈ l := by
  have hk : r.toNat < l.length := by omega
  refine ⟨l[r.toNat], by have q := atI_nat (List.getElem?_eq_getElem hk); rwa [show ((r.toNat : Nat) : Int) = r by omega] at q, List.getElem_mem hk⟩
end Pt
/-! Own exceptions: raised with or without a field, asked within a suite. -/
namespace Pt
open PySem PySem.Spec PyProof.Rows L2
/-- an own exception class, by what the written part says of it -/
structure XC (K : PySem.W.Frag) (mg : Str → Option Value) (x : Str) (C : Addr) : Prop where
  gC : mg x = some (.ref C)
  oex : OexC K C
  ex : ExcC K C
  me : PySem.W.exmOne K (.ref C) (.ref C) = some true
theorem XC.xf {K : PySem.W.Frag} {mg : Str → Option Value} {x : Str} {C : Addr} (T : XC K mg x C) : XfC K C := ⟨T.ex.hg, T.ex.hk, T.ex.hs, T.ex.hd⟩
theorem XC.mk' {K : PySem.W.Frag} {mg : Str → Option Value} {x : Str} {C : Addr} {nm q : Str} {N : Addr} {bs bm : List Value} {sn : List Str} {sub : List Value} {ab : Bool} {col : Option Bool} {dd : Option Addr} {k0 k1 k2 k3 k5 : Option Value}
    (gC : mg x = some (.ref C)) (l : K.lookup C = some (excClassObj nm q C N bs bm true sn sub ab col dd k0 k1 k2 k3 k5 "ValueError.__new__")) (hb : PySem.HandSPX.refsVE bm = true)
    (sa : PySem.W.findIn K (.ref C) "__setattr__" = some (some (.builtin "object.__setattr__"))) (tyC : PySem.W.typeIn K (.ref C) = some (.type "type")) (kC : PySem.W.keepIn K (.ref C) = true)
    (hg : PySem.W.findIn K (.ref C) "__getattribute__" = some (some (.builtin "BaseException.__getattribute__"))) (hk : PySem.W.findIn K (.ref C) "__getattr__" = some none)
    (hs : PySem.W.subIn K (.ref C) (.type "BaseException") = some true) (hd : PySem.W.hasDictIn K C = true) (ha : PySem.W.findIn K (.ref C) "__class__" = some (some (.builtin "object.__class__")))
    (hn : PySem.W.specialIn K (.builtin "object.__class__") "__get__" = some (some (.builtin "getset_descriptor.__get__"))) (ht : PySem.W.takesIn K (.builtin "object.__class__") = some true)
    (hm : PySem.W.mroIn K C (.type "object") = some true) (ss : PySem.W.subIn K (.ref C) (.ref C) = some true) : XC K mg x C :=
  ⟨gC, ⟨⟨_, _, _, _, _, _, _, _, _, _, _, _, _, _, _, l, hb⟩, sa, hs, tyC, kC⟩, ⟨hg, hk, hs, hd, ha, hn, ht, hm⟩, PySem.W.exm_ref hs hd tyC ss⟩

theorem kit_own {K : PySem.W.Frag} {C D : Addr} (hd : PySem.W.hasDictIn K D = true) (ht : PySem.W.typeIn K (.ref D) = some (.type "type")) (hs : PySem.W.subIn K (.ref C) (.ref D) = some true) : PySem.W.kitOne K (.ref C) (.ref D) = some true := by
  obtain ⟨cd, hc, _⟩ := PySem.W.any_some hd
  have e : ((PySem.W.clsIn K D).isSome && PySem.W.typeIn K (.ref D) == some (.type "type")) = true := by
    rw [hc, ht]
    rfl
  unfold PySem.W.kitOne PySem.W.kitCls
  split
  · rfl
  · show (if ((PySem.W.clsIn K D).isSome && PySem.W.typeIn K (.ref D) == some (.type "type")) = true then PySem.W.subIn K (.ref C) (.ref D) else none) = some true
    rw [if_pos e]
    exact hs
/-- __init__(self, f): self.f = f, of an exception that is being made -/
def spXI (C : Addr) (f : Str) : Sp := fun vs H Q _ => ∃ (a : Addr) (v : V), vs = [.ref a, v] ∧ H a = some (exo a C none) ∧
  ∀ d, H d = none → d ≠ a → Q .non (upd (upd H d (exd d [(f, v)])) a (exo a C (some d)))
theorem heap_back {H : Hp} {a d : Addr} {o1 o2 o3 o4 : HO} (ha : H a = none) (hd : d ≠ a) : upd (del (upd (upd (upd H a o1) d o2) a o3) a) d o4 = upd H d o4 := by
  funext b
  by_cases h1 : b = d
  · subst h1
    rw [upd_same, upd_same]
  · rw [upd_ne h1, upd_ne h1]
    by_cases h2 : b = a
    · subst h2
      rw [del_same, ha]
    · rw [del_ne h2, upd_ne h2, upd_ne h1, upd_ne h2]
/-- what making such an exception asks -/
theorem mkO_ok {C : Addr} {f : Str} {v : V} {H : Hp} {Q : XK} (h : ∀ d, H d = none → Q (.ref C) (some d) (upd H d (.xd [(f, v)]))) :
    ([v] : List V).length ≤ 1000 ∧ ∀ a, H a = none → spXI C f (.ref a :: (([v] : List V) ++ ([] : List V))) (upd H a (exo a C none))
      (fun u H2 => u = .non ∧ ∃ (d : Addr) (fs : List (Str × V)), H2 a = some (exo a C (some d)) ∧ H2 d = some (exd d fs) ∧ H d = none ∧ Q (.ref C) (some d) (upd (del H2 a) d (.xd fs))) (fun _ _ _ => False) := by
  refine ⟨(by show 1 ≤ 1000; decide), fun a ha => ⟨a, v, rfl, upd_same, fun d hd hda => ⟨rfl, d, [(f, v)], upd_same, ?_, ?_, ?_⟩⟩⟩
  · rw [upd_ne hda, upd_same]
  · rw [upd_ne hda] at hd
    exact hd
  · rw [heap_back ha hda]
    rw [upd_ne hda] at hd
    exact h d hd

section
variable {X : Cx} {C : Addr} {x : Str} {p pos : Pos} {sp : Sp} {j k : Nat} {e : Expr} {es : List Expr} {t : TA}
/-- X(), an own class without an __init__ -/
theorem pmk_own0 {bmB : List Value} {B newId initId : String} (F : ExcBaseFacts B newId initId bmB) (q : PySem.W.excIn X.K C bmB newId = true) (gC : X.mg x = some (.ref C)) (kC : PySem.W.keepIn X.K (.ref C) = true) (r : Raises X (.ref C)) (hg : Gl X x)
    (hdb : (x == ("__debug__" : Str)) = false := by decide) : PMk X (.Call (.Name x p) [] [] pos) (fun _ H Q => Q (.ref C) none H) := by
  intro pins s σ H Q J h
  refine wpAny_Call_Name_kw (ld_glob J hg gC ?_ hdb)
  refine PySem.W.callWith_K0 J.kIn kC ?_
  show wpAny _ _ (call (.ref C) []) _ _ _
  obtain ⟨bm, N, nm, qn, bs, hdct, sn, sub, ab, col, dd, k0, k1, k2, k3, k5, mN, hC, hN, hni, T⟩ := exc_obj J.kIn q
  obtain ⟨hp1, g1, d1, tk1, os1⟩ := s
  exact wpAny_call_exc_subT F T hC hN hni (fun h' a mk => mk_of J mk r h (J.hok.gone mk.new)) (Nat.zero_le _)
/-- a def that may raise, called where it does not -/
theorem pe_cX (c : Cal X.prog X.w X.K X.mg X.base (L2.CX X.prog X.w) k x sp) (hr : Room j X.A) (hk : k ≤ j) (hg : Gl X x) (ha : PA X (e :: es) t)
    (hdb : (x == ("__debug__" : Str)) = false := by decide) (he : starEach (e :: es) X.env = (false, eval e X.env) :: starEach es X.env := by rfl) (hpl : (backTo pos (starEach es X.env)).any (·.1) = false := by rfl) :
    PE X (.Call (.Name x p) (e :: es) [] pos) (tCall sp [] E0 t) := by
  obtain ⟨f, fd, ps, F, hm, kp, b⟩ := c.ex
  exact pe_call F (hr.mono hk) hg hm kp b .nil passL ha hdb he hpl
/-- .. called within a try -/
theorem pe_cS {W : WX} (c : Cal X.prog X.w X.K X.mg X.base (L2.CX X.prog X.w) k x sp) (hr : Room j X.A) (hk : k ≤ j) (hg : Gl X x) (tk : Takes X W) (ha : PA X (e :: es) t)
    (hdb : (x == ("__debug__" : Str)) = false := by decide) (he : starEach (e :: es) X.env = (false, eval e X.env) :: starEach es X.env := by rfl) (hpl : (backTo pos (starEach es X.env)).any (·.1) = false := by rfl) :
    PE X (.Call (.Name x p) (e :: es) [] pos) (tCallS sp (WE W) t) := by
  obtain ⟨f, fd, ps, F, hm, kp, b⟩ := c.ex
  exact pe_callS F (hr.mono hk) hg hm kp b (fun σ => passAt tk σ) ha hdb he hpl
/-- isinstance(e, c), e the exception that the suite holds, with or without a dict -/
def rIsX (K : PySem.W.Frag) (a : Addr) (cls : Value) (d : Option Addr) : List V → Hp → VK → Prop := fun xs H Q => ∃ (c : V) (cv : Value) (D : Addr) (b : Bool), xs = [.ref a, c] ∧ cls = .ref D ∧ ExcC K D ∧
  (d = none ∨ ∃ (dd : Addr) (fs : List (Str × V)), d = some dd ∧ H dd = some (.xd fs)) ∧ (∀ u, RelV c u → u = cv) ∧ PySem.W.kitOne K (.ref D) cv = some b ∧ Q (.bl b) H
theorem call_isX {a : Addr} {oe : Obj} {cls : Value} {d : Option Addr} {pn : List (Addr × Obj)} (hz : Zc cls d oe) (hf : ∃ vs, oe.data = .fields vs) : CallR (X.suite a ((a, oe) :: pn)) (.builtin "isinstance") (rIsX X.K a cls d) := by
  intro pins s σ H xs us Q J r h
  obtain ⟨c, cv, D, b, rfl, rfl, T, hd, hcv, e, q⟩ := h
  obtain ⟨u1, u2, rfl, r1, r2⟩ := vals2 r
  cases (show u1 = Value.ref a from r1)
  have ec := hcv _ r2
  subst ec
  obtain ⟨hget, _⟩ := J.pin (a, oe) (List.mem_append_left _ List.mem_cons_self)
  obtain ⟨vs, hv⟩ := hf
  have hnc : PySem.W.notCls oe = true := by unfold PySem.W.notCls; rw [hv]
  have hcl : (PySem.W.clsIn X.K D).isSome = true := by
    obtain ⟨cd, hc, _⟩ := PySem.W.any_some T.hd
    rw [hc]
    rfl
  obtain ⟨od, Y⟩ : ∃ od, PySem.W.InstAt s.heap a oe D od := by
    rcases hd with rfl | ⟨dd, fs, rfl, hdd⟩
    · exact ⟨none, hget, hz.1, hnc, by rw [hz.2]; trivial⟩
    · obtain ⟨mA, hns, _⟩ := (show ObjOk X.prog X.w H s.heap dd (.xd fs) from J.hok dd _ hdd)
      obtain ⟨od, ho, _⟩ := lookIn_ns hns
      exact ⟨some od, hget, hz.1, hnc, by rw [hz.2]; exact ho⟩
  exact PySem.W.kia_one (PySem.W.kitx_exc hcl T.hg T.hk T.hs T.ha T.hn T.ht T.hm) J.kIn Y e (fun z => nomatch z) fun tk => ⟨.bl b, H, J.tok tk, rfl, q⟩
end

/-! ### a walk over a text -/
theorem for_str {l : List Nat} {g : TG} {tb : TS} {D : Ends} {σ : L2.St} {H : Hp} (Pv : Nat → L2.St → Hp → Prop) (h0 : Pv 0 σ H)
    (hs : ∀ i c σ H, l[i]? = some c → Pv i σ H → g (.str (SX.S [c])) σ H fun σ2 H2 => tb { D with nx := Pv (i + 1), ct := Pv (i + 1), bk := D.nx } σ2 H2) (hd : ∀ σ H, Pv l.length σ H → D.nx σ H) :
    ∃ W : Nat → Nat → L2.St → Hp → Prop, (∃ m, W 0 m σ H) ∧ ∀ i m σ H, W i m σ H →
      ((Its (SX.S l)).stop i H ∧ D.nx σ H) ∨ ((Its (SX.S l)).go i H ∧ ∃ N : L2.St → Hp → Prop, (∀ σ' H', N σ' H' → ∃ m', m' < m ∧ W (i + 1) m' σ' H') ∧ ∀ x H', (Its (SX.S l)).yld i H x H' → g x σ H' fun σ2 H2 => tb { D with nx := N, ct := N, bk := D.nx } σ2 H2) := by
  refine ⟨fun i m σ H => m = l.length - i ∧ i ≤ l.length ∧ Pv i σ H, ⟨l.length, rfl, Nat.zero_le _, h0⟩, ?_⟩
  rintro i m σ H ⟨rfl, hi, pv⟩
  have hsz : (SX.S l).cps.size = l.length := by simp
  by_cases hlt : i < l.length
  · refine .inr ⟨(by show i < (SX.S l).cps.size; omega), Pv (i + 1), fun σ' H' p' => ⟨l.length - (i + 1), by omega, rfl, hlt, p'⟩, fun x H' y => ?_⟩
    obtain ⟨rfl, c, hc, rfl⟩ := y
    exact hs i c σ _ (by simpa using hc) pv
  · have e : i = l.length := by omega
    subst e
    exact .inl ⟨(by show (SX.S l).cps.size ≤ l.length; omega), hd σ H pv⟩
end Pt
/-! Own exceptions made by a call with keywords; exceptions as values. -/
namespace PySem
namespace PtX
open PySem.W PySem.Calls PyProof.Rows PySem.HandSPX
open Builtin Builtin.ObjectAttr
section
variable {prog : Program} {w : World} {Ar : Around} {Er : Value → Shared → Prop} {Rs : Result → Shared → Prop} {hp : Heap} {gs : Array GenState} {dr : Drawn} {tk : Nat} {os : OsState}
variable {nm q : Str} {C N : Addr} {bs bm bmB : List Value} {hdct : Bool} {sn : List Str} {sub : List Value} {ab : Bool} {col : Option Bool} {dd : Option Addr} {k0 k1 k2 k3 k5 : Option Value} {B newId initId : String}
variable {us : List Value} {kws : List (Str × Value)}
theorem chk_call {M : Model} {Qu : Unit → Shared → Prop} (eC : hp.get? C = some (excClassObj nm q C N bs bm hdct sn sub ab col dd k0 k1 k2 k3 k5 newId)) (z : Qu () ⟨hp, gs, dr, tk, os⟩) :
    wpAny M Ar (checkBuiltinCall "type.__call__" ⟨.ref C :: us, kws⟩) Qu Er ⟨hp, gs, dr, tk, os⟩ := by
  have fs := tc_sub
  have tyC : (⟨hp, gs, dr, tk, os⟩ : Shared).TypeIs (.ref C) "type" := ⟨_, eC, rfl⟩
  simp only [checkBuiltinCall, tc_kind, tc_split]
  repeat (any_goals (first | assumption | with_reducible refine wpAny_loadPart_at eC ?_ | with_reducible refine wpAny_onRaise ?_ | with_reducible refine wpAny_map ?_ | wp_step))
theorem chk_new (F : ExcBaseFacts B newId initId bmB) (hT : ∀ X : String, bm.contains (.type X) = bmB.contains (.type X)) {M : Model} {Qu : Unit → Shared → Prop}
    (eC : hp.get? C = some (excClassObj nm q C N bs bm hdct sn sub ab col dd k0 k1 k2 k3 k5 newId)) (z : Qu () ⟨hp, gs, dr, tk, os⟩) : wpAny M Ar (checkBuiltinCall newId ⟨.ref C :: us, kws⟩) Qu Er ⟨hp, gs, dr, tk, os⟩ := by
  have inB : (Value.ref C :: bm).contains (.type B) = true := by rw [List.contains_cons, hT, F.hasB, Bool.or_true]
  have ns := F.noStar
  simp only [checkBuiltinCall, F.newKind, F.newSplit, F.newRow]
  repeat (first | refine wpAny_loadPart_at eC ?_ | (refine wpAny_isSubtype_exc eC ?_; rw [inB]) | refine wpAny_staticBase_exc eC ?_ | refine wpAny_madeBy_exc eC ?_ | simp only [bne_self_eq_false, Bool.false_eq_true, if_false] | wp_step)
  exact z
theorem new_kw (F : ExcBaseFacts B newId initId bmB) (hT : ∀ X : String, bm.contains (.type X) = bmB.contains (.type X))
    (eC : hp.get? C = some (excClassObj nm q C N bs bm hdct sn sub ab col dd k0 k1 k2 k3 k5 newId))
    (z : Rs (.ok (.ret (.ref (hp.objs.size + 1)))) ⟨(hp.push (W.kdv_tup us)).push (excO C hp.objs.size), gs, dr, tk, os⟩) (lu : us.length ≤ sizeLine) :
    codeAny (model prog w) Ar (.builtin newId ⟨.ref C :: us, kws⟩) Rs ⟨hp, gs, dr, tk, os⟩ := by
  have fe := F.ends
  have inB : (Value.ref C :: bm).contains (.type B) = true := by rw [List.contains_cons, hT, F.hasB, Bool.or_true]
  have notA : (Value.ref C :: bm).contains (.type "AttributeError") = false := by rw [List.contains_cons, hT, F.noAttr]; rfl
  have notN : (Value.ref C :: bm).contains (.type "NameError") = false := by rw [List.contains_cons, hT, F.noName]; rfl
  refine codeAny_builtinAt F.entry ?_
  unfold Builtin.«BaseException.__new__»
  refine wpAt_bind ?_
  show wpAt _ _ _ (stack >>= _) _ _ _
  refine wpAt_bind (wpAt_stack fun top under => wpAt_of_wpAny ?_)
  wp_walk
  refine wpAt_of_wpAny ?_
  rw [F.owner]
  repeat (first | with_reducible refine wpAny_madeHere_exc F.canon eC ?_ | with_reducible refine wpAny_loadPart_at eC ?_ | (with_reducible refine wpAny_isSubtype_exc eC ?_; first | rw [inB] | rw [notA] | rw [notN]) | wp_step)
  show Rs _ _
  rw [Heap.size_push]
  exact z
theorem type_kw (F : ExcBaseFacts B newId initId bmB) (hT : ∀ X : String, bm.contains (.type X) = bmB.contains (.type X)) {fI : Addr} {Qf : Fin → Shared → Prop}
    (eC : hp.get? C = some (excClassObj nm q C N bs bm hdct sn sub ab col dd k0 k1 k2 k3 k5 newId))
    (li : W.Looks (model prog w) hp (typeLookup (.ref C) "__init__") (some (.ref fI))) (lb : ∀ self, W.Looks (model prog w) hp (bindSpecial (.ref fI) self) (.ref fI, [self])) (lu : us.length ≤ sizeLine)
    (z : codeAny (model prog w) Ar (.call (.ref fI) ⟨.ref (hp.objs.size + 1) :: us, kws⟩)
      (fun r s' => match r with | .ok (.ret v) => v = .none ∧ Qf (.done (.ret (.ref (hp.objs.size + 1)))) s' | .ok _ => False | .error e => Er e s')
      ⟨(hp.push (W.kdv_tup us)).push (excO C hp.objs.size), gs, dr, tk, os⟩) :
    wpAny (model prog w) Ar (Builtin.«type.__call__» ⟨.ref C :: us, kws⟩) Qf Er ⟨hp, gs, dr, tk, os⟩ := by
  repeat (first | with_reducible refine wpAny_loadPart_at eC ?_ | with_reducible refine wpAny_madeBy_exc eC ?_ | wp_step)
  refine codeAny_call_builtin_code (Code.quiet_builtin _ F.quiet) (chk_new F hT eC ?_)
  refine new_kw F hT eC ?_ lu
  show wpAny _ _ _ _ _ _
  have kp : ∀ b o, hp.get? b = some o → ((hp.push (W.kdv_tup us)).push (excO C hp.objs.size)).get? b = some o := fun b o e => Heap.get?_push_of_some _ (Heap.get?_push_of_some _ e)
  have eC2 := kp _ _ eC
  have eX : ((hp.push (W.kdv_tup us)).push (excO C hp.objs.size)).get? (hp.objs.size + 1) = some (excO C hp.objs.size) := by heap_get
  have inC : (Value.ref C :: bm).contains (.ref C) = true := by simp
  have li2 := li.keeps kp
  have lb2 := (lb (.ref (hp.objs.size + 1))).keeps kp
  unfold isInstance
  repeat (first | with_reducible refine wpAny_loadPart_at eX ?_ | (with_reducible refine wpAny_isSubtype_exc eC2 ?_; rw [inC]) | wp_step)
  show wpAny _ _ (typeLookup (.ref C) _) _ _ _
  refine li2.at ?_
  refine wpAny_holding (wpAny_bind (lb2.at ?_))
  refine wpAny_bind (wpAny_call (codeAny_mono z fun r s' y => ?_))
  rcases r with e | (v | _ | _ | _) <;> first | exact y | exact y.elim | skip
  obtain ⟨rfl, y⟩ := y
  first
    | exact wpAny_pure (wpAny_pure y)
    | (wp_walk; exact y)
theorem call_kw (F : ExcBaseFacts B newId initId bmB) (hT : ∀ X : String, bm.contains (.type X) = bmB.contains (.type X)) {fI : Addr}
    (eC : hp.get? C = some (excClassObj nm q C N bs bm hdct sn sub ab col dd k0 k1 k2 k3 k5 newId))
    (li : W.Looks (model prog w) hp (typeLookup (.ref C) "__init__") (some (.ref fI))) (lb : ∀ self, W.Looks (model prog w) hp (bindSpecial (.ref fI) self) (.ref fI, [self])) (lu : us.length ≤ sizeLine)
    (z : codeAny (model prog w) (Ar.under (.builtin "type.__call__" ⟨.ref C :: us, kws⟩)) (.call (.ref fI) ⟨.ref (hp.objs.size + 1) :: us, kws⟩) (W.InitBack (hp.objs.size + 1) Rs)
      ⟨(hp.push (W.kdv_tup us)).push (excO C hp.objs.size), gs, dr, tk, os⟩) :
    codeAny (model prog w) Ar (.call (.ref C) ⟨us, kws⟩) Rs ⟨hp, gs, dr, tk, os⟩ := by
  have fl := tc_lookup
  have fb := tc_bind (.ref C)
  have tyC : (⟨hp, gs, dr, tk, os⟩ : Shared).TypeIs (.ref C) "type" := ⟨_, eC, rfl⟩
  refine codeAny_of_tree ?_
  show wpAny _ _ (callAny (.ref C) _) _ _ _
  repeat (any_goals (first | assumption | with_reducible refine wpAny_loadPart_at eC ?_ | wp_step))
  refine ⟨rfl, ?_⟩
  refine codeAny_call_builtin_at (Code.quiet_builtin _ (by decide +kernel)) entry_typeCall (chk_call eC (type_kw F hT eC li lb lu ?_))
  refine codeAny_mono z fun r s' y => ?_
  rcases r with e | (v | _ | _ | _) <;> exact y
end
end PtX
end PySem
namespace Pt
open PySem PySem.Spec PyProof.Rows L2
theorem vals_rev : ∀ {vs : List V} {us : List Value}, Vals vs us → Vals vs.reverse us.reverse
  | _, _, .nil => .nil
  | _, _, .cons h t => by
    rw [List.reverse_cons, List.reverse_cons]
    exact (vals_rev t).append (.cons h .nil)
theorem Fun.kbn {K : PySem.W.Frag} {x q : Str} {st : Stmt} {f : Addr} {fd : FuncData} {ps ks : List Str} {n : Nat} {g : List Value → List Value → List Value} {gV : List V → List V → List V} (F : Fun K x q st f fd)
    (hrel : ∀ {vs : List V} {us : List Value} {zs : List V} {ws : List Value}, Vals vs us → Vals zs ws → Vals (gV vs zs) (g us ws))
    (h : ∀ (kV doc pm : Value) (an : Option Addr) (cdv ct : Value) (us ws : List Value), us.length = n → ws.length = ks.length → bindArgs (PySem.W.fnOf x q (defArgs st) (defBody st) (defScope st) .none kV doc pm an cdv ct) ⟨us, ks.zip ws⟩ = pure (ps.zip (g us ws))) :
    KBn K fd ps n ks g gV := by
  obtain ⟨oc, od, kV, doc, pm, an, cdv, ct, osl, rfl, lk, hcd⟩ := F.ex
  exact ⟨fun s us ws _ l1 l2 => .of_eq (h kV doc pm an cdv ct us ws l1 l2), hrel⟩
/-- at a: an error of the class at C, with a dict or without one -/
def IsE (H : Hp) (a C : Addr) : Prop := ∃ od : Option Addr, H a = some (exo a C od) ∧ ∀ d, od = some d → ∃ fs, H d = some (exd d fs)
theorem IsE.same {H H' : Hp} {a C : Addr} (h : IsE H a C) (s : Same H H') : IsE H' a C := by
  obtain ⟨od, e, g⟩ := h
  refine ⟨od, s _ _ e, fun d hd => ?_⟩
  obtain ⟨fs, z⟩ := g d hd
  exact ⟨fs, s _ _ z⟩
/-- self.f = v, self.g = u, of an error that is being made -/
def spXI2 (C : Addr) (f g : Str) : Sp := fun vs H Q _ => ∃ (a : Addr) (v u : V), vs = [.ref a, v, u] ∧ H a = some (exo a C none) ∧
  ∀ d, H d = none → d ≠ a → Q .non (upd (upd (upd H d (exd d [(f, v)])) a (exo a C (some d))) d (exd d [(g, u), (f, v)]))
section
variable {X : Cx} {CX : CXT} {C fI : Addr} {k j n : Nat} {fd : FuncData} {ps ks : List Str} {sp : Sp} {x f : Str} {p pos kp : Pos} {e o : Expr} {es : List Expr} {te t : TE} {ta tk : TA}
theorem run_xv {pins : List (Addr × Obj)} {σ : L2.St} {H : Hp} {s : Shared} {Q : VK} {us ws : List Value} {kv : List (Str × Value)} {vs : List V} (T : OexC X.K C) (iC : PySem.W.findIn X.K (.ref C) "__init__" = some (some (.ref fI))) (tI : PySem.W.typeIn X.K (.ref fI) = some (.type "function"))
    (F1 : FnOk X.prog X.w X.K X.mg X.base CX k fI fd ps sp) (hr : Room (k + 1) X.A) (hx : Passes CX X (fun _ _ _ => False)) (I : Inv X pins σ H s)
    (hb : ∀ (s : Shared) (self : Value), X.K.In s.heap → BindsTo s fd ⟨self :: us, kv⟩ (ps.zip (self :: ws))) (r : Vals vs ws) (lu : us.length ≤ sizeLine)
    (h : ∀ a, H a = none → sp (.ref a :: vs) (upd H a (exo a C none)) (fun u H2 => u = .non ∧ Q (.ref a) H2) (fun _ _ _ => False)) :
    wpAny (model X.prog X.w) X.A (call (.ref C) us kv) (EP X pins σ Q) X.xe s := by
  obtain ⟨nm, q, N, bs, bm, sn, sub, ab, col, dd, k0, k1, k2, k3, k5, hC, hbm⟩ := T.cls
  obtain ⟨hp, g, dr, tk, os⟩ := s
  have hsz : hp.objs.size ≤ hp.objs.size + 1 := Nat.le_succ _
  have hq := h (hp.objs.size + 1) (I.hok.fresh hsz)
  have kk : ∀ b o, hp.get? b = some o → ((hp.push (PySem.W.kdv_tup us)).push (PySem.HandSPX.excO C hp.objs.size)).get? b = some o := fun b o e => Heap.get?_push_of_some _ (Heap.get?_push_of_some _ e)
  have hget : ((hp.push (PySem.W.kdv_tup us)).push (PySem.HandSPX.excO C hp.objs.size)).get? (hp.objs.size + 1) = some (PySem.HandSPX.excO C hp.objs.size) := by heap_get
  have J : Inv X pins σ (upd H (hp.objs.size + 1) (exo (hp.objs.size + 1) C none)) ⟨(hp.push (PySem.W.kdv_tup us)).push (PySem.HandSPX.excO C hp.objs.size), g, dr, tk, os⟩ :=
    I.laid (t' := tk) (a := hp.objs.size + 1) (o := exo (hp.objs.size + 1) C none) (h' := (hp.push (PySem.W.kdv_tup us)).push (PySem.HandSPX.excO C hp.objs.size)) kk hsz (exo_ok hget)
  have r2 : Vals (V.ref (hp.objs.size + 1) :: vs) (Value.ref (hp.objs.size + 1) :: ws) := .cons rfl r
  refine wpAny_call (PySem.PtX.call_kw F.excBase_ValueError (fun Y => PySem.HandSPX.refsVE_contains Y bm hbm) (I.kIn _ _ hC) (PySem.W.looks_findIn I.kIn iC) (fun self => PySem.W.bind_fn I.kIn self tI) lu
    (codeAny_mono (F1.run _ X.stack _ _ ⟨Value.ref (hp.objs.size + 1) :: us, kv⟩ (Value.ref (hp.objs.size + 1) :: ws) _ _ (fun _ _ _ => False) (hr.make C us kv) (J.env0.make C us kv) (hb _ _ J.kIn) r2 hq) fun rr s' hq' => ?_))
  cases rr with
  | error er => exact hx pins σ _ _ er s' J hq'
  | ok fl =>
    cases fl with
    | ret u =>
      obtain ⟨v, H2, J2, rv, ev, q2⟩ := J.after hq'
      subst ev
      exact ⟨rv, ⟨V.ref (hp.objs.size + 1), H2, J2, rfl, q2⟩⟩
    | next => exact False.elim hq'
    | brk => exact False.elim hq'
    | cont => exact False.elim hq'
/-- X(e, ..), an own error class with an __init__, as a value -/
theorem pe_xv {R : List V → Hp → VK → Prop} (T : OexC X.K C) (iC : PySem.W.findIn X.K (.ref C) "__init__" = some (some (.ref fI))) (tI : PySem.W.typeIn X.K (.ref fI) = some (.type "function"))
    (F1 : FnOk X.prog X.w X.K X.mg X.base CX k fI fd ps sp) (hr : Room (k + 1) X.A) (hb : Binds X.K fd ps []) (hx : Passes CX X (fun _ _ _ => False)) (hg : Gl X x) (hm : X.mg x = some (.ref C)) (ha : PA X (e :: es) ta)
    (hR : ∀ vs H1 Q, R vs H1 Q → vs.length ≤ 1000 ∧ ∀ a, H1 a = none → sp (.ref a :: vs) (upd H1 a (exo a C none)) (fun u H2 => u = .non ∧ Q (.ref a) H2) (fun _ _ _ => False))
    (hdb : (x == ("__debug__" : Str)) = false := by decide) (he : starEach (e :: es) X.env = (false, eval e X.env) :: starEach es X.env := by rfl) (hpl : (backTo pos (starEach es X.env)).any (·.1) = false := by rfl) :
    PE X (.Call (.Name x p) (e :: es) [] pos) (fun σ H Q => ta σ H fun vs H1 => R vs H1 Q) := by
  refine ⟨fun pins s σ H Q I h => ?_⟩
  refine wpAny_Call_Name_kw (ld_glob I hg hm ?_ hdb)
  refine PySem.W.callWith_K (h₀ := X.base) I.ok.mod.kin T.kC (thn (ha.run pos pins s σ H _ I h) fun us s1 ⟨vs, H1, I1, r1, q1⟩ => ⟨I1.kIn, ?_⟩) he hpl
  show wpAny _ _ (call (.ref C) us) _ _ _
  obtain ⟨lz, q1⟩ := hR _ _ _ q1
  have hn0 : H1 s1.heap.objs.size = none := I1.hok.fresh (Nat.le_refl _)
  have lv : (vs.length + 1) = ps.length := F1.len _ _ _ _ (q1 _ hn0)
  have lu : us.length + 1 = ps.length := by rw [← r1.length]; exact lv
  refine run_xv T iC tI F1 hr hx I1 (fun s' self K' => ?_) r1 (by rw [← r1.length, sizeLine_eq]; omega) q1
  have z := hb s' (self :: us) K' (by rw [List.append_nil]; exact lu)
  rw [List.append_nil] at z
  exact z
/-- X(f = e, ..) -/
theorem pe_xk {R : List V → Hp → VK → Prop} {kws : List Keyword} {gp : List Value → List Value} {gq : List V → List V} (T : OexC X.K C) (iC : PySem.W.findIn X.K (.ref C) "__init__" = some (some (.ref fI))) (tI : PySem.W.typeIn X.K (.ref fI) = some (.type "function"))
    (F1 : FnOk X.prog X.w X.K X.mg X.base CX k fI fd ps sp) (hr : Room (k + 1) X.A) (hb : KBn X.K fd ps 1 ks (fun us ws => us ++ gp ws) (fun vs zs => vs ++ gq zs)) (hp : ∀ {zs : List V} {ws : List Value}, Vals zs ws → Vals (gq zs) (gp ws)) (hx : Passes CX X (fun _ _ _ => False)) (hg : Gl X x) (hm : X.mg x = some (.ref C)) (hkw : PK X kws tk)
    (hR : ∀ zs H1 Q, R zs H1 Q → zs.length = ks.length ∧ ∀ a, H1 a = none → sp (.ref a :: gq zs) (upd H1 a (exo a C none)) (fun u H2 => u = .non ∧ Q (.ref a) H2) (fun _ _ _ => False))
    (hall : (backToKw pos (keywordEach kws X.env)).all (·.1.isSome) = true := by rfl) (hks : (backToKw pos (keywordEach kws X.env)).filterMap (·.1) = ks := by rfl)
    (hdb : (x == ("__debug__" : Str)) = false := by decide) (hpl : ((backTo pos (starEach [] X.env)).any (·.1) || (backToKw pos (keywordEach kws X.env)).any (·.1.isNone)) = false := by rfl) :
    PE X (.Call (.Name x p) [] kws pos) (fun σ H Q => tk σ H fun zs H1 => R zs H1 Q) := by
  refine ⟨fun pins s σ H Q I h => ?_⟩
  refine wpAny_Call_Name_kw (ld_glob I hg hm ?_ hdb)
  refine PySem.W.callWith_KW0 (h₀ := X.base) I.ok.mod.kin T.kC hall (thn (hkw.run pos pins s σ H _ I h) fun ws s1 ⟨zs, H1, I1, r1, q1⟩ => ⟨I1.kIn, ?_⟩) hpl
  obtain ⟨lz, q1⟩ := hR _ _ _ q1
  rw [hks]
  show wpAny _ _ (call (.ref C) [] (ks.zip ws)) _ _ _
  exact run_xv T iC tI F1 hr hx I1 (fun s' self K' => hb.to s' [self] ws K' rfl (r1.length.symm.trans lz)) (hp r1) (Nat.zero_le _) q1
/-- X(), an own error class without an __init__, as a value -/
theorem pe_x0 {bmB : List Value} {B newId initId : String} (Fb : ExcBaseFacts B newId initId bmB) (q : PySem.W.excIn X.K C bmB newId = true) (gC : X.mg x = some (.ref C)) (kC : PySem.W.keepIn X.K (.ref C) = true) (hg : Gl X x)
    (hdb : (x == ("__debug__" : Str)) = false := by decide) : PE X (.Call (.Name x p) [] [] pos) (fun σ H Q => ∀ a, H a = none → Q (.ref a) (upd H a (exo a C none))) := by
  refine ⟨fun pins s σ H Q I h => ?_⟩
  refine wpAny_Call_Name_kw (ld_glob I hg gC ?_ hdb)
  refine PySem.W.callWith_K0 I.kIn kC ?_
  show wpAny _ _ (call (.ref C) []) _ _ _
  obtain ⟨bm, N, nm, qn, bs, hdct, sn, sub, ab, col, dd, k0, k1, k2, k3, k5, mN, hC, hN, hni, T⟩ := exc_obj I.kIn q
  refine wpAny_call_exc_subT Fb T hC hN hni (fun h' a hm => ?_) (Nat.zero_le _)
  have hn : H a = none := I.hok.gone hm.new
  obtain ⟨t, ht, _, _⟩ := hm.there
  exact ⟨.ref a, _, I.laidN hm.keeps hm.new hn (exo_ok ht), rfl, h a hn⟩
/-- the reading: the object is a tracked error, its field is told -/
def tXg (C : Addr) (f : Str) (te : TE) : TE := fun σ H Q => te σ H fun y H1 => ∃ (a d : Addr) (fs : List (Str × V)) (v : V), y = .ref a ∧ H1 a = some (exo a C (some d)) ∧ H1 d = some (exd d fs) ∧ fs.lookup f = some v ∧ Q v H1
/-- e.f, e an own error that stands in H -/
theorem pe_xg (T : XfC X.K C) (hno : PySem.W.findIn X.K (.ref C) f = some none) (he : PE X o te) (hb : attributeBase o f X.env (eval o X.env) = eval o X.env := by rfl) :
    PE X (.Attribute o f pos) (tXg C f te) := by
  refine ⟨fun pins s σ H Q I h => ?_⟩
  refine attr_of hb (thn (he.run pins s σ H _ I h) fun u s1 hh => ?_)
  obtain ⟨y, H1, I1, ry, a, d, fs, v, rfl, ea, ed, l, q⟩ := hh
  obtain rfl : u = Value.ref a := ry
  obtain ⟨t1, ho⟩ := exo_at I1.hok ea
  obtain ⟨mA, hns, rel⟩ := exd_at I1.hok ed
  obtain ⟨od, hod, hl⟩ := lookIn_ns hns
  obtain ⟨u, hu, ru⟩ := RelO.some_of (v := v) (o := mA f) (by rw [← l]; exact rel f)
  have J : PySem.W.InstAt s1.heap a { cls := .ref C, dict := some d, data := .fields #[.ref t1, .none, .none, .none, .bool false, .none] } C (some od) := ⟨ho, rfl, rfl, hod⟩
  exact HandSPX.exc_get I1.kIn J T.ga T.gg T.exC (PySem.W.findObj_own T.hdC hno rfl (by rw [hl, hu])) (handed_of ru) ⟨v, H1, I1.tok _, ru, q⟩
/-- isinstance(e, c), e an own error that stands in H -/
def rIsV (K : PySem.W.Frag) : List V → Hp → VK → Prop := fun xs H Q => ∃ (a : Addr) (c : V) (cv : Value) (D : Addr) (b : Bool), xs = [.ref a, c] ∧ ExcC K D ∧ IsE H a D ∧ (∀ u, RelV c u → u = cv) ∧ PySem.W.kitOne K (.ref D) cv = some b ∧ Q (.bl b) H
theorem call_isV : CallR X (.builtin "isinstance") (rIsV X.K) := by
  intro pins s σ H xs us Q J r h
  obtain ⟨a, c, cv, D, b, rfl, T, ⟨odA, ea, hd⟩, hcv, e, q⟩ := h
  obtain ⟨u1, u2, rfl, r1, r2⟩ := vals2 r
  cases (show u1 = Value.ref a from r1)
  have ec := hcv _ r2
  subst ec
  obtain ⟨t1, ho⟩ := exo_at J.hok ea
  have hcl : (PySem.W.clsIn X.K D).isSome = true := by
    obtain ⟨cd, hc, _⟩ := PySem.W.any_some T.hd
    rw [hc]
    rfl
  obtain ⟨od, Y⟩ : ∃ od, PySem.W.InstAt s.heap a { cls := .ref D, dict := odA, data := .fields #[.ref t1, .none, .none, .none, .bool false, .none] } D od := by
    cases odA with
    | none => exact ⟨none, ho, rfl, rfl, True.intro⟩
    | some dd =>
      obtain ⟨fs, ed⟩ := hd dd rfl
      obtain ⟨mA, hns, _⟩ := exd_at J.hok ed
      obtain ⟨od, ho2, _⟩ := lookIn_ns hns
      exact ⟨some od, ho, rfl, rfl, ho2⟩
  exact PySem.W.kia_one (PySem.W.kitx_exc hcl T.hg T.hk T.hs T.ha T.hn T.ht T.hm) J.kIn Y e (fun z => nomatch z) fun tk => ⟨.bl b, H, J.tok tk, rfl, q⟩
/-! ### the class's facts in one -/
end
/-- an own error class with __init__(self, f): self.f = f -/
structure E1 (K : PySem.W.Frag) (mg : Str → Option Value) (x : Str) (C : Addr) (f : Str) : Prop where
  xc : XC K mg x C
  no : PySem.W.findIn K (.ref C) f = some none
  ini : ∃ (fI : Addr) (fd : FuncData), PySem.W.findIn K (.ref C) "__init__" = some (some (.ref fI)) ∧ PySem.W.typeIn K (.ref fI) = some (.type "function") ∧
    (∀ P w base, FnOk P w K mg base CX0 1 fI fd ["self", f] (spXI C f)) ∧ Binds K fd ["self", f] [] ∧ KBn K fd ["self", f] 1 [f] (fun us ws => us ++ ws) (fun vs zs => vs ++ zs)
/-- .. with __init__(self, f, g) -/
structure E2 (K : PySem.W.Frag) (mg : Str → Option Value) (x : Str) (C : Addr) (f g : Str) : Prop where
  xc : XC K mg x C
  nf : PySem.W.findIn K (.ref C) f = some none
  ng : PySem.W.findIn K (.ref C) g = some none
  ini : ∃ (fI : Addr) (fd : FuncData), PySem.W.findIn K (.ref C) "__init__" = some (some (.ref fI)) ∧ PySem.W.typeIn K (.ref fI) = some (.type "function") ∧
    (∀ P w base, FnOk P w K mg base CX0 1 fI fd ["self", f, g] (spXI2 C f g)) ∧ Binds K fd ["self", f, g] [] ∧ KBn K fd ["self", f, g] 1 [g, f] (fun us ws => us ++ ws.reverse) (fun vs zs => vs ++ zs.reverse)
/-- .. without an __init__ -/
structure E0 (K : PySem.W.Frag) (mg : Str → Option Value) (x : Str) (C : Addr) : Prop where
  xc : XC K mg x C
  qx : PySem.W.excIn K C [.type "ValueError", .type "Exception", .type "BaseException", .type "object"] "ValueError.__new__" = true
/-- a new error of the class at C, with the fields that are passed -/
def rNew (C : Addr) (fs : List Str) : List V → Hp → VK → Prop := fun vs H Q => vs.length = fs.length ∧ ∀ (a d : Addr) (H' : Hp), Same H H' → H' a = some (exo a C (some d)) → H' d = some (exd d ((fs.zip vs).reverse)) → Q (.ref a) H'
theorem len1 {vs : List V} (h : vs.length = 1) : ∃ v, vs = [v] := match vs, h with | [v], _ => ⟨v, rfl⟩
theorem len2 {vs : List V} (h : vs.length = 2) : ∃ v u, vs = [v, u] := match vs, h with | [v, u], _ => ⟨v, u, rfl⟩
theorem lk1 {f : Str} {v : V} {l : List (Str × V)} : ((f, v) :: l).lookup f = some v := by rw [lookup_put, if_pos rfl]
theorem lk2 {f g : Str} {v u : V} {l : List (Str × V)} (h : f ≠ g) : ((g, u) :: (f, v) :: l).lookup f = some v := by rw [lookup_put, if_neg h, lk1]
theorem same_made {H : Hp} {a d C : Addr} {o : HO} (ha : H a = none) (hd : upd H a (exo a C none) d = none) (hne : d ≠ a) : Same H (upd (upd (upd H a (exo a C none)) d o) a (exo a C (some d))) := by
  rw [upd_ne hne] at hd
  intro b u e
  have h1 : b ≠ a := fun z => by rw [z, ha] at e; cases e
  have h2 : b ≠ d := fun z => by rw [z, hd] at e; cases e
  rw [upd_ne h1, upd_ne h2, upd_ne h1]
  exact e
theorem same_made2 {H : Hp} {a d C : Addr} {o o2 : HO} (ha : H a = none) (hd : upd H a (exo a C none) d = none) (hne : d ≠ a) : Same H (upd (upd (upd (upd H a (exo a C none)) d o) a (exo a C (some d))) d o2) := by
  intro b u e
  have h2 : b ≠ d := fun z => by rw [upd_ne hne] at hd; rw [z, hd] at e; cases e
  rw [upd_ne h2]
  exact same_made (o := o) ha hd hne b u e
theorem new_1 {C : Addr} {f : Str} (vs : List V) (H1 : Hp) (Q : VK) (h : rNew C [f] vs H1 Q) (a : Addr) (ha : H1 a = none) : spXI C f (.ref a :: vs) (upd H1 a (exo a C none)) (fun u H2 => u = .non ∧ Q (.ref a) H2) (fun _ _ _ => False) := by
  obtain ⟨l, q⟩ := h
  obtain ⟨v, rfl⟩ := len1 l
  exact ⟨a, v, rfl, upd_same, fun d hd hne => ⟨rfl, q a d _ (same_made ha hd hne) upd_same (by rw [upd_ne hne, upd_same]; rfl)⟩⟩
theorem new_2 {C : Addr} {f g : Str} (vs : List V) (H1 : Hp) (Q : VK) (h : rNew C [f, g] vs H1 Q) (a : Addr) (ha : H1 a = none) : spXI2 C f g (.ref a :: vs) (upd H1 a (exo a C none)) (fun u H2 => u = .non ∧ Q (.ref a) H2) (fun _ _ _ => False) := by
  obtain ⟨l, q⟩ := h
  obtain ⟨v, u, rfl⟩ := len2 l
  exact ⟨a, v, u, rfl, upd_same, fun d hd hne => ⟨rfl, q a d _ (same_made2 ha hd hne) (by rw [upd_ne (Ne.symm hne), upd_same]) (by rw [upd_same]; rfl)⟩⟩
section
variable {X : Cx} {C : Addr} {j : Nat} {x f g : Str} {p pos kp kp2 : Pos} {e e2 o : Expr} {te te2 : TE}
theorem pe_mk1 (T : E1 X.K X.mg x C f) (hr : Room j X.A) (hk : 2 ≤ j) (he : PE X e te) (hg : Gl X x := by rfl)
    (hdb : (x == ("__debug__" : Str)) = false := by decide) (hs : starEach [e] X.env = (false, eval e X.env) :: starEach [] X.env := by rfl) : PE X (.Call (.Name x p) [e] [] pos) (fun σ H Q => tCons te tNil σ H fun vs H1 => rNew C [f] vs H1 Q) := by
  obtain ⟨fI, fd, iC, tI, ok, b, kb⟩ := T.ini
  exact pe_xv T.xc.oex iC tI (ok X.prog X.w X.base) (hr.mono hk) b pass0 hg T.xc.gC (pa_cons (hs := hs) he pa_nil) (fun vs H1 Q h => ⟨by rw [h.1]; exact (by decide : (1 : Nat) ≤ 1000), new_1 vs H1 Q h⟩) hdb hs (by rfl)
theorem pe_mk2 (T : E2 X.K X.mg x C f g) (hr : Room j X.A) (hk : 2 ≤ j) (he : PE X e te) (he2 : PE X e2 te2) (hg : Gl X x := by rfl)
    (hdb : (x == ("__debug__" : Str)) = false := by decide) (hs : starEach [e, e2] X.env = (false, eval e X.env) :: starEach [e2] X.env := by rfl) (hs2 : starEach [e2] X.env = (false, eval e2 X.env) :: starEach [] X.env := by rfl)
    (hpl : (backTo pos (starEach [e2] X.env)).any (·.1) = false := by rfl) : PE X (.Call (.Name x p) [e, e2] [] pos) (fun σ H Q => tCons te (tCons te2 tNil) σ H fun vs H1 => rNew C [f, g] vs H1 Q) := by
  obtain ⟨fI, fd, iC, tI, ok, b, kb⟩ := T.ini
  exact pe_xv T.xc.oex iC tI (ok X.prog X.w X.base) (hr.mono hk) b pass0 hg T.xc.gC (pa_cons (hs := hs) he (pa_cons (hs := hs2) he2 pa_nil)) (fun vs H1 Q h => ⟨by rw [h.1]; exact (by decide : (2 : Nat) ≤ 1000), new_2 vs H1 Q h⟩) hdb hs hpl
theorem pe_mkK (T : E1 X.K X.mg x C f) (hr : Room j X.A) (hk : 2 ≤ j) (he : PE X e te) (hg : Gl X x := by rfl)
    (hdb : (x == ("__debug__" : Str)) = false := by decide) : PE X (.Call (.Name x p) [] [⟨some f, e, kp⟩] pos) (fun σ H Q => tCons te tNil σ H fun vs H1 => rNew C [f] vs H1 Q) := by
  obtain ⟨fI, fd, iC, tI, ok, b, kb⟩ := T.ini
  exact pe_xk (gp := id) (gq := id) T.xc.oex iC tI (ok X.prog X.w X.base) (hr.mono hk) kb (fun h => h) pass0 hg T.xc.gC (pk_cons he pk_nil) (fun vs H1 Q h => ⟨h.1, new_1 vs H1 Q h⟩) (by rfl) (by rfl) hdb (by rfl)
theorem pe_mkK2 (T : E2 X.K X.mg x C f g) (hr : Room j X.A) (hk : 2 ≤ j) (he : PE X e te) (he2 : PE X e2 te2) (hg : Gl X x := by rfl)
    (hdb : (x == ("__debug__" : Str)) = false := by decide) : PE X (.Call (.Name x p) [] [⟨some g, e, kp⟩, ⟨some f, e2, kp2⟩] pos) (fun σ H Q => tCons te (tCons te2 tNil) σ H fun vs H1 => rNew C [f, g] vs.reverse H1 Q) := by
  obtain ⟨fI, fd, iC, tI, ok, b, kb⟩ := T.ini
  exact pe_xk (gp := List.reverse) (gq := List.reverse) T.xc.oex iC tI (ok X.prog X.w X.base) (hr.mono hk) kb vals_rev pass0 hg T.xc.gC (pk_cons he (pk_cons he2 pk_nil)) (fun vs H1 Q h => ⟨by have z := h.1; rw [List.length_reverse] at z; exact z, new_2 vs.reverse H1 Q h⟩) (by rfl) (by rfl) hdb (by rfl)
theorem pe_mk0 (T : E0 X.K X.mg x C) (hg : Gl X x := by rfl) (hdb : (x == ("__debug__" : Str)) = false := by decide) : PE X (.Call (.Name x p) [] [] pos) (fun σ H Q => ∀ a, H a = none → Q (.ref a) (upd H a (exo a C none))) :=
  pe_x0 F.excBase_ValueError T.qx T.xc.gC T.xc.oex.kC hg hdb
theorem pe_fl (T : E1 X.K X.mg x C f) (he : PE X o te) (hb : attributeBase o f X.env (eval o X.env) = eval o X.env := by rfl) :
    PE X (.Attribute o f pos) (tXg C f te) := pe_xg T.xc.xf T.no he hb
end
end Pt
namespace Pt
open PySem PySem.Spec PyProof.Rows L2
open SX (S S_len S_cat)
def top (i : Nat) : Stmt := PySem.Challenge.pw_partlabels_k11_errors.main.body.getD i (.Pass ⟨0, 0, 0, 0⟩)
abbrev Cs := Nat → Addr
def clsB (K : PySem.W.Frag) (C : Addr) : Bool :=
  (PySem.W.findIn K (.ref C) "__setattr__" == some (some (.builtin "object.__setattr__"))) && (PySem.W.typeIn K (.ref C) == some (.type "type")) && PySem.W.keepIn K (.ref C) && (PySem.W.findIn K (.ref C) "__getattribute__" == some (some (.builtin "BaseException.__getattribute__"))) &&
  (PySem.W.findIn K (.ref C) "__getattr__" == some none) && (PySem.W.subIn K (.ref C) (.type "BaseException") == some true) && PySem.W.hasDictIn K C && (PySem.W.findIn K (.ref C) "__class__" == some (some (.builtin "object.__class__"))) &&
  (PySem.W.specialIn K (.builtin "object.__class__") "__get__" == some (some (.builtin "getset_descriptor.__get__"))) && (PySem.W.takesIn K (.builtin "object.__class__") == some true) && (PySem.W.mroIn K C (.type "object") == some true) && (PySem.W.subIn K (.ref C) (.ref C) == some true)
def kitsB (K : PySem.W.Frag) (cs : List Addr) : Bool := (List.range 24).all fun i =>
  (PySem.W.kitOne K (.ref (cs.getD i 0)) (.ref (cs.getD 24 0)) == some true) && (PySem.W.kitOne K (.ref (cs.getD i 0)) (.type "ValueError") == some true) &&
  (List.range 24).all fun j => PySem.W.kitOne K (.ref (cs.getD i 0)) (.ref (cs.getD j 0)) == some (decide (i = j))
structure Txt (K : PySem.W.Frag) (mg : Str → Option Value) (c : Cs) : Prop where
  z_ValueError : mg "ValueError" = none
  z_abs : mg "abs" = none
  z_int : mg "int" = none
  z_isinstance : mg "isinstance" = none
  z_len : mg "len" = none
  z_range : mg "range" = none
  e0 : E1 K mg "BadLine" (c 0) "line"
  e1 : E1 K mg "BadName" (c 1) "name"
  e2 : E1 K mg "UnknownName" (c 2) "name"
  e3 : E1 K mg "BadNumber" (c 3) "number"
  e4 : E1 K mg "BadCount" (c 4) "count"
  e5 : E1 K mg "BadDeed" (c 5) "deed"
  e6 : E1 K mg "BadHead" (c 6) "value"
  e7 : E1 K mg "BadShown" (c 7) "index"
  e8 : E1 K mg "BadChange" (c 8) "counter"
  e9 : E1 K mg "BadTimes" (c 9) "times"
  e10 : E1 K mg "BadWeight" (c 10) "counter"
  e11 : E1 K mg "NotDocument" (c 11) "index"
  e12 : E1 K mg "NoDocument" (c 12) "kind"
  e13 : E1 K mg "NoLabel" (c 13) "kind"
  e14 : E1 K mg "BadKey" (c 14) "key"
  e15 : E1 K mg "KeyTaken" (c 15) "key"
  e16 : E1 K mg "UnknownKey" (c 16) "key"
  e17 : E0 K mg "BadText" (c 17)
  e18 : E0 K mg "BadLabel" (c 18)
  e19 : E0 K mg "BadRow" (c 19)
  e20 : E0 K mg "BadJoints" (c 20)
  e21 : E0 K mg "UnlikeSchemes" (c 21)
  e22 : E0 K mg "NothingToUndo" (c 22)
  e23 : E2 K mg "NotLet" (c 23) "kind" "other"
  gP : mg "PartError" = some (.ref (c 24))
  kits : ∀ i, i < 24 → PySem.W.kitOne K (.ref (c i)) (.ref (c 24)) = some true ∧ PySem.W.kitOne K (.ref (c i)) (.type "ValueError") = some true ∧ ∀ j, j < 24 → PySem.W.kitOne K (.ref (c i)) (.ref (c j)) = some (decide (i = j))
abbrev sI0 : Stmt := inClass (top 3) 0
theorem scI0 : FnScope ["self", "line"] ["self", "line"] (defScope sI0) := ⟨rfl, rfl, rfl, by decide +kernel, rfl, by decide +kernel, by decide +kernel⟩
theorem ini0 {K : PySem.W.Frag} {mg : Str → Option Value} {C f : Addr} {fd : FuncData} (T : OexC K C) (no : PySem.W.findIn K (.ref C) "line" = some none) (F : Fun K "__init__" "BadLine.__init__" sI0 f fd) :
    (∀ P w base, FnOk P w K mg base CX0 1 f fd ["self", "line"] (spXI C "line")) ∧ Binds K fd ["self", "line"] [] ∧ KBn K fd ["self", "line"] 1 ["line"] (fun us ws => us ++ ws) (fun vs zs => vs ++ zs) := by
  refine ⟨fun P w base => ?_, Fun.binds F (fun _ _ _ _ _ _ us hl => match us, hl with | [_, _], _ => rfl), Fun.kbn F (fun a b => a.append b) (fun _ _ _ _ _ _ us ws h1 h2 => match us, ws, h1, h2 with | [_], [_], _, _ => rfl)⟩
  refine F.ok scI0 (fun vs H Q E h => ?_) (fun cdv A outer s H vs Q E hr h => ?_)
  · obtain ⟨a, v, rfl, _⟩ := h
    rfl
  · obtain ⟨a, v, rfl, ha, q⟩ := h
    exact ⟨_, pss_one (ps_ost (pv 0) (pv 1)), _, rfl, _, rfl, a, C, rfl, T, no, .inl ⟨ha, fun d hd hne => q d hd hne⟩⟩
abbrev sI1 : Stmt := inClass (top 4) 0
theorem scI1 : FnScope ["self", "name"] ["self", "name"] (defScope sI1) := ⟨rfl, rfl, rfl, by decide +kernel, rfl, by decide +kernel, by decide +kernel⟩
theorem ini1 {K : PySem.W.Frag} {mg : Str → Option Value} {C f : Addr} {fd : FuncData} (T : OexC K C) (no : PySem.W.findIn K (.ref C) "name" = some none) (F : Fun K "__init__" "BadName.__init__" sI1 f fd) :
    (∀ P w base, FnOk P w K mg base CX0 1 f fd ["self", "name"] (spXI C "name")) ∧ Binds K fd ["self", "name"] [] ∧ KBn K fd ["self", "name"] 1 ["name"] (fun us ws => us ++ ws) (fun vs zs => vs ++ zs) := by
  refine ⟨fun P w base => ?_, Fun.binds F (fun _ _ _ _ _ _ us hl => match us, hl with | [_, _], _ => rfl), Fun.kbn F (fun a b => a.append b) (fun _ _ _ _ _ _ us ws h1 h2 => match us, ws, h1, h2 with | [_], [_], _, _ => rfl)⟩
  refine F.ok scI1 (fun vs H Q E h => ?_) (fun cdv A outer s H vs Q E hr h => ?_)
  · obtain ⟨a, v, rfl, _⟩ := h
    rfl
  · obtain ⟨a, v, rfl, ha, q⟩ := h
    exact ⟨_, pss_one (ps_ost (pv 0) (pv 1)), _, rfl, _, rfl, a, C, rfl, T, no, .inl ⟨ha, fun d hd hne => q d hd hne⟩⟩
abbrev sI2 : Stmt := inClass (top 5) 0
theorem scI2 : FnScope ["self", "name"] ["self", "name"] (defScope sI2) := ⟨rfl, rfl, rfl, by decide +kernel, rfl, by decide +kernel, by decide +kernel⟩
theorem ini2 {K : PySem.W.Frag} {mg : Str → Option Value} {C f : Addr} {fd : FuncData} (T : OexC K C) (no : PySem.W.findIn K (.ref C) "name" = some none) (F : Fun K "__init__" "UnknownName.__init__" sI2 f fd) :
    (∀ P w base, FnOk P w K mg base CX0 1 f fd ["self", "name"] (spXI C "name")) ∧ Binds K fd ["self", "name"] [] ∧ KBn K fd ["self", "name"] 1 ["name"] (fun us ws => us ++ ws) (fun vs zs => vs ++ zs) := by
  refine ⟨fun P w base => ?_, Fun.binds F (fun _ _ _ _ _ _ us hl => match us, hl with | [_, _], _ => rfl), Fun.kbn F (fun a b => a.append b) (fun _ _ _ _ _ _ us ws h1 h2 => match us, ws, h1, h2 with | [_], [_], _, _ => rfl)⟩
  refine F.ok scI2 (fun vs H Q E h => ?_) (fun cdv A outer s H vs Q E hr h => ?_)
  · obtain ⟨a, v, rfl, _⟩ := h
    rfl
  · obtain ⟨a, v, rfl, ha, q⟩ := h
    exact ⟨_, pss_one (ps_ost (pv 0) (pv 1)), _, rfl, _, rfl, a, C, rfl, T, no, .inl ⟨ha, fun d hd hne => q d hd hne⟩⟩
abbrev sI3 : Stmt := inClass (top 6) 0
theorem scI3 : FnScope ["self", "number"] ["self", "number"] (defScope sI3) := ⟨rfl, rfl, rfl, by decide +kernel, rfl, by decide +kernel, by decide +kernel⟩
theorem ini3 {K : PySem.W.Frag} {mg : Str → Option Value} {C f : Addr} {fd : FuncData} (T : OexC K C) (no : PySem.W.findIn K (.ref C) "number" = some none) (F : Fun K "__init__" "BadNumber.__init__" sI3 f fd) :
    (∀ P w base, FnOk P w K mg base CX0 1 f fd ["self", "number"] (spXI C "number")) ∧ Binds K fd ["self", "number"] [] ∧ KBn K fd ["self", "number"] 1 ["number"] (fun us ws => us ++ ws) (fun vs zs => vs ++ zs) := by
  refine ⟨fun P w base => ?_, Fun.binds F (fun _ _ _ _ _ _ us hl => match us, hl with | [_, _], _ => rfl), Fun.kbn F (fun a b => a.append b) (fun _ _ _ _ _ _ us ws h1 h2 => match us, ws, h1, h2 with | [_], [_], _, _ => rfl)⟩
  refine F.ok scI3 (fun vs H Q E h => ?_) (fun cdv A outer s H vs Q E hr h => ?_)
  · obtain ⟨a, v, rfl, _⟩ := h
    rfl
  · obtain ⟨a, v, rfl, ha, q⟩ := h
    exact ⟨_, pss_one (ps_ost (pv 0) (pv 1)), _, rfl, _, rfl, a, C, rfl, T, no, .inl ⟨ha, fun d hd hne => q d hd hne⟩⟩
abbrev sI4 : Stmt := inClass (top 7) 0
theorem scI4 : FnScope ["self", "count"] ["self", "count"] (defScope sI4) := ⟨rfl, rfl, rfl, by decide +kernel, rfl, by decide +kernel, by decide +kernel⟩
theorem ini4 {K : PySem.W.Frag} {mg : Str → Option Value} {C f : Addr} {fd : FuncData} (T : OexC K C) (no : PySem.W.findIn K (.ref C) "count" = some none) (F : Fun K "__init__" "BadCount.__init__" sI4 f fd) :
    (∀ P w base, FnOk P w K mg base CX0 1 f fd ["self", "count"] (spXI C "count")) ∧ Binds K fd ["self", "count"] [] ∧ KBn K fd ["self", "count"] 1 ["count"] (fun us ws => us ++ ws) (fun vs zs => vs ++ zs) := by
  refine ⟨fun P w base => ?_, Fun.binds F (fun _ _ _ _ _ _ us hl => match us, hl with | [_, _], _ => rfl), Fun.kbn F (fun a b => a.append b) (fun _ _ _ _ _ _ us ws h1 h2 => match us, ws, h1, h2 with | [_], [_], _, _ => rfl)⟩
  refine F.ok scI4 (fun vs H Q E h => ?_) (fun cdv A outer s H vs Q E hr h => ?_)
  · obtain ⟨a, v, rfl, _⟩ := h
    rfl
  · obtain ⟨a, v, rfl, ha, q⟩ := h
    exact ⟨_, pss_one (ps_ost (pv 0) (pv 1)), _, rfl, _, rfl, a, C, rfl, T, no, .inl ⟨ha, fun d hd hne => q d hd hne⟩⟩
abbrev sI5 : Stmt := inClass (top 8) 0
theorem scI5 : FnScope ["self", "deed"] ["self", "deed"] (defScope sI5) := ⟨rfl, rfl, rfl, by decide +kernel, rfl, by decide +kernel, by decide +kernel⟩
theorem ini5 {K : PySem.W.Frag} {mg : Str → Option Value} {C f : Addr} {fd : FuncData} (T : OexC K C) (no : PySem.W.findIn K (.ref C) "deed" = some none) (F : Fun K "__init__" "BadDeed.__init__" sI5 f fd) :
    (∀ P w base, FnOk P w K mg base CX0 1 f fd ["self", "deed"] (spXI C "deed")) ∧ Binds K fd ["self", "deed"] [] ∧ KBn K fd ["self", "deed"] 1 ["deed"] (fun us ws => us ++ ws) (fun vs zs => vs ++ zs) := by
  refine ⟨fun P w base => ?_, Fun.binds F (fun _ _ _ _ _ _ us hl => match us, hl with | [_, _], _ => rfl), Fun.kbn F (fun a b => a.append b) (fun _ _ _ _ _ _ us ws h1 h2 => match us, ws, h1, h2 with | [_], [_], _, _ => rfl)⟩
  refine F.ok scI5 (fun vs H Q E h => ?_) (fun cdv A outer s H vs Q E hr h => ?_)
  · obtain ⟨a, v, rfl, _⟩ := h
    rfl
  · obtain ⟨a, v, rfl, ha, q⟩ := h
    exact ⟨_, pss_one (ps_ost (pv 0) (pv 1)), _, rfl, _, rfl, a, C, rfl, T, no, .inl ⟨ha, fun d hd hne => q d hd hne⟩⟩
abbrev sI6 : Stmt := inClass (top 11) 0
theorem scI6 : FnScope ["self", "value"] ["self", "value"] (defScope sI6) := ⟨rfl, rfl, rfl, by decide +kernel, rfl, by decide +kernel, by decide +kernel⟩
theorem ini6 {K : PySem.W.Frag} {mg : Str → Option Value} {C f : Addr} {fd : FuncData} (T : OexC K C) (no : PySem.W.findIn K (.ref C) "value" = some none) (F : Fun K "__init__" "BadHead.__init__" sI6 f fd) :
    (∀ P w base, FnOk P w K mg base CX0 1 f fd ["self", "value"] (spXI C "value")) ∧ Binds K fd ["self", "value"] [] ∧ KBn K fd ["self", "value"] 1 ["value"] (fun us ws => us ++ ws) (fun vs zs => vs ++ zs) := by
  refine ⟨fun P w base => ?_, Fun.binds F (fun _ _ _ _ _ _ us hl => match us, hl with | [_, _], _ => rfl), Fun.kbn F (fun a b => a.append b) (fun _ _ _ _ _ _ us ws h1 h2 => match us, ws, h1, h2 with | [_], [_], _, _ => rfl)⟩
  refine F.ok scI6 (fun vs H Q E h => ?_) (fun cdv A outer s H vs Q E hr h => ?_)
  · obtain ⟨a, v, rfl, _⟩ := h
    rfl
  · obtain ⟨a, v, rfl, ha, q⟩ := h
    exact ⟨_, pss_one (ps_ost (pv 0) (pv 1)), _, rfl, _, rfl, a, C, rfl, T, no, .inl ⟨ha, fun d hd hne => q d hd hne⟩⟩
abbrev sI7 : Stmt := inClass (top 12) 0
theorem scI7 : FnScope ["self", "index"] ["self", "index"] (defScope sI7) := ⟨rfl, rfl, rfl, by decide +kernel, rfl, by decide +kernel, by decide +kernel⟩
theorem ini7 {K : PySem.W.Frag} {mg : Str → Option Value} {C f : Addr} {fd : FuncData} (T : OexC K C) (no : PySem.W.findIn K (.ref C) "index" = some none) (F : Fun K "__init__" "BadShown.__init__" sI7 f fd) :
    (∀ P w base, FnOk P w K mg base CX0 1 f fd ["self", "index"] (spXI C "index")) ∧ Binds K fd ["self", "index"] [] ∧ KBn K fd ["self", "index"] 1 ["index"] (fun us ws => us ++ ws) (fun vs zs => vs ++ zs) := by
  refine ⟨fun P w base => ?_, Fun.binds F (fun _ _ _ _ _ _ us hl => match us, hl with | [_, _], _ => rfl), Fun.kbn F (fun a b => a.append b) (fun _ _ _ _ _ _ us ws h1 h2 => match us, ws, h1, h2 with | [_], [_], _, _ => rfl)⟩
  refine F.ok scI7 (fun vs H Q E h => ?_) (fun cdv A outer s H vs Q E hr h => ?_)
  · obtain ⟨a, v, rfl, _⟩ := h
    rfl
  · obtain ⟨a, v, rfl, ha, q⟩ := h
    exact ⟨_, pss_one (ps_ost (pv 0) (pv 1)), _, rfl, _, rfl, a, C, rfl, T, no, .inl ⟨ha, fun d hd hne => q d hd hne⟩⟩
abbrev sI8 : Stmt := inClass (top 14) 0
theorem scI8 : FnScope ["self", "counter"] ["self", "counter"] (defScope sI8) := ⟨rfl, rfl, rfl, by decide +kernel, rfl, by decide +kernel, by decide +kernel⟩
theorem ini8 {K : PySem.W.Frag} {mg : Str → Option Value} {C f : Addr} {fd : FuncData} (T : OexC K C) (no : PySem.W.findIn K (.ref C) "counter" = some none) (F : Fun K "__init__" "BadChange.__init__" sI8 f fd) :
    (∀ P w base, FnOk P w K mg base CX0 1 f fd ["self", "counter"] (spXI C "counter")) ∧ Binds K fd ["self", "counter"] [] ∧ KBn K fd ["self", "counter"] 1 ["counter"] (fun us ws => us ++ ws) (fun vs zs => vs ++ zs) := by
  refine ⟨fun P w base => ?_, Fun.binds F (fun _ _ _ _ _ _ us hl => match us, hl with | [_, _], _ => rfl), Fun.kbn F (fun a b => a.append b) (fun _ _ _ _ _ _ us ws h1 h2 => match us, ws, h1, h2 with | [_], [_], _, _ => rfl)⟩
  refine F.ok scI8 (fun vs H Q E h => ?_) (fun cdv A outer s H vs Q E hr h => ?_)
  · obtain ⟨a, v, rfl, _⟩ := h
    rfl
  · obtain ⟨a, v, rfl, ha, q⟩ := h
    exact ⟨_, pss_one (ps_ost (pv 0) (pv 1)), _, rfl, _, rfl, a, C, rfl, T, no, .inl ⟨ha, fun d hd hne => q d hd hne⟩⟩
abbrev sI9 : Stmt := inClass (top 15) 0
theorem scI9 : FnScope ["self", "times"] ["self", "times"] (defScope sI9) := ⟨rfl, rfl, rfl, by decide +kernel, rfl, by decide +kernel, by decide +kernel⟩
theorem ini9 {K : PySem.W.Frag} {mg : Str → Option Value} {C f : Addr} {fd : FuncData} (T : OexC K C) (no : PySem.W.findIn K (.ref C) "times" = some none) (F : Fun K "__init__" "BadTimes.__init__" sI9 f fd) :
    (∀ P w base, FnOk P w K mg base CX0 1 f fd ["self", "times"] (spXI C "times")) ∧ Binds K fd ["self", "times"] [] ∧ KBn K fd ["self", "times"] 1 ["times"] (fun us ws => us ++ ws) (fun vs zs => vs ++ zs) := by
  refine ⟨fun P w base => ?_, Fun.binds F (fun _ _ _ _ _ _ us hl => match us, hl with | [_, _], _ => rfl), Fun.kbn F (fun a b => a.append b) (fun _ _ _ _ _ _ us ws h1 h2 => match us, ws, h1, h2 with | [_], [_], _, _ => rfl)⟩
  refine F.ok scI9 (fun vs H Q E h => ?_) (fun cdv A outer s H vs Q E hr h => ?_)
  · obtain ⟨a, v, rfl, _⟩ := h
    rfl
  · obtain ⟨a, v, rfl, ha, q⟩ := h
    exact ⟨_, pss_one (ps_ost (pv 0) (pv 1)), _, rfl, _, rfl, a, C, rfl, T, no, .inl ⟨ha, fun d hd hne => q d hd hne⟩⟩
abbrev sI10 : Stmt := inClass (top 16) 0
theorem scI10 : FnScope ["self", "counter"] ["self", "counter"] (defScope sI10) := ⟨rfl, rfl, rfl, by decide +kernel, rfl, by decide +kernel, by decide +kernel⟩
theorem ini10 {K : PySem.W.Frag} {mg : Str → Option Value} {C f : Addr} {fd : FuncData} (T : OexC K C) (no : PySem.W.findIn K (.ref C) "counter" = some none) (F : Fun K "__init__" "BadWeight.__init__" sI10 f fd) :
    (∀ P w base, FnOk P w K mg base CX0 1 f fd ["self", "counter"] (spXI C "counter")) ∧ Binds K fd ["self", "counter"] [] ∧ KBn K fd ["self", "counter"] 1 ["counter"] (fun us ws => us ++ ws) (fun vs zs => vs ++ zs) := by
  refine ⟨fun P w base => ?_, Fun.binds F (fun _ _ _ _ _ _ us hl => match us, hl with | [_, _], _ => rfl), Fun.kbn F (fun a b => a.append b) (fun _ _ _ _ _ _ us ws h1 h2 => match us, ws, h1, h2 with | [_], [_], _, _ => rfl)⟩
  refine F.ok scI10 (fun vs H Q E h => ?_) (fun cdv A outer s H vs Q E hr h => ?_)
  · obtain ⟨a, v, rfl, _⟩ := h
    rfl
  · obtain ⟨a, v, rfl, ha, q⟩ := h
    exact ⟨_, pss_one (ps_ost (pv 0) (pv 1)), _, rfl, _, rfl, a, C, rfl, T, no, .inl ⟨ha, fun d hd hne => q d hd hne⟩⟩
abbrev sI11 : Stmt := inClass (top 17) 0
theorem scI11 : FnScope ["self", "index"] ["self", "index"] (defScope sI11) := ⟨rfl, rfl, rfl, by decide +kernel, rfl, by decide +kernel, by decide +kernel⟩
theorem ini11 {K : PySem.W.Frag} {mg : Str → Option Value} {C f : Addr} {fd : FuncData} (T : OexC K C) (no : PySem.W.findIn K (.ref C) "index" = some none) (F : Fun K "__init__" "NotDocument.__init__" sI11 f fd) :
    (∀ P w base, FnOk P w K mg base CX0 1 f fd ["self", "index"] (spXI C "index")) ∧ Binds K fd ["self", "index"] [] ∧ KBn K fd ["self", "index"] 1 ["index"] (fun us ws => us ++ ws) (fun vs zs => vs ++ zs) := by
  refine ⟨fun P w base => ?_, Fun.binds F (fun _ _ _ _ _ _ us hl => match us, hl with | [_, _], _ => rfl), Fun.kbn F (fun a b => a.append b) (fun _ _ _ _ _ _ us ws h1 h2 => match us, ws, h1, h2 with | [_], [_], _, _ => rfl)⟩
  refine F.ok scI11 (fun vs H Q E h => ?_) (fun cdv A outer s H vs Q E hr h => ?_)
  · obtain ⟨a, v, rfl, _⟩ := h
    rfl
  · obtain ⟨a, v, rfl, ha, q⟩ := h
    exact ⟨_, pss_one (ps_ost (pv 0) (pv 1)), _, rfl, _, rfl, a, C, rfl, T, no, .inl ⟨ha, fun d hd hne => q d hd hne⟩⟩
abbrev sI12 : Stmt := inClass (top 18) 0
theorem scI12 : FnScope ["self", "kind"] ["self", "kind"] (defScope sI12) := ⟨rfl, rfl, rfl, by decide +kernel, rfl, by decide +kernel, by decide +kernel⟩
theorem ini12 {K : PySem.W.Frag} {mg : Str → Option Value} {C f : Addr} {fd : FuncData} (T : OexC K C) (no : PySem.W.findIn K (.ref C) "kind" = some none) (F : Fun K "__init__" "NoDocument.__init__" sI12 f fd) :
    (∀ P w base, FnOk P w K mg base CX0 1 f fd ["self", "kind"] (spXI C "kind")) ∧ Binds K fd ["self", "kind"] [] ∧ KBn K fd ["self", "kind"] 1 ["kind"] (fun us ws => us ++ ws) (fun vs zs => vs ++ zs) := by
  refine ⟨fun P w base => ?_, Fun.binds F (fun _ _ _ _ _ _ us hl => match us, hl with | [_, _], _ => rfl), Fun.kbn F (fun a b => a.append b) (fun _ _ _ _ _ _ us ws h1 h2 => match us, ws, h1, h2 with | [_], [_], _, _ => rfl)⟩
  refine F.ok scI12 (fun vs H Q E h => ?_) (fun cdv A outer s H vs Q E hr h => ?_)
  · obtain ⟨a, v, rfl, _⟩ := h
    rfl
  · obtain ⟨a, v, rfl, ha, q⟩ := h
    exact ⟨_, pss_one (ps_ost (pv 0) (pv 1)), _, rfl, _, rfl, a, C, rfl, T, no, .inl ⟨ha, fun d hd hne => q d hd hne⟩⟩
abbrev sI13 : Stmt := inClass (top 19) 0
theorem scI13 : FnScope ["self", "kind"] ["self", "kind"] (defScope sI13) := ⟨rfl, rfl, rfl, by decide +kernel, rfl, by decide +kernel, by decide +kernel⟩
theorem ini13 {K : PySem.W.Frag} {mg : Str → Option Value} {C f : Addr} {fd : FuncData} (T : OexC K C) (no : PySem.W.findIn K (.ref C) "kind" = some none) (F : Fun K "__init__" "NoLabel.__init__" sI13 f fd) :
    (∀ P w base, FnOk P w K mg base CX0 1 f fd ["self", "kind"] (spXI C "kind")) ∧ Binds K fd ["self", "kind"] [] ∧ KBn K fd ["self", "kind"] 1 ["kind"] (fun us ws => us ++ ws) (fun vs zs => vs ++ zs) := by
  refine ⟨fun P w base => ?_, Fun.binds F (fun _ _ _ _ _ _ us hl => match us, hl with | [_, _], _ => rfl), Fun.kbn F (fun a b => a.append b) (fun _ _ _ _ _ _ us ws h1 h2 => match us, ws, h1, h2 with | [_], [_], _, _ => rfl)⟩
  refine F.ok scI13 (fun vs H Q E h => ?_) (fun cdv A outer s H vs Q E hr h => ?_)
  · obtain ⟨a, v, rfl, _⟩ := h
    rfl
  · obtain ⟨a, v, rfl, ha, q⟩ := h
    exact ⟨_, pss_one (ps_ost (pv 0) (pv 1)), _, rfl, _, rfl, a, C, rfl, T, no, .inl ⟨ha, fun d hd hne => q d hd hne⟩⟩
abbrev sI14 : Stmt := inClass (top 21) 0
theorem scI14 : FnScope ["self", "key"] ["self", "key"] (defScope sI14) := ⟨rfl, rfl, rfl, by decide +kernel, rfl, by decide +kernel, by decide +kernel⟩
theorem ini14 {K : PySem.W.Frag} {mg : Str → Option Value} {C f : Addr} {fd : FuncData} (T : OexC K C) (no : PySem.W.findIn K (.ref C) "key" = some none) (F : Fun K "__init__" "BadKey.__init__" sI14 f fd) :
    (∀ P w base, FnOk P w K mg base CX0 1 f fd ["self", "key"] (spXI C "key")) ∧ Binds K fd ["self", "key"] [] ∧ KBn K fd ["self", "key"] 1 ["key"] (fun us ws => us ++ ws) (fun vs zs => vs ++ zs) := by
  refine ⟨fun P w base => ?_, Fun.binds F (fun _ _ _ _ _ _ us hl => match us, hl with | [_, _], _ => rfl), Fun.kbn F (fun a b => a.append b) (fun _ _ _ _ _ _ us ws h1 h2 => match us, ws, h1, h2 with | [_], [_], _, _ => rfl)⟩
  refine F.ok scI14 (fun vs H Q E h => ?_) (fun cdv A outer s H vs Q E hr h => ?_)
  · obtain ⟨a, v, rfl, _⟩ := h
    rfl
  · obtain ⟨a, v, rfl, ha, q⟩ := h
    exact ⟨_, pss_one (ps_ost (pv 0) (pv 1)), _, rfl, _, rfl, a, C, rfl, T, no, .inl ⟨ha, fun d hd hne => q d hd hne⟩⟩
abbrev sI15 : Stmt := inClass (top 22) 0
theorem scI15 : FnScope ["self", "key"] ["self", "key"] (defScope sI15) := ⟨rfl, rfl, rfl, by decide +kernel, rfl, by decide +kernel, by decide +kernel⟩
theorem ini15 {K : PySem.W.Frag} {mg : Str → Option Value} {C f : Addr} {fd : FuncData} (T : OexC K C) (no : PySem.W.findIn K (.ref C) "key" = some none) (F : Fun K "__init__" "KeyTaken.__init__" sI15 f fd) :
    (∀ P w base, FnOk P w K mg base CX0 1 f fd ["self", "key"] (spXI C "key")) ∧ Binds K fd ["self", "key"] [] ∧ KBn K fd ["self", "key"] 1 ["key"] (fun us ws => us ++ ws) (fun vs zs => vs ++ zs) := by
  refine ⟨fun P w base => ?_, Fun.binds F (fun _ _ _ _ _ _ us hl => match us, hl with | [_, _], _ => rfl), Fun.kbn F (fun a b => a.append b) (fun _ _ _ _ _ _ us ws h1 h2 => match us, ws, h1, h2 with | [_], [_], _, _ => rfl)⟩
  refine F.ok scI15 (fun vs H Q E h => ?_) (fun cdv A outer s H vs Q E hr h => ?_)
  · obtain ⟨a, v, rfl, _⟩ := h
    rfl
  · obtain ⟨a, v, rfl, ha, q⟩ := h
    exact ⟨_, pss_one (ps_ost (pv 0) (pv 1)), _, rfl, _, rfl, a, C, rfl, T, no, .inl ⟨ha, fun d hd hne => q d hd hne⟩⟩
abbrev sI16 : Stmt := inClass (top 23) 0
theorem scI16 : FnScope ["self", "key"] ["self", "key"] (defScope sI16) := ⟨rfl, rfl, rfl, by decide +kernel, rfl, by decide +kernel, by decide +kernel⟩
theorem ini16 {K : PySem.W.Frag} {mg : Str → Option Value} {C f : Addr} {fd : FuncData} (T : OexC K C) (no : PySem.W.findIn K (.ref C) "key" = some none) (F : Fun K "__init__" "UnknownKey.__init__" sI16 f fd) :
    (∀ P w base, FnOk P w K mg base CX0 1 f fd ["self", "key"] (spXI C "key")) ∧ Binds K fd ["self", "key"] [] ∧ KBn K fd ["self", "key"] 1 ["key"] (fun us ws => us ++ ws) (fun vs zs => vs ++ zs) := by
  refine ⟨fun P w base => ?_, Fun.binds F (fun _ _ _ _ _ _ us hl => match us, hl with | [_, _], _ => rfl), Fun.kbn F (fun a b => a.append b) (fun _ _ _ _ _ _ us ws h1 h2 => match us, ws, h1, h2 with | [_], [_], _, _ => rfl)⟩
  refine F.ok scI16 (fun vs H Q E h => ?_) (fun cdv A outer s H vs Q E hr h => ?_)
  · obtain ⟨a, v, rfl, _⟩ := h
    rfl
  · obtain ⟨a, v, rfl, ha, q⟩ := h
    exact ⟨_, pss_one (ps_ost (pv 0) (pv 1)), _, rfl, _, rfl, a, C, rfl, T, no, .inl ⟨ha, fun d hd hne => q d hd hne⟩⟩
abbrev sI23 : Stmt := inClass (top 24) 0
theorem scI23 : FnScope ["self", "kind", "other"] ["self", "kind", "other"] (defScope sI23) := ⟨rfl, rfl, rfl, by decide +kernel, rfl, by decide +kernel, by decide +kernel⟩
theorem ini23 {K : PySem.W.Frag} {mg : Str → Option Value} {C f : Addr} {fd : FuncData} (T : OexC K C) (nf : PySem.W.findIn K (.ref C) "kind" = some none) (ng : PySem.W.findIn K (.ref C) "other" = some none) (F : Fun K "__init__" "NotLet.__init__" sI23 f fd) :
    (∀ P w base, FnOk P w K mg base CX0 1 f fd ["self", "kind", "other"] (spXI2 C "kind" "other")) ∧ Binds K fd ["self", "kind", "other"] [] ∧ KBn K fd ["self", "kind", "other"] 1 ["other", "kind"] (fun us ws => us ++ ws.reverse) (fun vs zs => vs ++ zs.reverse) := by
  refine ⟨fun P w base => ?_, Fun.binds F (fun _ _ _ _ _ _ us hl => match us, hl with | [_, _, _], _ => rfl), Fun.kbn F (fun a b => a.append (vals_rev b)) (fun _ _ _ _ _ _ us ws h1 h2 => match us, ws, h1, h2 with | [_], [_, _], _, _ => rfl)⟩
  refine F.ok scI23 (fun vs H Q E h => ?_) (fun cdv A outer s H vs Q E hr h => ?_)
  · obtain ⟨a, v, u, rfl, _⟩ := h
    rfl
  · obtain ⟨a, v, u, rfl, ha, q⟩ := h
    refine ⟨_, pss_cons (ps_ost (pv 0) (pv 1)) (pss_one (ps_ost (pv 0) (pv 2))), _, rfl, _, rfl, a, C, rfl, T, nf, .inl ⟨ha, fun d hd hne => ?_⟩⟩
    exact ⟨_, rfl, _, rfl, a, C, rfl, T, ng, .inr ⟨d, _, upd_same, by rw [upd_ne hne, upd_same], (by show 1 ≤ 900; decide), q d hd hne⟩⟩
section
variable {K : PySem.W.Frag} {h : Heap} {mg : Str → Option Value} {x f g qn : Str} {st : Stmt} {C fI : Addr} {nm q : Str} {N : Addr} {bs bm : List Value} {sn : List Str} {sub : List Value} {ab : Bool} {col : Option Bool} {dd : Option Addr} {k0 k1 k2 k3 k5 : Option Value}
variable {kV dc pm cd ct oc : Value} {an od : Option Addr} {sl : Array (Option Value)}
theorem x_of (X : K.In h) (G : h.Ns mainGlobals mg) (m : PySem.W.nsIn K mainGlobals x = some (some (.ref C))) (l : K.lookup C = some (excClassObj nm q C N bs bm true sn sub ab col dd k0 k1 k2 k3 k5 "ValueError.__new__")) (b : PySem.HandSPX.refsVE bm = true)
    (o : clsB K C = true) : XC K mg x C := by
  unfold clsB at o
  simp only [Bool.and_eq_true, beq_iff_eq] at o
  obtain ⟨⟨⟨⟨⟨⟨⟨⟨⟨⟨⟨sa, ty⟩, kc⟩, hg⟩, hk⟩, hs⟩, hd⟩, ha⟩, hn⟩, ht⟩, hm⟩, ss⟩ := o
  exact XC.mk' (PySem.W.mg_of X G m) l b sa ty kc hg hk hs hd ha hn ht hm ss
theorem e1_of (X : K.In h) (G : h.Ns mainGlobals mg)
    (ini : ∀ {C fa : Addr} {fd : FuncData}, OexC K C → PySem.W.findIn K (.ref C) f = some none → Fun K "__init__" qn st fa fd → (∀ P w base, FnOk P w K mg base CX0 1 fa fd ["self", f] (spXI C f)) ∧ Binds K fd ["self", f] [] ∧ KBn K fd ["self", f] 1 [f] (fun us ws => us ++ ws) (fun vs zs => vs ++ zs))
    (m : PySem.W.nsIn K mainGlobals x = some (some (.ref C))) (l : K.lookup C = some (excClassObj nm q C N bs bm true sn sub ab col dd k0 k1 k2 k3 k5 "ValueError.__new__")) (b : PySem.HandSPX.refsVE bm = true) (o : clsB K C = true)
    (no : PySem.W.findIn K (.ref C) f = some none) (i : PySem.W.findIn K (.ref C) "__init__" = some (some (.ref fI))) (t : PySem.W.typeIn K (.ref fI) = some (.type "function"))
    (lf : K.lookup fI = some ⟨oc, od, .func (PySem.W.fnOf "__init__" qn (defArgs st) (defBody st) (defScope st) .none kV dc pm an cd ct), sl⟩) (cf : PySem.W.codeIn K cd qn = true) (kf : PySem.W.keepIn K (.ref fI) = true) : E1 K mg x C f := by
  have xc : XC K mg x C := x_of X G m l b o
  have F := fun_mk (st := st) lf cf kf
  exact ⟨xc, no, fI, _, i, t, ini xc.oex no F⟩
theorem e2_of (X : K.In h) (G : h.Ns mainGlobals mg)
    (m : PySem.W.nsIn K mainGlobals x = some (some (.ref C))) (l : K.lookup C = some (excClassObj nm q C N bs bm true sn sub ab col dd k0 k1 k2 k3 k5 "ValueError.__new__")) (b : PySem.HandSPX.refsVE bm = true) (o : clsB K C = true)
    (nf : PySem.W.findIn K (.ref C) "kind" = some none) (ng : PySem.W.findIn K (.ref C) "other" = some none) (i : PySem.W.findIn K (.ref C) "__init__" = some (some (.ref fI))) (t : PySem.W.typeIn K (.ref fI) = some (.type "function"))
    (lf : K.lookup fI = some ⟨oc, od, .func (PySem.W.fnOf "__init__" "NotLet.__init__" (defArgs sI23) (defBody sI23) (defScope sI23) .none kV dc pm an cd ct), sl⟩) (cf : PySem.W.codeIn K cd "NotLet.__init__" = true) (kf : PySem.W.keepIn K (.ref fI) = true) : E2 K mg x C "kind" "other" := by
  have xc : XC K mg x C := x_of X G m l b o
  have F := fun_mk (st := sI23) lf cf kf
  exact ⟨xc, nf, ng, fI, _, i, t, ini23 xc.oex nf ng F⟩
theorem e0_of (X : K.In h) (G : h.Ns mainGlobals mg)
    (m : PySem.W.nsIn K mainGlobals x = some (some (.ref C))) (l : K.lookup C = some (excClassObj nm q C N bs bm true sn sub ab col dd k0 k1 k2 k3 k5 "ValueError.__new__")) (b : PySem.HandSPX.refsVE bm = true) (o : clsB K C = true)
    (qx : PySem.W.excIn K C [.type "ValueError", .type "Exception", .type "BaseException", .type "object"] "ValueError.__new__" = true) : E0 K mg x C := ⟨x_of X G m l b o, qx⟩
end
theorem txt_of {K : PySem.W.Frag} {h : Heap} {mg : Str → Option Value} {C0 C1 C2 C3 C4 C5 C6 C7 C8 C9 C10 C11 C12 C13 C14 C15 C16 C17 C18 C19 C20 C21 C22 C23 C24 : Addr} (X : K.In h) (G : h.Ns mainGlobals mg)
    (z_ValueError : PySem.W.nsIn K mainGlobals "ValueError" = some none)
    (z_abs : PySem.W.nsIn K mainGlobals "abs" = some none)
    (z_int : PySem.W.nsIn K mainGlobals "int" = some none)
    (z_isinstance : PySem.W.nsIn K mainGlobals "isinstance" = some none)
    (z_len : PySem.W.nsIn K mainGlobals "len" = some none)
    (z_range : PySem.W.nsIn K mainGlobals "range" = some none)
    (e0 : E1 K mg "BadLine" C0 "line")
    (e1 : E1 K mg "BadName" C1 "name")
    (e2 : E1 K mg "UnknownName" C2 "name")
    (e3 : E1 K mg "BadNumber" C3 "number")
    (e4 : E1 K mg "BadCount" C4 "count")
    (e5 : E1 K mg "BadDeed" C5 "deed")
    (e6 : E1 K mg "BadHead" C6 "value")
    (e7 : E1 K mg "BadShown" C7 "index")
    (e8 : E1 K mg "BadChange" C8 "counter")
    (e9 : E1 K mg "BadTimes" C9 "times")
    (e10 : E1 K mg "BadWeight" C10 "counter")
    (e11 : E1 K mg "NotDocument" C11 "index")
    (e12 : E1 K mg "NoDocument" C12 "kind")
    (e13 : E1 K mg "NoLabel" C13 "kind")
    (e14 : E1 K mg "BadKey" C14 "key")
    (e15 : E1 K mg "KeyTaken" C15 "key")
    (e16 : E1 K mg "UnknownKey" C16 "key")
    (e17 : E0 K mg "BadText" C17)
    (e18 : E0 K mg "BadLabel" C18)
    (e19 : E0 K mg "BadRow" C19)
    (e20 : E0 K mg "BadJoints" C20)
    (e21 : E0 K mg "UnlikeSchemes" C21)
    (e22 : E0 K mg "NothingToUndo" C22)
    (e23 : E2 K mg "NotLet" C23 "kind" "other") (gP : PySem.W.nsIn K mainGlobals "PartError" = some (some (.ref C24))) (ks : kitsB K [C0, C1, C2, C3, C4, C5, C6, C7, C8, C9, C10, C11, C12, C13, C14, C15, C16, C17, C18, C19, C20, C21, C22, C23, C24] = true) : Txt K mg (fun i => ([C0, C1, C2, C3, C4, C5, C6, C7, C8, C9, C10, C11, C12, C13, C14, C15, C16, C17, C18, C19, C20, C21, C22, C23, C24] : List Addr).getD i 0) :=
  ⟨PySem.W.mg_none_of X G z_ValueError, PySem.W.mg_none_of X G z_abs, PySem.W.mg_none_of X G z_int, PySem.W.mg_none_of X G z_isinstance, PySem.W.mg_none_of X G z_len, PySem.W.mg_none_of X G z_range,
   e0, e1, e2, e3, e4, e5, e6, e7, e8, e9, e10, e11, e12, e13, e14, e15, e16, e17, e18, e19, e20, e21, e22, e23, PySem.W.mg_of X G gP, fun i hi => by
    have z := List.all_eq_true.mp ks i (List.mem_range.mpr hi)
    simp only [Bool.and_eq_true, beq_iff_eq, List.all_eq_true] at z
    exact ⟨z.1.1, z.1.2, fun j hj => z.2 j (List.mem_range.mpr hj)⟩⟩
/-! ### the tape's two defs -/
theorem pure_tape_len {ns : List Int} {k : Int} (h0 : 0 ≤ k) (c : k < (((ns.map V.int).length : Nat) : Int)) : ∃ z, atI (ns.map V.int) k = some (V.int z) := by
  rw [List.length_map] at c
  have hk : k.toNat < ns.length := by omega
  exact ⟨ns[k.toNat], at_of (j := k.toNat) (by omega) (by rw [List.getElem?_map, List.getElem?_eq_getElem hk] <;> rfl)⟩
theorem abs_nn (c : Int) : 0 ≤ (if c < 0 then -c else c) := by split <;> omega
abbrev sTape : Stmt := top 27
theorem scTape : FnScope ["_law_script", "_law_k", "_law_cell"] ["_law_script", "_law_k"] (defScope sTape) := ⟨rfl, rfl, rfl, by decide +kernel, rfl, by decide +kernel, by decide +kernel⟩
theorem ok_tape {P : Program} {w : World} {K : PySem.W.Frag} {mg : Str → Option Value} {base : Heap} {c : Cs} (T : Txt K mg c) {f : Addr} {fd : FuncData} (F : Fun K "_law_tape" "_law_tape" sTape f fd) : FnOk P w K mg base CX0 1 f fd ["_law_script", "_law_k"] (spTape K) := by
  refine F.ok scTape (fun vs H Q E h => ?_) (fun cdv A outer s H vs Q E hr h => ?_)
  · obtain ⟨a, ns, k, rfl, _⟩ := h
    rfl
  · obtain ⟨a, ns, k, rfl, hS, h0, h1, q⟩ := h
    refine ⟨_, (pss_cons (ps_set (i := 2) scTape.nd rfl (Or.inl rfl) (pe_ifExp (pt_cmpR op_lt (pv 1) (pe_callB call_len_seq (by rfl) T.z_len (by decide +kernel) (pa_cons (pv 0) pa_nil)) (nomark _)) (pe_ix ix_list (pv 0) (pv 1) (fun _ _ => rfl)) pe_int))
  (pss_one (ps_ret (pe_lst (pa_cons (pe_callB call_abs (by rfl) T.z_abs (by decide +kernel) (pa_cons (pv 2) pa_nil)) (pa_cons (pe_op op_add (pe_op op_mul pe_int (pv 1)) pe_int) pa_nil)))))), ?_⟩
    have hl : (2 : Nat) ≤ sizeLine := by decide
    refine ⟨_, rfl, _, rfl, _, _, rfl, .inl hS, _, _, rfl, rfl, _, rfl, ?_⟩
    by_cases c : k < (((ns.map V.int).length : Nat) : Int)
    · obtain ⟨z, hz⟩ := pure_tape_len h0 c
      refine if_true_of (decide_eq_true c) ?_
      refine ⟨_, rfl, _, rfl, _, _, _, _, rfl, rfl, hS, hz, ?_⟩
      exact ⟨_, rfl, _, rfl, _, rfl, _, _, rfl, rfl, .inl ⟨by decide, by decide⟩, _, _, rfl, rfl, hl, fun p hp => q p _ _ hp ⟨abs_nn _, by omega, by omega⟩⟩
    · refine if_false_of (decide_eq_false c) ?_
      exact ⟨_, rfl, _, rfl, _, rfl, _, _, rfl, rfl, .inl ⟨by decide, by decide⟩, _, _, rfl, rfl, hl, fun p hp => q p _ _ hp ⟨abs_nn _, by omega, by omega⟩⟩
abbrev sPick : Stmt := top 28
theorem scPick : FnScope ["_law_tape_here", "_law_many", "_law_digit", "_law_mixed"] ["_law_tape_here", "_law_many"] (defScope sPick) := ⟨rfl, rfl, rfl, by decide +kernel, rfl, by decide +kernel, by decide +kernel⟩
theorem ok_pick {P : Program} {w : World} {K : PySem.W.Frag} {mg : Str → Option Value} {base : Heap} {c : Cs} (T : Txt K mg c) {f : Addr} {fd : FuncData} (F : Fun K "_law_pick" "_law_pick" sPick f fd) : FnOk P w K mg base CX0 1 f fd ["_law_tape_here", "_law_many"] spPick := by
  refine F.ok scPick (fun vs H Q E h => ?_) (fun cdv A outer s H vs Q E hr h => ?_)
  · obtain ⟨a, m, rfl, _⟩ := h
    rfl
  · obtain ⟨a, m, rfl, ⟨Z, B, hA, hA0, hB0, hB1⟩, hm0, hm1, q⟩ := h
    have hL : SqL K H a [.int Z, .int B] := SqL.of hA
    refine ⟨_, (pss_cons (ps_if (pt_cmpR op_ge (pe_ix ix_list (pv 0) pe_int (fun _ _ => rfl)) (pe_op op_pow pe_int pe_int) (nomark _)) (pss_cons (ps_set (i := 2) scPick.nd rfl (Or.inl rfl) (pe_op op_mod (pe_callTy call_int1 (by rfl) T.z_int (by decide +kernel) (pa_cons (pe_ix ix_list (pv 0) pe_int (fun _ _ => rfl)) pa_nil)) (pv 1)))
  (pss_cons (ps_asg (pe_op op_fdivW (pe_ix ix_list (pv 0) pe_int (fun _ _ => rfl)) (pv 1)) (pg_sub (pv 0) pe_int set_list))
  (pss_one (ps_ret (pv 2))))) pss_nil)
  (pss_cons (ps_asg (pe_op op_mod (pe_callTy call_int1 (by rfl) T.z_int (by decide +kernel) (pa_cons (pe_op op_add (pe_op op_add (pe_op op_mul (pe_ix ix_list (pv 0) pe_int (fun _ _ => rfl)) pe_int) (pe_op op_mul (pe_ix ix_list (pv 0) pe_int (fun _ _ => rfl)) pe_int)) pe_int) pa_nil)) pe_int) (pg_sub (pv 0) pe_int set_list))
  (pss_cons (ps_set (i := 3) scPick.nd rfl (Or.inl rfl) (pe_op op_mod (pe_callTy call_int1 (by rfl) T.z_int (by decide +kernel) (pa_cons (pe_op op_add (pe_op op_add (pe_op op_mul (pe_ix ix_list (pv 0) pe_int (fun _ _ => rfl)) (pe_ix ix_list (pv 0) pe_int (fun _ _ => rfl))) (pe_op op_mul (pe_ix ix_list (pv 0) pe_int (fun _ _ => rfl)) pe_int)) pe_int) pa_nil)) pe_int))
  (pss_one (ps_ret (pe_op op_mod (pe_callTy call_int1 (by rfl) T.z_int (by decide +kernel) (pa_cons (pe_op op_fdivW (pv 3) pe_int) pa_nil)) (pv 1))))))), ?_⟩
    refine ⟨_, rfl, _, _, _, _, rfl, rfl, hL, rfl, _, _, rfl, rfl, ⟨by decide, by decide, by decide⟩, _, _, rfl, rfl, _, rfl, ?_⟩
    have mb : m.natAbs < 2 ^ 120 := by omega
    by_cases c : (10 : Int) ^ (18 : Int).toNat ≤ Z
    · refine if_true_of (decide_eq_true c) ?_
      refine ⟨_, rfl, _, _, _, _, rfl, rfl, hL, rfl, .inl ⟨_, rfl, _, rfl, _, _, rfl, rfl, hm0, ?_⟩⟩
      refine ⟨_, rfl, _, _, _, _, rfl, rfl, hL, rfl, _, rfl, _, _, rfl, rfl, wide_div hm0 mb (by decide) (by decide), _, rfl, _, _, _, 0, rfl, rfl, hA, rfl, ?_⟩
      exact ⟨_, rfl, q _ _ (Int.emod_nonneg _ (by omega)) (Int.emod_lt_of_pos _ hm0) (Frm.put (A := Z / m) (B := B) ⟨Int.ediv_nonneg hA0 (by omega), hB0, hB1⟩)⟩
    · refine if_false_of (decide_eq_false c) ?_
      have cz : Z < 1000000000000000000 := by
        have e : (10 : Int) ^ (18 : Int).toNat = 1000000000000000000 := by decide
        omega
      refine ⟨_, rfl, _, _, _, _, rfl, rfl, hL, rfl, _, _, rfl, rfl, .inl ⟨by omega, by omega⟩, _, rfl, _, _, _, _, rfl, rfl, hL, rfl, _, _, rfl, rfl, .inl ⟨by omega, by omega⟩, _, _, rfl, rfl, _, _, rfl, rfl, .inl ⟨_, rfl, _, _, rfl, rfl, (by show (0 : Int) < 2147483647; decide), _, rfl, _, _, _, 1, rfl, rfl, hA, rfl, ?_⟩⟩
      have b0 : 0 ≤ (B * 48271 + Z * 69621 + 11) % 2147483647 := Int.emod_nonneg _ (by decide)
      have b1 : (B * 48271 + Z * 69621 + 11) % 2147483647 < 2147483647 := Int.emod_lt_of_pos _ (by decide)
      have hA' : upd H a (.lst (([.int Z, .int B] : List V).set 1 (.int ((B * 48271 + Z * 69621 + 11) % 2147483647)))) a = some (.lst [.int Z, .int ((B * 48271 + Z * 69621 + 11) % 2147483647)]) := upd_same
      have hL' : SqL K (upd H a (.lst (([.int Z, .int B] : List V).set 1 (.int ((B * 48271 + Z * 69621 + 11) % 2147483647))))) a [.int Z, .int ((B * 48271 + Z * 69621 + 11) % 2147483647)] := SqL.of hA'
      refine ⟨_, rfl, _, _, _, _, rfl, rfl, hL', rfl, _, rfl, _, _, _, _, rfl, rfl, hL', rfl, _, _, rfl, rfl, .inl ⟨by omega, by omega⟩, _, rfl, _, _, _, _, rfl, rfl, hL', rfl, _, _, rfl, rfl, .inl ⟨by omega, by omega⟩, _, _, rfl, rfl, _, _, rfl, rfl, .inl ⟨_, rfl, _, _, rfl, rfl, (by show (0 : Int) < 2147483399; decide), ?_⟩⟩
      refine ⟨_, rfl, _, _, rfl, rfl, wide_div (b := 10) (by decide) (by decide) (by decide) (by decide), .inl ⟨_, rfl, _, rfl, _, _, rfl, rfl, hm0, ?_⟩⟩
      exact q _ _ (Int.emod_nonneg _ (by omega)) (Int.emod_lt_of_pos _ hm0) (Frm.put (A := Z) (B := (B * 48271 + Z * 69621 + 11) % 2147483647) ⟨hA0, b0, by omega⟩)
theorem upd_at {H : Hp} {p : Addr} {o : HO} (_ : H p = none) : upd H p o p = some o := upd_same
theorem lkz {f : Str} {v : V} : (([f].zip [v]).reverse).lookup f = some v := lk1
theorem isE_some {H : Hp} {a d C : Addr} {fs : List (Str × V)} (ea : H a = some (exo a C (some d))) (ed : H d = some (exd d fs)) : IsE H a C := ⟨some d, ea, fun d' h => by cases h; exact ⟨fs, ed⟩⟩
theorem isE_none {H : Hp} {a C : Addr} (ea : H a = some (exo a C none)) : IsE H a C := ⟨none, ea, fun d' h => nomatch h⟩
/-- the first n errors stand in a list -/
def El (H : Hp) (c : Cs) (n : Nat) (xs : List V) : Prop := xs.length = n ∧ ∀ k, k < n → ∃ r, xs[k]? = some (.ref r) ∧ IsE H r (c k)
theorem El.same {H H' : Hp} {c : Cs} {n : Nat} {xs : List V} (h : El H c n xs) (s : Same H H') : El H' c n xs := ⟨h.1, fun k hk => by
  obtain ⟨r, e, i⟩ := h.2 k hk
  exact ⟨r, e, i.same s⟩⟩
theorem El.snoc {H : Hp} {c : Cs} {n : Nat} {xs : List V} {a : Addr} (h : El H c n xs) (i : IsE H a (c n)) : El H c (n + 1) (xs ++ [.ref a]) := by
  refine ⟨by rw [List.length_append, h.1]; rfl, fun k hk => ?_⟩
  by_cases e : k < n
  · obtain ⟨r, z, y⟩ := h.2 k e
    exact ⟨r, by rw [List.getElem?_append_left (by rw [h.1]; exact e)]; exact z, y⟩
  · have : k = n := by omega
    subst this
    exact ⟨a, by rw [List.getElem?_append_right (by rw [h.1]; exact Nat.le_refl _), h.1, Nat.sub_self]; rfl, i⟩
theorem El.cast {H : Hp} {c : Cs} {n m : Nat} {xs ys : List V} (h : El H c n xs) (e : n = m) (z : xs = ys) : El H c m ys := by
  subst e
  subst z
  exact h
theorem Txt.ex {K : PySem.W.Frag} {mg : Str → Option Value} {c : Cs} (T : Txt K mg c) (i : Nat) (h : i < 24) : ExcC K (c i) :=
  match i, h with
  | 0, _ => T.e0.xc.ex | 1, _ => T.e1.xc.ex | 2, _ => T.e2.xc.ex | 3, _ => T.e3.xc.ex | 4, _ => T.e4.xc.ex | 5, _ => T.e5.xc.ex | 6, _ => T.e6.xc.ex | 7, _ => T.e7.xc.ex
  | 8, _ => T.e8.xc.ex | 9, _ => T.e9.xc.ex | 10, _ => T.e10.xc.ex | 11, _ => T.e11.xc.ex | 12, _ => T.e12.xc.ex | 13, _ => T.e13.xc.ex | 14, _ => T.e14.xc.ex | 15, _ => T.e15.xc.ex
  | 16, _ => T.e16.xc.ex | 17, _ => T.e17.xc.ex | 18, _ => T.e18.xc.ex | 19, _ => T.e19.xc.ex | 20, _ => T.e20.xc.ex | 21, _ => T.e21.xc.ex | 22, _ => T.e22.xc.ex | 23, _ => T.e23.xc.ex
  | n + 24, h => absurd h (by omega)
/-! ### the law's own defs -/
section
variable {P : Program} {w : World} {K : PySem.W.Frag} {mg : Str → Option Value} {base : Heap} {c : Cs}
def Kp (a : Addr) (H H' : Hp) : Prop := (∀ b o, b ≠ a → H b = some o → H' b = some o) ∧ TapeAt H' a
theorem same_new {H : Hp} {p : Addr} {o : HO} (h : H p = none) : Same H (upd H p o) := fun b u e => by
  rw [upd_ne (ne_of_none e h)]
  exact e
theorem Kp.of {a : Addr} {H H' : Hp} (f : Frm a H H') : Kp a H H' := ⟨fun b o hb e => by rw [f.1 b hb]; exact e, f.2⟩
theorem tape_same {a : Addr} {H H' : Hp} (t : TapeAt H a) (s : Same H H') : TapeAt H' a := by
  obtain ⟨A, B, h, ok⟩ := t
  exact ⟨A, B, s _ _ h, ok⟩
theorem Kp.same {a : Addr} {H H' : Hp} (t : TapeAt H a) (s : Same H H') : Kp a H H' := ⟨fun b o _ e => s b o e, tape_same t s⟩
theorem Kp.trans {a : Addr} {H H1 H2 : Hp} (x : Kp a H H1) (y : Kp a H1 H2) : Kp a H H2 := ⟨fun b o hb e => y.1 b o hb (x.1 b o hb e), y.2⟩
/-- one of the eight things, as data -/
inductive ThD : PyData → Prop
  | a : ThD (.int 0)
  | b : ThD (.int (-1))
  | c : ThD (.int (10 ^ 20))
  | d : ThD (.str (S []))
  | e : ThD (.str (S [120]))
  | f : ThD .none
  | g : ThD (.list [.int 1, .int 2])
  | h : ThD (.bool true)
/-- v has the data d, as long as all but the tape at a stands -/
def Th (a : Addr) (d : PyData) (H : Hp) (v : V) : Prop := (∀ (K : PySem.W.Frag) (H' : Hp), Dp K H' v d) ∨ (d = .list [.int 1, .int 2] ∧ ∃ q, q ≠ a ∧ v = .ref q ∧ H q = some (.lst [.int 1, .int 2]))
theorem Th.kp {a : Addr} {d : PyData} {H H' : Hp} {v : V} (h : Th a d H v) (k : Kp a H H') : Th a d H' v := by
  rcases h with h | ⟨e, q, hq, rfl, z⟩
  · exact .inl h
  · exact .inr ⟨e, q, hq, rfl, k.1 _ _ hq z⟩
theorem Th.same {a : Addr} {d : PyData} {H H' : Hp} {v : V} (h : Th a d H v) (k : Same H H') : Th a d H' v := by
  rcases h with h | ⟨e, q, hq, rfl, z⟩
  · exact .inl h
  · exact .inr ⟨e, q, hq, rfl, k _ _ z⟩
theorem Th.dp {a : Addr} {d : PyData} {H : Hp} {v : V} (h : Th a d H v) (K : PySem.W.Frag) : Dp K H v d := by
  rcases h with h | ⟨rfl, q, hq, rfl, z⟩
  · exact h K H
  · exact .lst (SqL.of z) (.cons (.int 1) (.cons (.int 2) .nil))
theorem dp_rep {K : PySem.W.Frag} {H : Hp} {v : V} {d : PyData} (h : Dp K H v d) : ∀ n, DpAll K H (List.replicate n v) (List.replicate n d)
  | 0 => .nil
  | n + 1 => .cons h (dp_rep h n)
theorem dp_bls {K : PySem.W.Frag} {H : Hp} : ∀ bs : List Bool, DpAll K H (bs.map V.bl) (bs.map PyData.bool)
  | [] => .nil
  | b :: bs => .cons (.bl b) (dp_bls bs)
theorem ThD.sh {d : PyData} (h : ThD d) (n : Nat) (hn : n ≤ 17) : SeqAt.shaped (.list (List.replicate n d)) = true ∧ PyData.eqv (.list (List.replicate n d)) (.list (List.replicate n d)) = true := by
  have z : ∀ n, n < 18 → SeqAt.shaped (.list (List.replicate n d)) = true := by cases h <;> decide +kernel
  exact ⟨z n (by omega), SeqAt.eqv_refl _ (SeqAt.canLay_of_shaped (z n (by omega)))⟩
abbrev sThing : Stmt := top 29
theorem scThing : FnScope ["_law_tape_here"] ["_law_tape_here"] (defScope sThing) := ⟨rfl, rfl, rfl, by decide +kernel, rfl, by decide +kernel, by decide +kernel⟩
def spThing : Sp := fun vs H Q _ => ∃ a : Addr, vs = [.ref a] ∧ TapeAt H a ∧ ∀ (v : V) (d : PyData) (H' : Hp), ThD d → Th a d H' v → Kp a H H' → Q v H'
theorem ok_thing (T : Txt K mg c) (dP : DefAt K mg "_law_pick" sPick ["_law_tape_here", "_law_many"]) {f : Addr} {fd : FuncData} (F : Fun K "_law_thing" "_law_thing" sThing f fd) : FnOk P w K mg base CX0 2 f fd ["_law_tape_here"] spThing := by
  have cP : Cal P w K mg base CX0 1 "_law_pick" spPick := cal_of dP fun f fd F => ok_pick T F
  refine F.ok scThing (fun vs H Q E h => ?_) (fun cdv A outer s H vs Q E hr h => ?_)
  · obtain ⟨a, rfl, _⟩ := h
    rfl
  · obtain ⟨a, rfl, ta, q⟩ := h
    refine ⟨_, (pss_one (ps_ret (pe_ix ix_list (pe_lst (pa_cons pe_int (pa_cons (pe_un un_neg pe_int) (pa_cons (pe_op op_pow pe_int pe_int) (pa_cons (pe_strS ([] : List Nat) (by decide +kernel)) (pa_cons (pe_strS [120] (by decide +kernel)) (pa_cons pe_non (pa_cons (pe_lst (pa_cons pe_int (pa_cons pe_int pa_nil))) (pa_cons pe_bl pa_nil))))))))) (pe_c cP hr (by decide) rfl (pa_cons (pv 0) (pa_cons pe_int pa_nil))) (fun _ _ => rfl)))), ?_⟩
    refine ⟨_, rfl, _, _, rfl, rfl, ⟨by decide, by decide, by decide⟩, (by show 2 ≤ sizeLine; decide), fun l hl => ⟨(by show 8 ≤ sizeLine; decide), fun p hp => ?_⟩⟩
    have s : Same H (upd (upd H l (.lst [.int 1, .int 2])) p (.lst [.int 0, .int (-1), .int (10 ^ 20), .str (S []), .str (S [120]), .non, .ref l, .bl true])) := (same_new hl).trans (same_new hp)
    have la : l ≠ a := fun z => by
      obtain ⟨A, B, e, _⟩ := ta
      rw [← z, hl] at e
      cases e
    have pl : l ≠ p := fun z => by rw [← z, upd_same] at hp; cases hp
    have pa : p ≠ a := fun z => by
      obtain ⟨A, B, e, _⟩ := tape_same ta (same_new (o := .lst [.int 1, .int 2]) hl)
      rw [← z, hp] at e
      cases e
    refine ⟨_, rfl, a, 8, rfl, tape_same ta s, by decide, by decide, fun r H' r0 r1 F => ?_⟩
    have k : Kp a H H' := (Kp.same ta s).trans (Kp.of F)
    have ep : H' p = some (.lst [.int 0, .int (-1), .int (10 ^ 20), .str (S []), .str (S [120]), .non, .ref l, .bl true]) := (Kp.of F).1 _ _ pa upd_same
    have el : H' l = some (.lst [.int 1, .int 2]) := (Kp.of F).1 _ _ la (by rw [upd_ne pl, upd_same])
    have hr8 : r = 0 ∨ r = 1 ∨ r = 2 ∨ r = 3 ∨ r = 4 ∨ r = 5 ∨ r = 6 ∨ r = 7 := by omega
    rcases hr8 with rfl | rfl | rfl | rfl | rfl | rfl | rfl | rfl
    · exact ⟨_, _, _, _, rfl, rfl, SqL.of ep, rfl, q _ _ H' .a (.inl fun K H => .int _) k⟩
    · exact ⟨_, _, _, _, rfl, rfl, SqL.of ep, rfl, q _ _ H' .b (.inl fun K H => .int _) k⟩
    · exact ⟨_, _, _, _, rfl, rfl, SqL.of ep, rfl, q _ _ H' .c (.inl fun K H => .int _) k⟩
    · exact ⟨_, _, _, _, rfl, rfl, SqL.of ep, rfl, q _ _ H' .d (.inl fun K H => .str _) k⟩
    · exact ⟨_, _, _, _, rfl, rfl, SqL.of ep, rfl, q _ _ H' .e (.inl fun K H => .str _) k⟩
    · exact ⟨_, _, _, _, rfl, rfl, SqL.of ep, rfl, q _ _ H' .f (.inl fun K H => .non) k⟩
    · exact ⟨_, _, _, _, rfl, rfl, SqL.of ep, rfl, q _ _ H' .g (.inr ⟨rfl, l, la, rfl, el⟩) k⟩
    · exact ⟨_, _, _, _, rfl, rfl, SqL.of ep, rfl, q _ _ H' .h (.inl fun K H => .bl _) k⟩
/-- a list of the thing, seventeen times -/
def spTold : Sp := fun vs H Q _ => ∃ v : V, vs = [v] ∧ ∀ (p : Addr) (H' : Hp), Same H H' → H' p = some (.lst (List.replicate 17 v)) → Q (.ref p) H'
abbrev sTold : Stmt := top 30
theorem scTold : FnScope ["_law_a", "_law_found"] ["_law_a"] (defScope sTold) := ⟨rfl, rfl, rfl, by decide +kernel, rfl, by decide +kernel, by decide +kernel⟩
theorem ok_told (T : Txt K mg c) {f : Addr} {fd : FuncData} (F : Fun K "_law_told" "_law_told" sTold f fd) : FnOk P w K mg base CX0 3 f fd ["_law_a"] spTold := by
  refine F.ok scTold (fun vs H Q E h => ?_) (fun cdv A outer s H vs Q E hr h => ?_)
  · obtain ⟨v, rfl, _⟩ := h
    rfl
  · obtain ⟨v, rfl, q⟩ := h
    refine ⟨_, (pss_cons (ps_set (i := 1) scTold.nd rfl (Or.inl rfl) (pe_lst (pa_cons (pe_fl T.e0 (pe_mk1 T.e0 hr (by decide) (pv 0))) (pa_cons (pe_fl T.e1 (pe_mk1 T.e1 hr (by decide) (pv 0))) (pa_cons (pe_fl T.e2 (pe_mk1 T.e2 hr (by decide) (pv 0))) (pa_cons (pe_fl T.e3 (pe_mk1 T.e3 hr (by decide) (pv 0))) pa_nil))))))
  (pss_cons (ps_set (i := 1) scTold.nd rfl (Or.inl rfl) (pe_op op_cat (pv 1) (pe_lst (pa_cons (pe_fl T.e4 (pe_mk1 T.e4 hr (by decide) (pv 0))) (pa_cons (pe_fl T.e5 (pe_mk1 T.e5 hr (by decide) (pv 0))) (pa_cons (pe_fl T.e6 (pe_mk1 T.e6 hr (by decide) (pv 0))) (pa_cons (pe_fl T.e7 (pe_mk1 T.e7 hr (by decide) (pv 0))) (pa_cons (pe_fl T.e8 (pe_mk1 T.e8 hr (by decide) (pv 0))) pa_nil))))))))
  (pss_cons (ps_set (i := 1) scTold.nd rfl (Or.inl rfl) (pe_op op_cat (pv 1) (pe_lst (pa_cons (pe_fl T.e9 (pe_mk1 T.e9 hr (by decide) (pv 0))) (pa_cons (pe_fl T.e10 (pe_mk1 T.e10 hr (by decide) (pv 0))) (pa_cons (pe_fl T.e11 (pe_mk1 T.e11 hr (by decide) (pv 0))) (pa_cons (pe_fl T.e12 (pe_mk1 T.e12 hr (by decide) (pv 0))) (pa_cons (pe_fl T.e13 (pe_mk1 T.e13 hr (by decide) (pv 0))) pa_nil))))))))
  (pss_one (ps_ret (pe_op op_cat (pv 1) (pe_lst (pa_cons (pe_fl T.e14 (pe_mk1 T.e14 hr (by decide) (pv 0))) (pa_cons (pe_fl T.e15 (pe_mk1 T.e15 hr (by decide) (pv 0))) (pa_cons (pe_fl T.e16 (pe_mk1 T.e16 hr (by decide) (pv 0))) pa_nil)))))))))), ?_⟩
    have k := Same.refl H
    refine ⟨_, rfl, rfl, fun a d Hn s ea ed => ⟨a, d, _, _, rfl, ea, ed, lkz, ?_⟩⟩
    replace k := k.trans s; clear ea ed s
    refine ⟨_, rfl, rfl, fun a d Hn s ea ed => ⟨a, d, _, _, rfl, ea, ed, lkz, ?_⟩⟩
    replace k := k.trans s; clear ea ed s
    refine ⟨_, rfl, rfl, fun a d Hn s ea ed => ⟨a, d, _, _, rfl, ea, ed, lkz, ?_⟩⟩
    replace k := k.trans s; clear ea ed s
    refine ⟨_, rfl, rfl, fun a d Hn s ea ed => ⟨a, d, _, _, rfl, ea, ed, lkz, ?_⟩⟩
    replace k := k.trans s; clear ea ed s
    refine ⟨(by show 4 ≤ sizeLine; decide), fun p hp => ?_⟩
    have el := upd_at (o := .lst (List.replicate 4 v)) hp
    replace k := k.trans (same_new (o := .lst (List.replicate 4 v)) hp)
    refine ⟨_, rfl, ?_⟩
    refine ⟨_, rfl, rfl, fun a d Hn s ea ed => ⟨a, d, _, _, rfl, ea, ed, lkz, ?_⟩⟩
    replace el := s _ _ el
    replace k := k.trans s; clear ea ed s
    refine ⟨_, rfl, rfl, fun a d Hn s ea ed => ⟨a, d, _, _, rfl, ea, ed, lkz, ?_⟩⟩
    replace el := s _ _ el
    replace k := k.trans s; clear ea ed s
    refine ⟨_, rfl, rfl, fun a d Hn s ea ed => ⟨a, d, _, _, rfl, ea, ed, lkz, ?_⟩⟩
    replace el := s _ _ el
    replace k := k.trans s; clear ea ed s
    refine ⟨_, rfl, rfl, fun a d Hn s ea ed => ⟨a, d, _, _, rfl, ea, ed, lkz, ?_⟩⟩
    replace el := s _ _ el
    replace k := k.trans s; clear ea ed s
    refine ⟨_, rfl, rfl, fun a d Hn s ea ed => ⟨a, d, _, _, rfl, ea, ed, lkz, ?_⟩⟩
    replace el := s _ _ el
    replace k := k.trans s; clear ea ed s
    refine ⟨(by show 5 ≤ sizeLine; decide), fun p2 hp2 => ?_⟩
    replace el := same_new (o := .lst (List.replicate 5 v)) hp2 _ _ el
    replace k := k.trans (same_new (o := .lst (List.replicate 5 v)) hp2)
    refine ⟨_, _, _, _, rfl, rfl, el, upd_same, (by show 9 ≤ sizeLine; decide), fun p3 hp3 => ?_⟩
    replace k := k.trans (same_new (o := .lst (List.replicate 9 v)) hp3)
    clear el
    have el := upd_at (o := .lst (List.replicate 9 v)) hp3
    clear hp2 hp3
    refine ⟨_, rfl, ?_⟩
    refine ⟨_, rfl, rfl, fun a d Hn s ea ed => ⟨a, d, _, _, rfl, ea, ed, lkz, ?_⟩⟩
    replace el := s _ _ el
    replace k := k.trans s; clear ea ed s
    refine ⟨_, rfl, rfl, fun a d Hn s ea ed => ⟨a, d, _, _, rfl, ea, ed, lkz, ?_⟩⟩
    replace el := s _ _ el
    replace k := k.trans s; clear ea ed s
    refine ⟨_, rfl, rfl, fun a d Hn s ea ed => ⟨a, d, _, _, rfl, ea, ed, lkz, ?_⟩⟩
    replace el := s _ _ el
    replace k := k.trans s; clear ea ed s
    refine ⟨_, rfl, rfl, fun a d Hn s ea ed => ⟨a, d, _, _, rfl, ea, ed, lkz, ?_⟩⟩
    replace el := s _ _ el
    replace k := k.trans s; clear ea ed s
    refine ⟨_, rfl, rfl, fun a d Hn s ea ed => ⟨a, d, _, _, rfl, ea, ed, lkz, ?_⟩⟩
    replace el := s _ _ el
    replace k := k.trans s; clear ea ed s
    refine ⟨(by show 5 ≤ sizeLine; decide), fun p2 hp2 => ?_⟩
    replace el := same_new (o := .lst (List.replicate 5 v)) hp2 _ _ el
    replace k := k.trans (same_new (o := .lst (List.replicate 5 v)) hp2)
    refine ⟨_, _, _, _, rfl, rfl, el, upd_same, (by show 14 ≤ sizeLine; decide), fun p3 hp3 => ?_⟩
    replace k := k.trans (same_new (o := .lst (List.replicate 14 v)) hp3)
    clear el
    have el := upd_at (o := .lst (List.replicate 14 v)) hp3
    clear hp2 hp3
    refine ⟨_, rfl, ?_⟩
    refine ⟨_, rfl, rfl, fun a d Hn s ea ed => ⟨a, d, _, _, rfl, ea, ed, lkz, ?_⟩⟩
    replace el := s _ _ el
    replace k := k.trans s; clear ea ed s
    refine ⟨_, rfl, rfl, fun a d Hn s ea ed => ⟨a, d, _, _, rfl, ea, ed, lkz, ?_⟩⟩
    replace el := s _ _ el
    replace k := k.trans s; clear ea ed s
    refine ⟨_, rfl, rfl, fun a d Hn s ea ed => ⟨a, d, _, _, rfl, ea, ed, lkz, ?_⟩⟩
    replace el := s _ _ el
    replace k := k.trans s; clear ea ed s
    refine ⟨(by show 3 ≤ sizeLine; decide), fun p2 hp2 => ?_⟩
    replace el := same_new (o := .lst (List.replicate 3 v)) hp2 _ _ el
    replace k := k.trans (same_new (o := .lst (List.replicate 3 v)) hp2)
    refine ⟨_, _, _, _, rfl, rfl, el, upd_same, (by show 17 ≤ sizeLine; decide), fun p3 hp3 => ?_⟩
    exact q _ _ (k.trans (same_new hp3)) upd_same
abbrev sNamed : Stmt := top 31
theorem scNamed : FnScope ["_law_a", "_law_found"] ["_law_a"] (defScope sNamed) := ⟨rfl, rfl, rfl, by decide +kernel, rfl, by decide +kernel, by decide +kernel⟩
theorem ok_named (T : Txt K mg c) {f : Addr} {fd : FuncData} (F : Fun K "_law_named" "_law_named" sNamed f fd) : FnOk P w K mg base CX0 3 f fd ["_law_a"] spTold := by
  refine F.ok scNamed (fun vs H Q E h => ?_) (fun cdv A outer s H vs Q E hr h => ?_)
  · obtain ⟨v, rfl, _⟩ := h
    rfl
  · obtain ⟨v, rfl, q⟩ := h
    refine ⟨_, (pss_cons (ps_set (i := 1) scNamed.nd rfl (Or.inl rfl) (pe_lst (pa_cons (pe_fl T.e0 (pe_mkK T.e0 hr (by decide) (pv 0))) (pa_cons (pe_fl T.e1 (pe_mkK T.e1 hr (by decide) (pv 0))) (pa_cons (pe_fl T.e2 (pe_mkK T.e2 hr (by decide) (pv 0))) pa_nil)))))
  (pss_cons (ps_set (i := 1) scNamed.nd rfl (Or.inl rfl) (pe_op op_cat (pv 1) (pe_lst (pa_cons (pe_fl T.e3 (pe_mkK T.e3 hr (by decide) (pv 0))) (pa_cons (pe_fl T.e4 (pe_mkK T.e4 hr (by decide) (pv 0))) (pa_cons (pe_fl T.e5 (pe_mkK T.e5 hr (by decide) (pv 0))) (pa_cons (pe_fl T.e6 (pe_mkK T.e6 hr (by decide) (pv 0))) pa_nil)))))))
  (pss_cons (ps_set (i := 1) scNamed.nd rfl (Or.inl rfl) (pe_op op_cat (pv 1) (pe_lst (pa_cons (pe_fl T.e7 (pe_mkK T.e7 hr (by decide) (pv 0))) (pa_cons (pe_fl T.e8 (pe_mkK T.e8 hr (by decide) (pv 0))) (pa_cons (pe_fl T.e9 (pe_mkK T.e9 hr (by decide) (pv 0))) pa_nil))))))
  (pss_cons (ps_set (i := 1) scNamed.nd rfl (Or.inl rfl) (pe_op op_cat (pv 1) (pe_lst (pa_cons (pe_fl T.e10 (pe_mkK T.e10 hr (by decide) (pv 0))) (pa_cons (pe_fl T.e11 (pe_mkK T.e11 hr (by decide) (pv 0))) (pa_cons (pe_fl T.e12 (pe_mkK T.e12 hr (by decide) (pv 0))) pa_nil))))))
  (pss_one (ps_ret (pe_op op_cat (pv 1) (pe_lst (pa_cons (pe_fl T.e13 (pe_mkK T.e13 hr (by decide) (pv 0))) (pa_cons (pe_fl T.e14 (pe_mkK T.e14 hr (by decide) (pv 0))) (pa_cons (pe_fl T.e15 (pe_mkK T.e15 hr (by decide) (pv 0))) (pa_cons (pe_fl T.e16 (pe_mkK T.e16 hr (by decide) (pv 0))) pa_nil)))))))))))), ?_⟩
    have k := Same.refl H
    refine ⟨_, rfl, rfl, fun a d Hn s ea ed => ⟨a, d, _, _, rfl, ea, ed, lkz, ?_⟩⟩
    replace k := k.trans s; clear ea ed s
    refine ⟨_, rfl, rfl, fun a d Hn s ea ed => ⟨a, d, _, _, rfl, ea, ed, lkz, ?_⟩⟩
    replace k := k.trans s; clear ea ed s
    refine ⟨_, rfl, rfl, fun a d Hn s ea ed => ⟨a, d, _, _, rfl, ea, ed, lkz, ?_⟩⟩
    replace k := k.trans s; clear ea ed s
    refine ⟨(by show 3 ≤ sizeLine; decide), fun p hp => ?_⟩
    have el := upd_at (o := .lst (List.replicate 3 v)) hp
    replace k := k.trans (same_new (o := .lst (List.replicate 3 v)) hp)
    refine ⟨_, rfl, ?_⟩
    refine ⟨_, rfl, rfl, fun a d Hn s ea ed => ⟨a, d, _, _, rfl, ea, ed, lkz, ?_⟩⟩
    replace el := s _ _ el
    replace k := k.trans s; clear ea ed s
    refine ⟨_, rfl, rfl, fun a d Hn s ea ed => ⟨a, d, _, _, rfl, ea, ed, lkz, ?_⟩⟩
    replace el := s _ _ el
    replace k := k.trans s; clear ea ed s
    refine ⟨_, rfl, rfl, fun a d Hn s ea ed => ⟨a, d, _, _, rfl, ea, ed, lkz, ?_⟩⟩
    replace el := s _ _ el
    replace k := k.trans s; clear ea ed s
    refine ⟨_, rfl, rfl, fun a d Hn s ea ed => ⟨a, d, _, _, rfl, ea, ed, lkz, ?_⟩⟩
    replace el := s _ _ el
    replace k := k.trans s; clear ea ed s
    refine ⟨(by show 4 ≤ sizeLine; decide), fun p2 hp2 => ?_⟩
    replace el := same_new (o := .lst (List.replicate 4 v)) hp2 _ _ el
    replace k := k.trans (same_new (o := .lst (List.replicate 4 v)) hp2)
    refine ⟨_, _, _, _, rfl, rfl, el, upd_same, (by show 7 ≤ sizeLine; decide), fun p3 hp3 => ?_⟩
    replace k := k.trans (same_new (o := .lst (List.replicate 7 v)) hp3)
    clear el
    have el := upd_at (o := .lst (List.replicate 7 v)) hp3
    clear hp2 hp3
    refine ⟨_, rfl, ?_⟩
    refine ⟨_, rfl, rfl, fun a d Hn s ea ed => ⟨a, d, _, _, rfl, ea, ed, lkz, ?_⟩⟩
    replace el := s _ _ el
    replace k := k.trans s; clear ea ed s
    refine ⟨_, rfl, rfl, fun a d Hn s ea ed => ⟨a, d, _, _, rfl, ea, ed, lkz, ?_⟩⟩
    replace el := s _ _ el
    replace k := k.trans s; clear ea ed s
    refine ⟨_, rfl, rfl, fun a d Hn s ea ed => ⟨a, d, _, _, rfl, ea, ed, lkz, ?_⟩⟩
    replace el := s _ _ el
    replace k := k.trans s; clear ea ed s
    refine ⟨(by show 3 ≤ sizeLine; decide), fun p2 hp2 => ?_⟩
    replace el := same_new (o := .lst (List.replicate 3 v)) hp2 _ _ el
    replace k := k.trans (same_new (o := .lst (List.replicate 3 v)) hp2)
    refine ⟨_, _, _, _, rfl, rfl, el, upd_same, (by show 10 ≤ sizeLine; decide), fun p3 hp3 => ?_⟩
    replace k := k.trans (same_new (o := .lst (List.replicate 10 v)) hp3)
    clear el
    have el := upd_at (o := .lst (List.replicate 10 v)) hp3
    clear hp2 hp3
    refine ⟨_, rfl, ?_⟩
    refine ⟨_, rfl, rfl, fun a d Hn s ea ed => ⟨a, d, _, _, rfl, ea, ed, lkz, ?_⟩⟩
    replace el := s _ _ el
    replace k := k.trans s; clear ea ed s
    refine ⟨_, rfl, rfl, fun a d Hn s ea ed => ⟨a, d, _, _, rfl, ea, ed, lkz, ?_⟩⟩
    replace el := s _ _ el
    replace k := k.trans s; clear ea ed s
    refine ⟨_, rfl, rfl, fun a d Hn s ea ed => ⟨a, d, _, _, rfl, ea, ed, lkz, ?_⟩⟩
    replace el := s _ _ el
    replace k := k.trans s; clear ea ed s
    refine ⟨(by show 3 ≤ sizeLine; decide), fun p2 hp2 => ?_⟩
    replace el := same_new (o := .lst (List.replicate 3 v)) hp2 _ _ el
    replace k := k.trans (same_new (o := .lst (List.replicate 3 v)) hp2)
    refine ⟨_, _, _, _, rfl, rfl, el, upd_same, (by show 13 ≤ sizeLine; decide), fun p3 hp3 => ?_⟩
    replace k := k.trans (same_new (o := .lst (List.replicate 13 v)) hp3)
    clear el
    have el := upd_at (o := .lst (List.replicate 13 v)) hp3
    clear hp2 hp3
    refine ⟨_, rfl, ?_⟩
    refine ⟨_, rfl, rfl, fun a d Hn s ea ed => ⟨a, d, _, _, rfl, ea, ed, lkz, ?_⟩⟩
    replace el := s _ _ el
    replace k := k.trans s; clear ea ed s
    refine ⟨_, rfl, rfl, fun a d Hn s ea ed => ⟨a, d, _, _, rfl, ea, ed, lkz, ?_⟩⟩
    replace el := s _ _ el
    replace k := k.trans s; clear ea ed s
    refine ⟨_, rfl, rfl, fun a d Hn s ea ed => ⟨a, d, _, _, rfl, ea, ed, lkz, ?_⟩⟩
    replace el := s _ _ el
    replace k := k.trans s; clear ea ed s
    refine ⟨_, rfl, rfl, fun a d Hn s ea ed => ⟨a, d, _, _, rfl, ea, ed, lkz, ?_⟩⟩
    replace el := s _ _ el
    replace k := k.trans s; clear ea ed s
    refine ⟨(by show 4 ≤ sizeLine; decide), fun p2 hp2 => ?_⟩
    replace el := same_new (o := .lst (List.replicate 4 v)) hp2 _ _ el
    replace k := k.trans (same_new (o := .lst (List.replicate 4 v)) hp2)
    refine ⟨_, _, _, _, rfl, rfl, el, upd_same, (by show 17 ≤ sizeLine; decide), fun p3 hp3 => ?_⟩
    exact q _ _ (k.trans (same_new hp3)) upd_same
/-- which classes the error is of -/
def spKinds (c : Cs) : Sp := fun vs H Q _ => ∃ (a : Addr) (i : Nat), vs = [.ref a] ∧ i < 24 ∧ IsE H a (c i) ∧ ∀ (p : Addr) (H' : Hp), Same H H' → H' p = some (.lst (((List.range 24).map fun j => decide (i = j)).map V.bl)) → Q (.ref p) H'
abbrev sKinds : Stmt := top 32
theorem scKinds : FnScope ["_law_e", "_law_found"] ["_law_e"] (defScope sKinds) := ⟨rfl, rfl, rfl, by decide +kernel, rfl, by decide +kernel, by decide +kernel⟩
theorem ok_kinds (T : Txt K mg c) {f : Addr} {fd : FuncData} (F : Fun K "_law_kinds" "_law_kinds" sKinds f fd) : FnOk P w K mg base CX0 1 f fd ["_law_e"] (spKinds c) := by
  refine F.ok scKinds (fun vs H Q E h => ?_) (fun cdv A outer s H vs Q E hr h => ?_)
  · obtain ⟨a, i, rfl, _⟩ := h
    rfl
  · obtain ⟨a, i, rfl, hi, ie0, q⟩ := h
    have ie := ie0
    refine ⟨_, (pss_cons (ps_set (i := 1) scKinds.nd rfl (Or.inl rfl) (pe_lst (pa_cons (pe_callB call_isV (by rfl) T.z_isinstance (by decide +kernel) (pa_cons (pv 0) (pa_cons (pe_glob (v := .ref (c 0)) rfl T.e0.xc.gC rfl) pa_nil))) (pa_cons (pe_callB call_isV (by rfl) T.z_isinstance (by decide +kernel) (pa_cons (pv 0) (pa_cons (pe_glob (v := .ref (c 1)) rfl T.e1.xc.gC rfl) pa_nil))) (pa_cons (pe_callB call_isV (by rfl) T.z_isinstance (by decide +kernel) (pa_cons (pv 0) (pa_cons (pe_glob (v := .ref (c 2)) rfl T.e2.xc.gC rfl) pa_nil))) pa_nil)))))
  (pss_cons (ps_set (i := 1) scKinds.nd rfl (Or.inl rfl) (pe_op op_cat (pv 1) (pe_lst (pa_cons (pe_callB call_isV (by rfl) T.z_isinstance (by decide +kernel) (pa_cons (pv 0) (pa_cons (pe_glob (v := .ref (c 3)) rfl T.e3.xc.gC rfl) pa_nil))) (pa_cons (pe_callB call_isV (by rfl) T.z_isinstance (by decide +kernel) (pa_cons (pv 0) (pa_cons (pe_glob (v := .ref (c 4)) rfl T.e4.xc.gC rfl) pa_nil))) (pa_cons (pe_callB call_isV (by rfl) T.z_isinstance (by decide +kernel) (pa_cons (pv 0) (pa_cons (pe_glob (v := .ref (c 5)) rfl T.e5.xc.gC rfl) pa_nil))) (pa_cons (pe_callB call_isV (by rfl) T.z_isinstance (by decide +kernel) (pa_cons (pv 0) (pa_cons (pe_glob (v := .ref (c 6)) rfl T.e6.xc.gC rfl) pa_nil))) pa_nil)))))))
  (pss_cons (ps_set (i := 1) scKinds.nd rfl (Or.inl rfl) (pe_op op_cat (pv 1) (pe_lst (pa_cons (pe_callB call_isV (by rfl) T.z_isinstance (by decide +kernel) (pa_cons (pv 0) (pa_cons (pe_glob (v := .ref (c 7)) rfl T.e7.xc.gC rfl) pa_nil))) (pa_cons (pe_callB call_isV (by rfl) T.z_isinstance (by decide +kernel) (pa_cons (pv 0) (pa_cons (pe_glob (v := .ref (c 8)) rfl T.e8.xc.gC rfl) pa_nil))) (pa_cons (pe_callB call_isV (by rfl) T.z_isinstance (by decide +kernel) (pa_cons (pv 0) (pa_cons (pe_glob (v := .ref (c 9)) rfl T.e9.xc.gC rfl) pa_nil))) pa_nil))))))
  (pss_cons (ps_set (i := 1) scKinds.nd rfl (Or.inl rfl) (pe_op op_cat (pv 1) (pe_lst (pa_cons (pe_callB call_isV (by rfl) T.z_isinstance (by decide +kernel) (pa_cons (pv 0) (pa_cons (pe_glob (v := .ref (c 10)) rfl T.e10.xc.gC rfl) pa_nil))) (pa_cons (pe_callB call_isV (by rfl) T.z_isinstance (by decide +kernel) (pa_cons (pv 0) (pa_cons (pe_glob (v := .ref (c 11)) rfl T.e11.xc.gC rfl) pa_nil))) (pa_cons (pe_callB call_isV (by rfl) T.z_isinstance (by decide +kernel) (pa_cons (pv 0) (pa_cons (pe_glob (v := .ref (c 12)) rfl T.e12.xc.gC rfl) pa_nil))) pa_nil))))))
  (pss_cons (ps_set (i := 1) scKinds.nd rfl (Or.inl rfl) (pe_op op_cat (pv 1) (pe_lst (pa_cons (pe_callB call_isV (by rfl) T.z_isinstance (by decide +kernel) (pa_cons (pv 0) (pa_cons (pe_glob (v := .ref (c 13)) rfl T.e13.xc.gC rfl) pa_nil))) (pa_cons (pe_callB call_isV (by rfl) T.z_isinstance (by decide +kernel) (pa_cons (pv 0) (pa_cons (pe_glob (v := .ref (c 14)) rfl T.e14.xc.gC rfl) pa_nil))) (pa_cons (pe_callB call_isV (by rfl) T.z_isinstance (by decide +kernel) (pa_cons (pv 0) (pa_cons (pe_glob (v := .ref (c 15)) rfl T.e15.xc.gC rfl) pa_nil))) (pa_cons (pe_callB call_isV (by rfl) T.z_isinstance (by decide +kernel) (pa_cons (pv 0) (pa_cons (pe_glob (v := .ref (c 16)) rfl T.e16.xc.gC rfl) pa_nil))) pa_nil)))))))
  (pss_cons (ps_set (i := 1) scKinds.nd rfl (Or.inl rfl) (pe_op op_cat (pv 1) (pe_lst (pa_cons (pe_callB call_isV (by rfl) T.z_isinstance (by decide +kernel) (pa_cons (pv 0) (pa_cons (pe_glob (v := .ref (c 17)) rfl T.e17.xc.gC rfl) pa_nil))) (pa_cons (pe_callB call_isV (by rfl) T.z_isinstance (by decide +kernel) (pa_cons (pv 0) (pa_cons (pe_glob (v := .ref (c 18)) rfl T.e18.xc.gC rfl) pa_nil))) (pa_cons (pe_callB call_isV (by rfl) T.z_isinstance (by decide +kernel) (pa_cons (pv 0) (pa_cons (pe_glob (v := .ref (c 19)) rfl T.e19.xc.gC rfl) pa_nil))) (pa_cons (pe_callB call_isV (by rfl) T.z_isinstance (by decide +kernel) (pa_cons (pv 0) (pa_cons (pe_glob (v := .ref (c 20)) rfl T.e20.xc.gC rfl) pa_nil))) pa_nil)))))))
  (pss_one (ps_ret (pe_op op_cat (pv 1) (pe_lst (pa_cons (pe_callB call_isV (by rfl) T.z_isinstance (by decide +kernel) (pa_cons (pv 0) (pa_cons (pe_glob (v := .ref (c 21)) rfl T.e21.xc.gC rfl) pa_nil))) (pa_cons (pe_callB call_isV (by rfl) T.z_isinstance (by decide +kernel) (pa_cons (pv 0) (pa_cons (pe_glob (v := .ref (c 22)) rfl T.e22.xc.gC rfl) pa_nil))) (pa_cons (pe_callB call_isV (by rfl) T.z_isinstance (by decide +kernel) (pa_cons (pv 0) (pa_cons (pe_glob (v := .ref (c 23)) rfl T.e23.xc.gC rfl) pa_nil))) pa_nil))))))))))))), ?_⟩
    refine ⟨_, rfl, a, _, _, _, _, rfl, T.ex i hi, ie, (fun _ h => h), (T.kits i hi).2.2 0 (by decide), ?_⟩
    refine ⟨_, rfl, a, _, _, _, _, rfl, T.ex i hi, ie, (fun _ h => h), (T.kits i hi).2.2 1 (by decide), ?_⟩
    refine ⟨_, rfl, a, _, _, _, _, rfl, T.ex i hi, ie, (fun _ h => h), (T.kits i hi).2.2 2 (by decide), ?_⟩
    refine ⟨(by show 3 ≤ sizeLine; decide), fun p3 hp3 => ?_⟩
    have el := upd_at (o := .lst [.bl (decide (i = 0)), .bl (decide (i = 1)), .bl (decide (i = 2))]) hp3
    have k := same_new (o := .lst [.bl (decide (i = 0)), .bl (decide (i = 1)), .bl (decide (i = 2))]) hp3
    replace ie := ie0.same k
    refine ⟨_, rfl, ?_⟩
    refine ⟨_, rfl, a, _, _, _, _, rfl, T.ex i hi, ie, (fun _ h => h), (T.kits i hi).2.2 3 (by decide), ?_⟩
    refine ⟨_, rfl, a, _, _, _, _, rfl, T.ex i hi, ie, (fun _ h => h), (T.kits i hi).2.2 4 (by decide), ?_⟩
    refine ⟨_, rfl, a, _, _, _, _, rfl, T.ex i hi, ie, (fun _ h => h), (T.kits i hi).2.2 5 (by decide), ?_⟩
    refine ⟨_, rfl, a, _, _, _, _, rfl, T.ex i hi, ie, (fun _ h => h), (T.kits i hi).2.2 6 (by decide), ?_⟩
    refine ⟨(by show 4 ≤ sizeLine; decide), fun p7 hp7 => ?_⟩
    replace el := same_new (o := .lst [.bl (decide (i = 3)), .bl (decide (i = 4)), .bl (decide (i = 5)), .bl (decide (i = 6))]) hp7 _ _ el
    replace k := k.trans (same_new (o := .lst [.bl (decide (i = 3)), .bl (decide (i = 4)), .bl (decide (i = 5)), .bl (decide (i = 6))]) hp7)
    refine ⟨_, _, _, _, rfl, rfl, el, upd_same, (by show 7 ≤ sizeLine; decide), fun r7 hr7 => ?_⟩
    have el := upd_at (o := .lst [.bl (decide (i = 0)), .bl (decide (i = 1)), .bl (decide (i = 2)), .bl (decide (i = 3)), .bl (decide (i = 4)), .bl (decide (i = 5)), .bl (decide (i = 6))]) hr7
    replace k := k.trans (same_new (o := .lst [.bl (decide (i = 0)), .bl (decide (i = 1)), .bl (decide (i = 2)), .bl (decide (i = 3)), .bl (decide (i = 4)), .bl (decide (i = 5)), .bl (decide (i = 6))]) hr7)
    replace ie := ie0.same k
    refine ⟨_, rfl, ?_⟩
    refine ⟨_, rfl, a, _, _, _, _, rfl, T.ex i hi, ie, (fun _ h => h), (T.kits i hi).2.2 7 (by decide), ?_⟩
    refine ⟨_, rfl, a, _, _, _, _, rfl, T.ex i hi, ie, (fun _ h => h), (T.kits i hi).2.2 8 (by decide), ?_⟩
    refine ⟨_, rfl, a, _, _, _, _, rfl, T.ex i hi, ie, (fun _ h => h), (T.kits i hi).2.2 9 (by decide), ?_⟩
    refine ⟨(by show 3 ≤ sizeLine; decide), fun p10 hp10 => ?_⟩
    replace el := same_new (o := .lst [.bl (decide (i = 7)), .bl (decide (i = 8)), .bl (decide (i = 9))]) hp10 _ _ el
    replace k := k.trans (same_new (o := .lst [.bl (decide (i = 7)), .bl (decide (i = 8)), .bl (decide (i = 9))]) hp10)
    refine ⟨_, _, _, _, rfl, rfl, el, upd_same, (by show 10 ≤ sizeLine; decide), fun r10 hr10 => ?_⟩
    have el := upd_at (o := .lst [.bl (decide (i = 0)), .bl (decide (i = 1)), .bl (decide (i = 2)), .bl (decide (i = 3)), .bl (decide (i = 4)), .bl (decide (i = 5)), .bl (decide (i = 6)), .bl (decide (i = 7)), .bl (decide (i = 8)), .bl (decide (i = 9))]) hr10
    replace k := k.trans (same_new (o := .lst [.bl (decide (i = 0)), .bl (decide (i = 1)), .bl (decide (i = 2)), .bl (decide (i = 3)), .bl (decide (i = 4)), .bl (decide (i = 5)), .bl (decide (i = 6)), .bl (decide (i = 7)), .bl (decide (i = 8)), .bl (decide (i = 9))]) hr10)
    replace ie := ie0.same k
    refine ⟨_, rfl, ?_⟩
    refine ⟨_, rfl, a, _, _, _, _, rfl, T.ex i hi, ie, (fun _ h => h), (T.kits i hi).2.2 10 (by decide), ?_⟩
    refine ⟨_, rfl, a, _, _, _, _, rfl, T.ex i hi, ie, (fun _ h => h), (T.kits i hi).2.2 11 (by decide), ?_⟩
    refine ⟨_, rfl, a, _, _, _, _, rfl, T.ex i hi, ie, (fun _ h => h), (T.kits i hi).2.2 12 (by decide), ?_⟩
    refine ⟨(by show 3 ≤ sizeLine; decide), fun p13 hp13 => ?_⟩
    replace el := same_new (o := .lst [.bl (decide (i = 10)), .bl (decide (i = 11)), .bl (decide (i = 12))]) hp13 _ _ el
    replace k := k.trans (same_new (o := .lst [.bl (decide (i = 10)), .bl (decide (i = 11)), .bl (decide (i = 12))]) hp13)
    refine ⟨_, _, _, _, rfl, rfl, el, upd_same, (by show 13 ≤ sizeLine; decide), fun r13 hr13 => ?_⟩
    have el := upd_at (o := .lst [.bl (decide (i = 0)), .bl (decide (i = 1)), .bl (decide (i = 2)), .bl (decide (i = 3)), .bl (decide (i = 4)), .bl (decide (i = 5)), .bl (decide (i = 6)), .bl (decide (i = 7)), .bl (decide (i = 8)), .bl (decide (i = 9)), .bl (decide (i = 10)), .bl (decide (i = 11)), .bl (decide (i = 12))]) hr13
    replace k := k.trans (same_new (o := .lst [.bl (decide (i = 0)), .bl (decide (i = 1)), .bl (decide (i = 2)), .bl (decide (i = 3)), .bl (decide (i = 4)), .bl (decide (i = 5)), .bl (decide (i = 6)), .bl (decide (i = 7)), .bl (decide (i = 8)), .bl (decide (i = 9)), .bl (decide (i = 10)), .bl (decide (i = 11)), .bl (decide (i = 12))]) hr13)
    replace ie := ie0.same k
    refine ⟨_, rfl, ?_⟩
    refine ⟨_, rfl, a, _, _, _, _, rfl, T.ex i hi, ie, (fun _ h => h), (T.kits i hi).2.2 13 (by decide), ?_⟩
    refine ⟨_, rfl, a, _, _, _, _, rfl, T.ex i hi, ie, (fun _ h => h), (T.kits i hi).2.2 14 (by decide), ?_⟩
    refine ⟨_, rfl, a, _, _, _, _, rfl, T.ex i hi, ie, (fun _ h => h), (T.kits i hi).2.2 15 (by decide), ?_⟩
    refine ⟨_, rfl, a, _, _, _, _, rfl, T.ex i hi, ie, (fun _ h => h), (T.kits i hi).2.2 16 (by decide), ?_⟩
    refine ⟨(by show 4 ≤ sizeLine; decide), fun p17 hp17 => ?_⟩
    replace el := same_new (o := .lst [.bl (decide (i = 13)), .bl (decide (i = 14)), .bl (decide (i = 15)), .bl (decide (i = 16))]) hp17 _ _ el
    replace k := k.trans (same_new (o := .lst [.bl (decide (i = 13)), .bl (decide (i = 14)), .bl (decide (i = 15)), .bl (decide (i = 16))]) hp17)
    refine ⟨_, _, _, _, rfl, rfl, el, upd_same, (by show 17 ≤ sizeLine; decide), fun r17 hr17 => ?_⟩
    have el := upd_at (o := .lst [.bl (decide (i = 0)), .bl (decide (i = 1)), .bl (decide (i = 2)), .bl (decide (i = 3)), .bl (decide (i = 4)), .bl (decide (i = 5)), .bl (decide (i = 6)), .bl (decide (i = 7)), .bl (decide (i = 8)), .bl (decide (i = 9)), .bl (decide (i = 10)), .bl (decide (i = 11)), .bl (decide (i = 12)), .bl (decide (i = 13)), .bl (decide (i = 14)), .bl (decide (i = 15)), .bl (decide (i = 16))]) hr17
    replace k := k.trans (same_new (o := .lst [.bl (decide (i = 0)), .bl (decide (i = 1)), .bl (decide (i = 2)), .bl (decide (i = 3)), .bl (decide (i = 4)), .bl (decide (i = 5)), .bl (decide (i = 6)), .bl (decide (i = 7)), .bl (decide (i = 8)), .bl (decide (i = 9)), .bl (decide (i = 10)), .bl (decide (i = 11)), .bl (decide (i = 12)), .bl (decide (i = 13)), .bl (decide (i = 14)), .bl (decide (i = 15)), .bl (decide (i = 16))]) hr17)
    replace ie := ie0.same k
    refine ⟨_, rfl, ?_⟩
    refine ⟨_, rfl, a, _, _, _, _, rfl, T.ex i hi, ie, (fun _ h => h), (T.kits i hi).2.2 17 (by decide), ?_⟩
    refine ⟨_, rfl, a, _, _, _, _, rfl, T.ex i hi, ie, (fun _ h => h), (T.kits i hi).2.2 18 (by decide), ?_⟩
    refine ⟨_, rfl, a, _, _, _, _, rfl, T.ex i hi, ie, (fun _ h => h), (T.kits i hi).2.2 19 (by decide), ?_⟩
    refine ⟨_, rfl, a, _, _, _, _, rfl, T.ex i hi, ie, (fun _ h => h), (T.kits i hi).2.2 20 (by decide), ?_⟩
    refine ⟨(by show 4 ≤ sizeLine; decide), fun p21 hp21 => ?_⟩
    replace el := same_new (o := .lst [.bl (decide (i = 17)), .bl (decide (i = 18)), .bl (decide (i = 19)), .bl (decide (i = 20))]) hp21 _ _ el
    replace k := k.trans (same_new (o := .lst [.bl (decide (i = 17)), .bl (decide (i = 18)), .bl (decide (i = 19)), .bl (decide (i = 20))]) hp21)
    refine ⟨_, _, _, _, rfl, rfl, el, upd_same, (by show 21 ≤ sizeLine; decide), fun r21 hr21 => ?_⟩
    have el := upd_at (o := .lst [.bl (decide (i = 0)), .bl (decide (i = 1)), .bl (decide (i = 2)), .bl (decide (i = 3)), .bl (decide (i = 4)), .bl (decide (i = 5)), .bl (decide (i = 6)), .bl (decide (i = 7)), .bl (decide (i = 8)), .bl (decide (i = 9)), .bl (decide (i = 10)), .bl (decide (i = 11)), .bl (decide (i = 12)), .bl (decide (i = 13)), .bl (decide (i = 14)), .bl (decide (i = 15)), .bl (decide (i = 16)), .bl (decide (i = 17)), .bl (decide (i = 18)), .bl (decide (i = 19)), .bl (decide (i = 20))]) hr21
    replace k := k.trans (same_new (o := .lst [.bl (decide (i = 0)), .bl (decide (i = 1)), .bl (decide (i = 2)), .bl (decide (i = 3)), .bl (decide (i = 4)), .bl (decide (i = 5)), .bl (decide (i = 6)), .bl (decide (i = 7)), .bl (decide (i = 8)), .bl (decide (i = 9)), .bl (decide (i = 10)), .bl (decide (i = 11)), .bl (decide (i = 12)), .bl (decide (i = 13)), .bl (decide (i = 14)), .bl (decide (i = 15)), .bl (decide (i = 16)), .bl (decide (i = 17)), .bl (decide (i = 18)), .bl (decide (i = 19)), .bl (decide (i = 20))]) hr21)
    replace ie := ie0.same k
    refine ⟨_, rfl, ?_⟩
    refine ⟨_, rfl, a, _, _, _, _, rfl, T.ex i hi, ie, (fun _ h => h), (T.kits i hi).2.2 21 (by decide), ?_⟩
    refine ⟨_, rfl, a, _, _, _, _, rfl, T.ex i hi, ie, (fun _ h => h), (T.kits i hi).2.2 22 (by decide), ?_⟩
    refine ⟨_, rfl, a, _, _, _, _, rfl, T.ex i hi, ie, (fun _ h => h), (T.kits i hi).2.2 23 (by decide), ?_⟩
    refine ⟨(by show 3 ≤ sizeLine; decide), fun p24 hp24 => ?_⟩
    replace el := same_new (o := .lst [.bl (decide (i = 21)), .bl (decide (i = 22)), .bl (decide (i = 23))]) hp24 _ _ el
    replace k := k.trans (same_new (o := .lst [.bl (decide (i = 21)), .bl (decide (i = 22)), .bl (decide (i = 23))]) hp24)
    refine ⟨_, _, _, _, rfl, rfl, el, upd_same, (by show 24 ≤ sizeLine; decide), fun r24 hr24 => ?_⟩
    exact q _ _ (k.trans (same_new hr24)) upd_same
theorem not_of {b : Bool} (h : b = true) : (!b) = false := by rw [h]; rfl
theorem shB : ∀ i, i < 24 → SeqAt.shaped (.list (((List.range 24).map fun j => decide (i = j)).map PyData.bool)) = true := by decide +kernel
theorem lkK {v u : V} : (((["kind", "other"] : List Str).zip [v, u]).reverse).lookup ("kind" : Str) = some v := lk2 (f := "kind") (g := "other") (by decide +kernel)
theorem lkO {v u : V} : (((["kind", "other"] : List Str).zip [v, u]).reverse).lookup ("other" : Str) = some u := lk1
theorem sz24 {n : Nat} (h : n < 24) : n < sizeLine := Nat.lt_trans h (by decide)
def spLaw (K : PySem.W.Frag) : Sp := fun vs H Q _ => ∃ (a : Addr) (ns : List Int), vs = [.ref a] ∧ SqL K H a (ns.map V.int) ∧ ns.length ≤ 63 ∧ ∀ H', Q (.bl true) H'
abbrev sLaw : Stmt := top 33
theorem scLaw : FnScope ["_law_script", "_law_tape_here", "_law_a", "_law_b", "_law_k", "_law_both", "_law_errors", "_law_e", "_law_j"] ["_law_script"] (defScope sLaw) := ⟨rfl, rfl, rfl, by decide +kernel, rfl, by decide +kernel, by decide +kernel⟩
theorem ok_law (T : Txt K mg c) (d__law_tape : DefAt K mg "_law_tape" sTape ["_law_script", "_law_k"]) (d__law_pick : DefAt K mg "_law_pick" sPick ["_law_tape_here", "_law_many"]) (d__law_thing : DefAt K mg "_law_thing" sThing ["_law_tape_here"]) (d__law_told : DefAt K mg "_law_told" sTold ["_law_a"]) (d__law_named : DefAt K mg "_law_named" sNamed ["_law_a"]) (d__law_kinds : DefAt K mg "_law_kinds" sKinds ["_law_e"])
    {f : Addr} {fd : FuncData} (F : Fun K "law" "law" sLaw f fd) : FnOk P w K mg base CX0 6 f fd ["_law_script"] (spLaw K) := by
  have cT : Cal P w K mg base CX0 1 "_law_tape" (spTape K) := cal_of d__law_tape fun f fd F => ok_tape T F
  have cTh : Cal P w K mg base CX0 2 "_law_thing" spThing := cal_of d__law_thing fun f fd F => ok_thing T d__law_pick F
  have cTo : Cal P w K mg base CX0 3 "_law_told" spTold := cal_of d__law_told fun f fd F => ok_told T F
  have cNa : Cal P w K mg base CX0 3 "_law_named" spTold := cal_of d__law_named fun f fd F => ok_named T F
  have cKi : Cal P w K mg base CX0 1 "_law_kinds" (spKinds c) := cal_of d__law_kinds fun f fd F => ok_kinds T F
  refine F.ok scLaw (fun vs H Q E h => ?_) (fun cdv A outer s H vs Q E hr h => ?_)
  · obtain ⟨a, ns, rfl, _⟩ := h
    rfl
  · obtain ⟨a, ns, rfl, hS, hl, q⟩ := h
    refine ⟨_, (pss_cons (ps_set (i := 1) scLaw.nd rfl (Or.inl rfl) (pe_c cT hr (by decide) rfl (pa_cons (pv 0) (pa_cons pe_int pa_nil))))
  (pss_cons (ps_set (i := 2) scLaw.nd rfl (Or.inr rfl) (pe_c cTh hr (by decide) rfl (pa_cons (pv 1) pa_nil)))
  (pss_cons (ps_set (i := 3) scLaw.nd rfl (Or.inl rfl) (pe_c cTh hr (by decide) rfl (pa_cons (pv 1) pa_nil)))
  (pss_cons (ps_if (PW.pt (pw_or (pt_cmpR (op_neD hr.units) (pe_c cTo hr (by decide) rfl (pa_cons (pv 2) pa_nil)) (pe_lc (own := [("_law_k", 4)]) (g := gName 4) (tt := tYes) rfl scLaw.nd (pi_range1 (by rfl) T.z_range (pa_cons pe_int pa_nil)) (blkOk_by (N := ["_law_script", "_law_tape_here", "_law_a", "_law_b", "_law_k", "_law_both", "_law_errors", "_law_e", "_law_j"]) (sc := defScope sLaw) (by decide +kernel)) (fun _ _ _ _ _ => pg_name (i := 4) scLaw.nd rfl (Or.inl rfl)) (fun _ _ _ _ _ => pts_nil) (fun _ _ _ _ _ => (pv 2))) (nomark _)) (pw_or1 (pt_cmpR (op_neD hr.units) (pe_c cNa hr (by decide) rfl (pa_cons (pv 2) pa_nil)) (pe_lc (own := [("_law_k", 4)]) (g := gName 4) (tt := tYes) rfl scLaw.nd (pi_range1 (by rfl) T.z_range (pa_cons pe_int pa_nil)) (blkOk_by (N := ["_law_script", "_law_tape_here", "_law_a", "_law_b", "_law_k", "_law_both", "_law_errors", "_law_e", "_law_j"]) (sc := defScope sLaw) (by decide +kernel)) (fun _ _ _ _ _ => pg_name (i := 4) scLaw.nd rfl (Or.inl rfl)) (fun _ _ _ _ _ => pts_nil) (fun _ _ _ _ _ => (pv 2))) (nomark _))))) (pss_one (ps_ret pe_bl)) pss_nil)
  (pss_cons (ps_set (i := 5) scLaw.nd rfl (Or.inl rfl) (pe_lst (pa_cons (pe_mk2 T.e23 hr (by decide) (pv 2) (pv 3)) (pa_cons (pe_mkK2 T.e23 hr (by decide) (pv 3) (pv 2)) pa_nil))))
  (pss_cons (ps_if (PW.pt (pw_or (pt_cmpR (op_neD hr.units) (pe_lc (own := [("_law_e", 7)]) (g := gName 7) (tt := tYes) rfl scLaw.nd (pi_list (pv 5)) (blkOk_by (N := ["_law_script", "_law_tape_here", "_law_a", "_law_b", "_law_k", "_law_both", "_law_errors", "_law_e", "_law_j"]) (sc := defScope sLaw) (by decide +kernel)) (fun _ _ _ _ _ => pg_name (i := 7) scLaw.nd rfl (Or.inl rfl)) (fun _ _ _ _ _ => pts_nil) (fun _ _ _ _ _ => (pe_xg T.e23.xc.xf T.e23.nf (pv 7)))) (pe_lst (pa_cons (pv 2) (pa_cons (pv 2) pa_nil))) (nomark _)) (pw_or1 (pt_cmpR (op_neD hr.units) (pe_lc (own := [("_law_e", 7)]) (g := gName 7) (tt := tYes) rfl scLaw.nd (pi_list (pv 5)) (blkOk_by (N := ["_law_script", "_law_tape_here", "_law_a", "_law_b", "_law_k", "_law_both", "_law_errors", "_law_e", "_law_j"]) (sc := defScope sLaw) (by decide +kernel)) (fun _ _ _ _ _ => pg_name (i := 7) scLaw.nd rfl (Or.inl rfl)) (fun _ _ _ _ _ => pts_nil) (fun _ _ _ _ _ => (pe_xg T.e23.xc.xf T.e23.ng (pv 7)))) (pe_lst (pa_cons (pv 3) (pa_cons (pv 3) pa_nil))) (nomark _))))) (pss_one (ps_ret pe_bl)) pss_nil)
  (pss_cons (ps_set (i := 6) scLaw.nd rfl (Or.inl rfl) (pe_lst (pa_cons (pe_mk1 T.e0 hr (by decide) (pv 2)) (pa_cons (pe_mk1 T.e1 hr (by decide) (pv 2)) (pa_cons (pe_mk1 T.e2 hr (by decide) (pv 2)) (pa_cons (pe_mk1 T.e3 hr (by decide) (pv 2)) (pa_cons (pe_mk1 T.e4 hr (by decide) (pv 2)) (pa_cons (pe_mk1 T.e5 hr (by decide) (pv 2)) pa_nil))))))))
  (pss_cons (ps_set (i := 6) scLaw.nd rfl (Or.inl rfl) (pe_op op_cat (pv 6) (pe_lst (pa_cons (pe_mk1 T.e6 hr (by decide) (pv 2)) (pa_cons (pe_mk1 T.e7 hr (by decide) (pv 2)) (pa_cons (pe_mk1 T.e8 hr (by decide) (pv 2)) (pa_cons (pe_mk1 T.e9 hr (by decide) (pv 2)) (pa_cons (pe_mk1 T.e10 hr (by decide) (pv 2)) (pa_cons (pe_mk1 T.e11 hr (by decide) (pv 2)) pa_nil)))))))))
  (pss_cons (ps_set (i := 6) scLaw.nd rfl (Or.inl rfl) (pe_op op_cat (pv 6) (pe_lst (pa_cons (pe_mk1 T.e12 hr (by decide) (pv 2)) (pa_cons (pe_mk1 T.e13 hr (by decide) (pv 2)) pa_nil)))))
  (pss_cons (ps_set (i := 6) scLaw.nd rfl (Or.inl rfl) (pe_op op_cat (pv 6) (pe_lst (pa_cons (pe_mk1 T.e14 hr (by decide) (pv 2)) (pa_cons (pe_mk1 T.e15 hr (by decide) (pv 2)) (pa_cons (pe_mk1 T.e16 hr (by decide) (pv 2)) (pa_cons (pe_mk0 T.e17) (pa_cons (pe_mk0 T.e18) (pa_cons (pe_mk0 T.e19) (pa_cons (pe_mk0 T.e20) pa_nil))))))))))
  (pss_cons (ps_set (i := 6) scLaw.nd rfl (Or.inl rfl) (pe_op op_cat (pv 6) (pe_lst (pa_cons (pe_mk0 T.e21) (pa_cons (pe_mk0 T.e22) (pa_cons (pe_mk2 T.e23 hr (by decide) (pv 2) (pv 3)) pa_nil))))))
  (pss_cons (ps_for PassesOwn.never rfl (pi_range1 (by rfl) T.z_range (pa_cons (pe_callB call_len_seq (by rfl) T.z_len (by decide +kernel) (pa_cons (pv 6) pa_nil)) pa_nil)) (pg_name (i := 4) scLaw.nd rfl (Or.inr rfl))
  (pss_cons (ps_if (PW.pt (pw_or (pt_not (pt_val (pe_callB call_isV (by rfl) T.z_isinstance (by decide +kernel) (pa_cons (pe_ix ix_list (pv 6) (pv 4) (fun _ _ => rfl)) (pa_cons (pe_glob (v := .ref (c 24)) rfl T.gP rfl) pa_nil))))) (pw_or1 (pt_not (pt_val (pe_callB call_isV (by rfl) T.z_isinstance (by decide +kernel) (pa_cons (pe_ix ix_list (pv 6) (pv 4) (fun _ _ => rfl)) (pa_cons (pe_bltn (v := .ty "ValueError") (by rfl) T.z_ValueError (by decide +kernel) rfl) pa_nil)))))))) (pss_one (ps_ret pe_bl)) pss_nil)
  (pss_one (ps_if (pt_cmpR (op_neD hr.units) (pe_c cKi hr (by decide) rfl (pa_cons (pe_ix ix_list (pv 6) (pv 4) (fun _ _ => rfl)) pa_nil)) (pe_lc (own := [("_law_j", 8)]) (g := gName 8) (tt := tYes) rfl scLaw.nd (pi_range1 (by rfl) T.z_range (pa_cons (pe_callB call_len_seq (by rfl) T.z_len (by decide +kernel) (pa_cons (pv 6) pa_nil)) pa_nil)) (blkOk_by (N := ["_law_script", "_law_tape_here", "_law_a", "_law_b", "_law_k", "_law_both", "_law_errors", "_law_e", "_law_j"]) (sc := defScope sLaw) (by decide +kernel)) (fun _ _ _ _ _ => pg_name (i := 8) scLaw.nd rfl (Or.inl rfl)) (fun _ _ _ _ _ => pts_nil) (fun _ _ _ _ _ => (pe_cmpR op_eq (pv 4) (pv 8) (nomark _)))) (nomark _)) (pss_one (ps_ret pe_bl)) pss_nil))))
  (pss_one (ps_ret pe_bl)))))))))))))), ?_⟩
    refine ⟨_, rfl, a, ns, 0, rfl, hS, by decide, by decide, fun tp A B htp tok => ?_⟩
    have ta : TapeAt (upd H tp (tapeO A B)) tp := ⟨A, B, upd_same, tok⟩
    refine ⟨_, rfl, tp, rfl, ta, fun v d H1 hd th k1 => ?_⟩
    refine ⟨_, rfl, tp, rfl, k1.2, fun u e H2 he th2 k2 => ?_⟩
    replace th := th.kp k2
    refine ⟨_, rfl, v, rfl, fun p1 H3 s3 e3 => ?_⟩
    replace th := th.same s3; replace th2 := th2.same s3
    refine ⟨17, rfl, by decide, by decide, fun D1 hD1 => lc_range (lo := 0) (n := 17) (fun i H' => H' = upd H3 D1 (.lst (List.replicate i v))) rfl (fun i H' hi z => ?_) (fun H' z => ?_)⟩
    · subst z
      refine ⟨rfl, _, rfl, _, upd_same, ?_, ?_⟩
      · rw [List.length_replicate]
        exact sz24 (by omega)
      · rw [upd_upd, List.replicate_succ']
    subst z
    replace th := th.same (same_new (o := .lst (List.replicate 17 v)) hD1); replace th2 := th2.same (same_new (o := .lst (List.replicate 17 v)) hD1)
    refine ⟨.list (List.replicate 17 d), .list (List.replicate 17 d), .lst (SqL.of (same_new hD1 _ _ e3)) (dp_rep (th.dp K) 17), .lst (SqL.of upd_same) (dp_rep (th.dp K) 17), (hd.sh 17 (by decide)).1, (hd.sh 17 (by decide)).1, _, rfl, if_false_of (not_of (hd.sh 17 (by decide)).2) ?_⟩
    clear s3 e3
    refine ⟨_, rfl, v, rfl, fun p2 H4 s4 e4 => ?_⟩
    replace th := th.same s4; replace th2 := th2.same s4
    refine ⟨17, rfl, by decide, by decide, fun D2 hD2 => lc_range (lo := 0) (n := 17) (fun i H' => H' = upd H4 D2 (.lst (List.replicate i v))) rfl (fun i H' hi z => ?_) (fun H' z => ?_)⟩
    · subst z
      refine ⟨rfl, _, rfl, _, upd_same, ?_, ?_⟩
      · rw [List.length_replicate]
        exact sz24 (by omega)
      · rw [upd_upd, List.replicate_succ']
    subst z
    replace th := th.same (same_new (o := .lst (List.replicate 17 v)) hD2); replace th2 := th2.same (same_new (o := .lst (List.replicate 17 v)) hD2)
    refine ⟨.list (List.replicate 17 d), .list (List.replicate 17 d), .lst (SqL.of (same_new hD2 _ _ e4)) (dp_rep (th.dp K) 17), .lst (SqL.of upd_same) (dp_rep (th.dp K) 17), (hd.sh 17 (by decide)).1, (hd.sh 17 (by decide)).1, _, rfl, if_false_of (not_of (hd.sh 17 (by decide)).2) ?_⟩
    clear s4 e4
    -- the two errors of two fields
    refine ⟨_, rfl, _, rfl, rfl, fun x d1 H5 s5 ex ed => ?_⟩
    replace th := th.same s5; replace th2 := th2.same s5
    refine ⟨_, rfl, _, rfl, rfl, fun y d2 H6 s6 ey ed2 => ?_⟩
    replace th := th.same s6; replace th2 := th2.same s6; replace ex := s6 _ _ ex; replace ed := s6 _ _ ed
    refine ⟨(by show 2 ≤ sizeLine; decide), fun pb hpb => ?_⟩
    have s7 := same_new (o := .lst [.ref x, .ref y]) hpb
    replace th := th.same s7; replace th2 := th2.same s7; replace ex := s7 _ _ ex; replace ed := s7 _ _ ed; replace ey := s7 _ _ ey; replace ed2 := s7 _ _ ed2
    have eb := upd_at (o := .lst [.ref x, .ref y]) hpb
    clear s5 s6 s7
    refine ⟨_, rfl, pb, rfl, ⟨_, SqL.of eb⟩, fun D3 hD3 => lc_list (a := pb) (xs := [.ref x, .ref y]) (fun i H' => H' = upd (upd H6 pb (.lst [.ref x, .ref y])) D3 (.lst (List.replicate i v))) rfl (fun i H' hi z => ?_) (fun i y' H' hy z => ?_) (fun H' z => ?_)⟩
    · subst z
      exact SqL.of (same_new hD3 _ _ eb)
    · subst z
      rcases i with _ | _ | i
      · cases hy
        refine ⟨rfl, _, rfl, x, d1, _, v, rfl, same_new hD3 _ _ ex, same_new hD3 _ _ ed, lkK, _, upd_same, sz24 (by show 0 < 24; decide), ?_⟩
        rw [upd_upd]
        rfl
      · cases hy
        refine ⟨rfl, _, rfl, y, d2, _, v, rfl, same_new hD3 _ _ ey, same_new hD3 _ _ ed2, lkK, _, upd_same, sz24 (by show 1 < 24; decide), ?_⟩
        rw [upd_upd]
        rfl
      · cases hy
    subst z
    have s8 := same_new (o := .lst (List.replicate 2 v)) hD3
    replace th := th.same s8; replace th2 := th2.same s8; replace ex := s8 _ _ ex; replace ed := s8 _ _ ed; replace ey := s8 _ _ ey; replace ed2 := s8 _ _ ed2; replace eb := s8 _ _ eb
    have e3 := upd_at (o := .lst (List.replicate 2 v)) hD3
    refine ⟨_, rfl, _, rfl, (by show 2 ≤ sizeLine; decide), fun l1 hl1 => ?_⟩
    have s9 := same_new (o := .lst (List.replicate 2 v)) hl1
    replace th := th.same s9; replace th2 := th2.same s9; replace ex := s9 _ _ ex; replace ed := s9 _ _ ed; replace ey := s9 _ _ ey; replace ed2 := s9 _ _ ed2; replace eb := s9 _ _ eb; replace e3 := s9 _ _ e3
    refine ⟨.list (List.replicate 2 d), .list (List.replicate 2 d), .lst (SqL.of e3) (dp_rep (th.dp K) 2), .lst (SqL.of (upd_at (o := .lst (List.replicate 2 v)) hl1)) (dp_rep (th.dp K) 2), (hd.sh 2 (by decide)).1, (hd.sh 2 (by decide)).1, _, rfl, if_false_of (not_of (hd.sh 2 (by decide)).2) ?_⟩
    clear s8 s9 e3
    refine ⟨_, rfl, pb, rfl, ⟨_, SqL.of eb⟩, fun D4 hD4 => lc_list (a := pb) (xs := [.ref x, .ref y]) (fun i H' => H' = upd (upd (upd (upd H6 pb (.lst [.ref x, .ref y])) D3 (.lst (List.replicate 2 v))) l1 (.lst (List.replicate 2 v))) D4 (.lst (List.replicate i u))) rfl (fun i H' hi z => ?_) (fun i y' H' hy z => ?_) (fun H' z => ?_)⟩
    · subst z
      exact SqL.of (same_new hD4 _ _ eb)
    · subst z
      rcases i with _ | _ | i
      · cases hy
        refine ⟨rfl, _, rfl, x, d1, _, u, rfl, same_new hD4 _ _ ex, same_new hD4 _ _ ed, lkO, _, upd_same, sz24 (by show 0 < 24; decide), ?_⟩
        rw [upd_upd]
        rfl
      · cases hy
        refine ⟨rfl, _, rfl, y, d2, _, u, rfl, same_new hD4 _ _ ey, same_new hD4 _ _ ed2, lkO, _, upd_same, sz24 (by show 1 < 24; decide), ?_⟩
        rw [upd_upd]
        rfl
      · cases hy
    subst z
    have s8 := same_new (o := .lst (List.replicate 2 u)) hD4
    replace th := th.same s8; replace th2 := th2.same s8
    have e3 := upd_at (o := .lst (List.replicate 2 u)) hD4
    refine ⟨_, rfl, _, rfl, (by show 2 ≤ sizeLine; decide), fun l2 hl2 => ?_⟩
    have s9 := same_new (o := .lst (List.replicate 2 u)) hl2
    replace th2 := th2.same s9; replace e3 := s9 _ _ e3
    refine ⟨.list (List.replicate 2 e), .list (List.replicate 2 e), .lst (SqL.of e3) (dp_rep (th2.dp K) 2), .lst (SqL.of (upd_at (o := .lst (List.replicate 2 u)) hl2)) (dp_rep (th2.dp K) 2), (he.sh 2 (by decide)).1, (he.sh 2 (by decide)).1, _, rfl, if_false_of (not_of (he.sh 2 (by decide)).2) ?_⟩
    clear s8 s9 e3 ex ed ey ed2 eb
    have E : ∀ G : Hp, El G c 0 [] := fun G => ⟨rfl, fun k hk => absurd hk (Nat.not_lt_zero k)⟩
    replace E := E (upd (upd (upd (upd (upd (upd H6 pb (.lst [.ref x, .ref y])) D3 (.lst (List.replicate 2 v))) l1 (.lst (List.replicate 2 v))) D4 (.lst (List.replicate 2 u))) l2 (.lst (List.replicate 2 u))) l2 (.lst (List.replicate 2 u)))
    rw [upd_upd] at E
    refine ⟨_, rfl, rfl, fun x0 d Hn s ea ed => ?_⟩; have ie : IsE Hn x0 (c 0) := isE_some ea ed; replace E := ((E.same s).snoc ie).cast (m := 1) (ys := [.ref x0]) rfl rfl; clear ie ea ed s
    refine ⟨_, rfl, rfl, fun x1 d Hn s ea ed => ?_⟩; have ie : IsE Hn x1 (c 1) := isE_some ea ed; replace E := ((E.same s).snoc ie).cast (m := 2) (ys := [.ref x0, .ref x1]) rfl rfl; clear ie ea ed s
    refine ⟨_, rfl, rfl, fun x2 d Hn s ea ed => ?_⟩; have ie : IsE Hn x2 (c 2) := isE_some ea ed; replace E := ((E.same s).snoc ie).cast (m := 3) (ys := [.ref x0, .ref x1, .ref x2]) rfl rfl; clear ie ea ed s
    refine ⟨_, rfl, rfl, fun x3 d Hn s ea ed => ?_⟩; have ie : IsE Hn x3 (c 3) := isE_some ea ed; replace E := ((E.same s).snoc ie).cast (m := 4) (ys := [.ref x0, .ref x1, .ref x2, .ref x3]) rfl rfl; clear ie ea ed s
    refine ⟨_, rfl, rfl, fun x4 d Hn s ea ed => ?_⟩; have ie : IsE Hn x4 (c 4) := isE_some ea ed; replace E := ((E.same s).snoc ie).cast (m := 5) (ys := [.ref x0, .ref x1, .ref x2, .ref x3, .ref x4]) rfl rfl; clear ie ea ed s
    refine ⟨_, rfl, rfl, fun x5 d Hn s ea ed => ?_⟩; have ie : IsE Hn x5 (c 5) := isE_some ea ed; replace E := ((E.same s).snoc ie).cast (m := 6) (ys := [.ref x0, .ref x1, .ref x2, .ref x3, .ref x4, .ref x5]) rfl rfl; clear ie ea ed s
    refine ⟨(by show 6 ≤ sizeLine; decide), fun p6 hp6 => ?_⟩
    replace E := E.same (same_new (o := .lst [.ref x0, .ref x1, .ref x2, .ref x3, .ref x4, .ref x5]) hp6)
    have el := upd_at (o := .lst [.ref x0, .ref x1, .ref x2, .ref x3, .ref x4, .ref x5]) hp6; clear hp6
    refine ⟨_, rfl, ?_⟩
    refine ⟨_, rfl, rfl, fun x6 d Hn s ea ed => ?_⟩; have ie : IsE Hn x6 (c 6) := isE_some ea ed; replace E := ((E.same s).snoc ie).cast (m := 7) (ys := [.ref x0, .ref x1, .ref x2, .ref x3, .ref x4, .ref x5, .ref x6]) rfl rfl; replace el := s _ _ el; clear ie ea ed s
    refine ⟨_, rfl, rfl, fun x7 d Hn s ea ed => ?_⟩; have ie : IsE Hn x7 (c 7) := isE_some ea ed; replace E := ((E.same s).snoc ie).cast (m := 8) (ys := [.ref x0, .ref x1, .ref x2, .ref x3, .ref x4, .ref x5, .ref x6, .ref x7]) rfl rfl; replace el := s _ _ el; clear ie ea ed s
    refine ⟨_, rfl, rfl, fun x8 d Hn s ea ed => ?_⟩; have ie : IsE Hn x8 (c 8) := isE_some ea ed; replace E := ((E.same s).snoc ie).cast (m := 9) (ys := [.ref x0, .ref x1, .ref x2, .ref x3, .ref x4, .ref x5, .ref x6, .ref x7, .ref x8]) rfl rfl; replace el := s _ _ el; clear ie ea ed s
    refine ⟨_, rfl, rfl, fun x9 d Hn s ea ed => ?_⟩; have ie : IsE Hn x9 (c 9) := isE_some ea ed; replace E := ((E.same s).snoc ie).cast (m := 10) (ys := [.ref x0, .ref x1, .ref x2, .ref x3, .ref x4, .ref x5, .ref x6, .ref x7, .ref x8, .ref x9]) rfl rfl; replace el := s _ _ el; clear ie ea ed s
    refine ⟨_, rfl, rfl, fun x10 d Hn s ea ed => ?_⟩; have ie : IsE Hn x10 (c 10) := isE_some ea ed; replace E := ((E.same s).snoc ie).cast (m := 11) (ys := [.ref x0, .ref x1, .ref x2, .ref x3, .ref x4, .ref x5, .ref x6, .ref x7, .ref x8, .ref x9, .ref x10]) rfl rfl; replace el := s _ _ el; clear ie ea ed s
    refine ⟨_, rfl, rfl, fun x11 d Hn s ea ed => ?_⟩; have ie : IsE Hn x11 (c 11) := isE_some ea ed; replace E := ((E.same s).snoc ie).cast (m := 12) (ys := [.ref x0, .ref x1, .ref x2, .ref x3, .ref x4, .ref x5, .ref x6, .ref x7, .ref x8, .ref x9, .ref x10, .ref x11]) rfl rfl; replace el := s _ _ el; clear ie ea ed s
    refine ⟨(by show 6 ≤ sizeLine; decide), fun p12 hp12 => ?_⟩
    replace E := E.same (same_new (o := .lst [.ref x6, .ref x7, .ref x8, .ref x9, .ref x10, .ref x11]) hp12)
    replace el := same_new (o := .lst [.ref x6, .ref x7, .ref x8, .ref x9, .ref x10, .ref x11]) hp12 _ _ el
    refine ⟨_, _, _, _, rfl, rfl, el, upd_same, (by show 12 ≤ sizeLine; decide), fun r12 hr12 => ?_⟩
    replace E := E.same (same_new (o := .lst [.ref x0, .ref x1, .ref x2, .ref x3, .ref x4, .ref x5, .ref x6, .ref x7, .ref x8, .ref x9, .ref x10, .ref x11]) hr12)
    clear el; have el := upd_at (o := .lst [.ref x0, .ref x1, .ref x2, .ref x3, .ref x4, .ref x5, .ref x6, .ref x7, .ref x8, .ref x9, .ref x10, .ref x11]) hr12; clear hr12 hp12
    refine ⟨_, rfl, ?_⟩
    refine ⟨_, rfl, rfl, fun x12 d Hn s ea ed => ?_⟩; have ie : IsE Hn x12 (c 12) := isE_some ea ed; replace E := ((E.same s).snoc ie).cast (m := 13) (ys := [.ref x0, .ref x1, .ref x2, .ref x3, .ref x4, .ref x5, .ref x6, .ref x7, .ref x8, .ref x9, .ref x10, .ref x11, .ref x12]) rfl rfl; replace el := s _ _ el; clear ie ea ed s
    refine ⟨_, rfl, rfl, fun x13 d Hn s ea ed => ?_⟩; have ie : IsE Hn x13 (c 13) := isE_some ea ed; replace E := ((E.same s).snoc ie).cast (m := 14) (ys := [.ref x0, .ref x1, .ref x2, .ref x3, .ref x4, .ref x5, .ref x6, .ref x7, .ref x8, .ref x9, .ref x10, .ref x11, .ref x12, .ref x13]) rfl rfl; replace el := s _ _ el; clear ie ea ed s
    refine ⟨(by show 2 ≤ sizeLine; decide), fun p14 hp14 => ?_⟩
    replace E := E.same (same_new (o := .lst [.ref x12, .ref x13]) hp14)
    replace el := same_new (o := .lst [.ref x12, .ref x13]) hp14 _ _ el
    refine ⟨_, _, _, _, rfl, rfl, el, upd_same, (by show 14 ≤ sizeLine; decide), fun r14 hr14 => ?_⟩
    replace E := E.same (same_new (o := .lst [.ref x0, .ref x1, .ref x2, .ref x3, .ref x4, .ref x5, .ref x6, .ref x7, .ref x8, .ref x9, .ref x10, .ref x11, .ref x12, .ref x13]) hr14)
    clear el; have el := upd_at (o := .lst [.ref x0, .ref x1, .ref x2, .ref x3, .ref x4, .ref x5, .ref x6, .ref x7, .ref x8, .ref x9, .ref x10, .ref x11, .ref x12, .ref x13]) hr14; clear hr14 hp14
    refine ⟨_, rfl, ?_⟩
    refine ⟨_, rfl, rfl, fun x14 d Hn s ea ed => ?_⟩; have ie : IsE Hn x14 (c 14) := isE_some ea ed; replace E := ((E.same s).snoc ie).cast (m := 15) (ys := [.ref x0, .ref x1, .ref x2, .ref x3, .ref x4, .ref x5, .ref x6, .ref x7, .ref x8, .ref x9, .ref x10, .ref x11, .ref x12, .ref x13, .ref x14]) rfl rfl; replace el := s _ _ el; clear ie ea ed s
    refine ⟨_, rfl, rfl, fun x15 d Hn s ea ed => ?_⟩; have ie : IsE Hn x15 (c 15) := isE_some ea ed; replace E := ((E.same s).snoc ie).cast (m := 16) (ys := [.ref x0, .ref x1, .ref x2, .ref x3, .ref x4, .ref x5, .ref x6, .ref x7, .ref x8, .ref x9, .ref x10, .ref x11, .ref x12, .ref x13, .ref x14, .ref x15]) rfl rfl; replace el := s _ _ el; clear ie ea ed s
    refine ⟨_, rfl, rfl, fun x16 d Hn s ea ed => ?_⟩; have ie : IsE Hn x16 (c 16) := isE_some ea ed; replace E := ((E.same s).snoc ie).cast (m := 17) (ys := [.ref x0, .ref x1, .ref x2, .ref x3, .ref x4, .ref x5, .ref x6, .ref x7, .ref x8, .ref x9, .ref x10, .ref x11, .ref x12, .ref x13, .ref x14, .ref x15, .ref x16]) rfl rfl; replace el := s _ _ el; clear ie ea ed s
    refine fun x17 hx => ?_; have s := same_new (o := exo x17 (c 17) none) hx; have ie := isE_none (upd_at (o := exo x17 (c 17) none) hx); replace E := ((E.same s).snoc ie).cast (m := 18) (ys := [.ref x0, .ref x1, .ref x2, .ref x3, .ref x4, .ref x5, .ref x6, .ref x7, .ref x8, .ref x9, .ref x10, .ref x11, .ref x12, .ref x13, .ref x14, .ref x15, .ref x16, .ref x17]) rfl rfl; replace el := s _ _ el; clear ie s hx
    refine fun x18 hx => ?_; have s := same_new (o := exo x18 (c 18) none) hx; have ie := isE_none (upd_at (o := exo x18 (c 18) none) hx); replace E := ((E.same s).snoc ie).cast (m := 19) (ys := [.ref x0, .ref x1, .ref x2, .ref x3, .ref x4, .ref x5, .ref x6, .ref x7, .ref x8, .ref x9, .ref x10, .ref x11, .ref x12, .ref x13, .ref x14, .ref x15, .ref x16, .ref x17, .ref x18]) rfl rfl; replace el := s _ _ el; clear ie s hx
    refine fun x19 hx => ?_; have s := same_new (o := exo x19 (c 19) none) hx; have ie := isE_none (upd_at (o := exo x19 (c 19) none) hx); replace E := ((E.same s).snoc ie).cast (m := 20) (ys := [.ref x0, .ref x1, .ref x2, .ref x3, .ref x4, .ref x5, .ref x6, .ref x7, .ref x8, .ref x9, .ref x10, .ref x11, .ref x12, .ref x13, .ref x14, .ref x15, .ref x16, .ref x17, .ref x18, .ref x19]) rfl rfl; replace el := s _ _ el; clear ie s hx
    refine fun x20 hx => ?_; have s := same_new (o := exo x20 (c 20) none) hx; have ie := isE_none (upd_at (o := exo x20 (c 20) none) hx); replace E := ((E.same s).snoc ie).cast (m := 21) (ys := [.ref x0, .ref x1, .ref x2, .ref x3, .ref x4, .ref x5, .ref x6, .ref x7, .ref x8, .ref x9, .ref x10, .ref x11, .ref x12, .ref x13, .ref x14, .ref x15, .ref x16, .ref x17, .ref x18, .ref x19, .ref x20]) rfl rfl; replace el := s _ _ el; clear ie s hx
    refine ⟨(by show 7 ≤ sizeLine; decide), fun p21 hp21 => ?_⟩
    replace E := E.same (same_new (o := .lst [.ref x14, .ref x15, .ref x16, .ref x17, .ref x18, .ref x19, .ref x20]) hp21)
    replace el := same_new (o := .lst [.ref x14, .ref x15, .ref x16, .ref x17, .ref x18, .ref x19, .ref x20]) hp21 _ _ el
    refine ⟨_, _, _, _, rfl, rfl, el, upd_same, (by show 21 ≤ sizeLine; decide), fun r21 hr21 => ?_⟩
    replace E := E.same (same_new (o := .lst [.ref x0, .ref x1, .ref x2, .ref x3, .ref x4, .ref x5, .ref x6, .ref x7, .ref x8, .ref x9, .ref x10, .ref x11, .ref x12, .ref x13, .ref x14, .ref x15, .ref x16, .ref x17, .ref x18, .ref x19, .ref x20]) hr21)
    clear el; have el := upd_at (o := .lst [.ref x0, .ref x1, .ref x2, .ref x3, .ref x4, .ref x5, .ref x6, .ref x7, .ref x8, .ref x9, .ref x10, .ref x11, .ref x12, .ref x13, .ref x14, .ref x15, .ref x16, .ref x17, .ref x18, .ref x19, .ref x20]) hr21; clear hr21 hp21
    refine ⟨_, rfl, ?_⟩
    refine fun x21 hx => ?_; have s := same_new (o := exo x21 (c 21) none) hx; have ie := isE_none (upd_at (o := exo x21 (c 21) none) hx); replace E := ((E.same s).snoc ie).cast (m := 22) (ys := [.ref x0, .ref x1, .ref x2, .ref x3, .ref x4, .ref x5, .ref x6, .ref x7, .ref x8, .ref x9, .ref x10, .ref x11, .ref x12, .ref x13, .ref x14, .ref x15, .ref x16, .ref x17, .ref x18, .ref x19, .ref x20, .ref x21]) rfl rfl; replace el := s _ _ el; clear ie s hx
    refine fun x22 hx => ?_; have s := same_new (o := exo x22 (c 22) none) hx; have ie := isE_none (upd_at (o := exo x22 (c 22) none) hx); replace E := ((E.same s).snoc ie).cast (m := 23) (ys := [.ref x0, .ref x1, .ref x2, .ref x3, .ref x4, .ref x5, .ref x6, .ref x7, .ref x8, .ref x9, .ref x10, .ref x11, .ref x12, .ref x13, .ref x14, .ref x15, .ref x16, .ref x17, .ref x18, .ref x19, .ref x20, .ref x21, .ref x22]) rfl rfl; replace el := s _ _ el; clear ie s hx
    refine ⟨_, rfl, _, rfl, rfl, fun x23 d Hn s ea ed => ?_⟩; have ie : IsE Hn x23 (c 23) := isE_some ea ed; replace E := ((E.same s).snoc ie).cast (m := 24) (ys := [.ref x0, .ref x1, .ref x2, .ref x3, .ref x4, .ref x5, .ref x6, .ref x7, .ref x8, .ref x9, .ref x10, .ref x11, .ref x12, .ref x13, .ref x14, .ref x15, .ref x16, .ref x17, .ref x18, .ref x19, .ref x20, .ref x21, .ref x22, .ref x23]) rfl rfl; replace el := s _ _ el; clear ie ea ed s
    refine ⟨(by show 3 ≤ sizeLine; decide), fun p24 hp24 => ?_⟩
    replace E := E.same (same_new (o := .lst [.ref x21, .ref x22, .ref x23]) hp24)
    replace el := same_new (o := .lst [.ref x21, .ref x22, .ref x23]) hp24 _ _ el
    refine ⟨_, _, _, _, rfl, rfl, el, upd_same, (by show 24 ≤ sizeLine; decide), fun r24 hr24 => ?_⟩
    replace E := E.same (same_new (o := .lst [.ref x0, .ref x1, .ref x2, .ref x3, .ref x4, .ref x5, .ref x6, .ref x7, .ref x8, .ref x9, .ref x10, .ref x11, .ref x12, .ref x13, .ref x14, .ref x15, .ref x16, .ref x17, .ref x18, .ref x19, .ref x20, .ref x21, .ref x22, .ref x23]) hr24)
    clear el; have el := upd_at (o := .lst [.ref x0, .ref x1, .ref x2, .ref x3, .ref x4, .ref x5, .ref x6, .ref x7, .ref x8, .ref x9, .ref x10, .ref x11, .ref x12, .ref x13, .ref x14, .ref x15, .ref x16, .ref x17, .ref x18, .ref x19, .ref x20, .ref x21, .ref x22, .ref x23]) hr24; clear hr24 hp24
    refine ⟨_, rfl, _, _, rfl, .inl (SqL.of el), ((24 : Nat) : Int), rfl, by decide, by decide, ?_⟩
    refine for_range (lo := 0) (n := 24) (fun i σ' H' => ∃ (v4 : Option V) (xs : List V), σ' = [some (.ref a), some (.ref tp), some v, some u, v4, some (.ref pb), some (.ref r24), none, none] ∧ H' r24 = some (.lst xs) ∧ El H' c 24 xs) ⟨_, _, rfl, el, E⟩ (fun i σ' H' hi hP => ?_) (fun σ' H' hP => q _)
    obtain ⟨v4, xs, rfl, hx, E⟩ := hP
    obtain ⟨r, er, ie⟩ := E.2 i hi
    have at0 : atI xs (0 + (i : Int)) = some (.ref r) := at_of (j := i) (by omega) er
    refine ⟨_, rfl, _, rfl, _, _, _, _, rfl, rfl, SqL.of hx, at0, r, _, _, _, _, rfl, T.ex i hi, ie, (fun _ h => h), (T.kits i hi).1, _, rfl, if_false_of rfl ?_⟩
    refine ⟨_, rfl, _, rfl, _, _, _, _, rfl, rfl, SqL.of hx, at0, r, _, _, _, _, rfl, T.ex i hi, ie, (fun _ h => h), (T.kits i hi).2.1, _, rfl, if_false_of rfl ?_⟩
    refine ⟨_, rfl, _, rfl, _, _, _, _, rfl, rfl, SqL.of hx, at0, r, i, rfl, hi, ie, fun pk H7 s7 ek => ?_⟩
    replace hx := s7 _ _ hx; replace E := E.same s7
    refine ⟨_, rfl, _, _, rfl, .inl (SqL.of hx), ((24 : Nat) : Int), congrArg (fun n : Nat => [V.int (n : Int)]) E.1, by decide, by decide, fun D5 hD5 => lc_range (lo := 0) (n := 24) (fun j H' => H' = upd H7 D5 (.lst (((List.range j).map fun t => decide (i = t)).map V.bl))) rfl (fun j H' hj z => ?_) (fun H' z => ?_)⟩
    · subst z
      refine ⟨rfl, _, rfl, _, rfl, rfl, _, upd_same, ?_, ?_⟩
      · rw [List.length_map, List.length_map, List.length_range]
        exact sz24 hj
      · have z : decide (V.int (0 + (i : Int)) = V.int (0 + (j : Int))) = decide (i = j) := decide_eq_decide.mpr ⟨fun h => by have := V.int.inj h; omega, fun h => by rw [h]⟩
        rw [upd_upd, List.range_succ, List.map_append, List.map_append, z]
        rfl
    subst z
    refine ⟨.list (((List.range 24).map fun j => decide (i = j)).map PyData.bool), .list (((List.range 24).map fun j => decide (i = j)).map PyData.bool), .lst (SqL.of (same_new hD5 _ _ ek)) (dp_bls _), .lst (SqL.of upd_same) (dp_bls _), shB i hi, shB i hi, _, rfl, if_false_of (not_of (SeqAt.eqv_refl _ (SeqAt.canLay_of_shaped (shB i hi)))) ?_⟩
    exact ⟨_, xs, rfl, same_new hD5 _ _ hx, E.same (same_new hD5)⟩
end
theorem all_mk {l : PySem.W.OpenLaw} {w : World} {K : PySem.W.Frag} {h : Heap} {mg : Str → Option Value} {fa f1 : Addr} (X : K.In h) (G : h.Ns mainGlobals mg) (hfa : mg "law" = some (.ref fa))
    {od an : Option Addr} {sl : Array (Option Value)} {oc kV dc pm cd ct : Value} {c : Cs}
    (T : Txt K mg c)
    (d__law_tape : DefAt K mg "_law_tape" sTape ["_law_script", "_law_k"])
    (d__law_pick : DefAt K mg "_law_pick" sPick ["_law_tape_here", "_law_many"])
    (d__law_thing : DefAt K mg "_law_thing" sThing ["_law_tape_here"])
    (d__law_told : DefAt K mg "_law_told" sTold ["_law_a"])
    (d__law_named : DefAt K mg "_law_named" sNamed ["_law_a"])
    (d__law_kinds : DefAt K mg "_law_kinds" sKinds ["_law_e"])
    (a4 : PySem.W.nsIn K mainGlobals "law" = some (some (.ref f1))) (l4 : K.lookup f1 = some ⟨oc, od, .func (PySem.W.fnOf "law" "law" (defArgs sLaw) (defBody sLaw) (defScope sLaw) .none kV dc pm an cd ct), sl⟩) (c4 : PySem.W.codeIn K cd "law" = true) (k4 : PySem.W.keepIn K (.ref f1) = true) :
    ∃ fd : FuncData, (∀ (s : Shared) (v : Value), BindsTo s fd ⟨[v], []⟩ [("_law_script", v)]) ∧ ∀ base : Heap, K.In base → base.Ns mainGlobals mg → FnOk l.prog w K mg base CX0 6 fa fd ["_law_script"] (spLaw K) := by
  have e := hfa.symm.trans (PySem.W.mg_of X G a4)
  cases e
  exact ⟨PySem.W.fnOf "law" "law" (defArgs sLaw) (defBody sLaw) (defScope sLaw) .none kV dc pm an cd ct, fun s v => .of_eq rfl, fun base _ _ => ok_law T d__law_tape d__law_pick d__law_thing d__law_told d__law_named d__law_kinds (fun_mk (st := sLaw) l4 c4 k4)⟩
theorem walk_law {l : PySem.W.OpenLaw} {q : Program} {loose : List Str} {XP : (Str → Option Value) → Heap → Prop} {YP : World → Heap → Prop} {d : DefRec} {K : Params → PySem.W.Frag} (hn : l.most = some 63) (hdf : d.params.defaults = [])
    (hY : ∀ (w : World) (h : Heap), YP w h → (K w.params).In h)
    (F : ∀ (w : World) (mg : Str → Option Value) (fa : Addr) (h : Heap), (K w.params).In h → h.Ns mainGlobals mg → mg d.name = some (.ref fa) →
      ∃ fd : FuncData, (∀ (s : Shared) (u : Value), BindsTo s fd ⟨[u], []⟩ [("_law_script", u)]) ∧ ∀ base : Heap, (K w.params).In base → base.Ns mainGlobals mg → FnOk l.prog w (K w.params) mg base CX0 6 fa fd ["_law_script"] (spLaw (K w.params))) :
    PySem.W.WalkO q loose XP YP l.row.toRowW d [] (fun f vs => PySem.call f vs) :=
  L2.walk_of (n := 63) (k := 6) (x := "_law_script") (CX := fun _ => CX0) (sp := fun w => spLaw (K w.params)) hn (by decide) hdf ⟨rfl, by decide, by decide⟩ hY F (fun _ _ a ns hl _ hS => ⟨a, ns, rfl, hS, hl, fun _ => rfl⟩) fun _ _ _ _ _ z => z
end Pt

open PySem PySem.W PyProof.Rows in
set_option maxRecDepth 100000 in
set_option maxHeartbeats 0 in
theorem PySem.Challenge.cw_partlabels_k11_errors_holds : PySem.Challenge.rw_partlabels_k11_errors.Holds := by
  w_on; o_law; k_head; (case hw => w_witness2)
  k_fill
  refine Pt.walk_law (l := PySem.Challenge.rw_partlabels_k11_errors) rfl rfl (fun w h Y => PySem.W.kIn_of Y) ?F
  case F =>
    intro w mg fa h KX G hmg
    refine' Pt.all_mk KX G hmg (Pt.txt_of KX G ?z_ValueError ?z_abs ?z_int ?z_isinstance ?z_len ?z_range
      (Pt.e1_of (x := "BadLine") (f := "line") (qn := "BadLine.__init__") (st := Pt.sI0) KX G (fun a b c => Pt.ini0 a b c) ?m_0 ?l_0 ?b_0 ?o_0 ?no_0 ?i_0 ?t_0 ?lf_0 ?cf_0 ?kf_0)
      (Pt.e1_of (x := "BadName") (f := "name") (qn := "BadName.__init__") (st := Pt.sI1) KX G (fun a b c => Pt.ini1 a b c) ?m_1 ?l_1 ?b_1 ?o_1 ?no_1 ?i_1 ?t_1 ?lf_1 ?cf_1 ?kf_1)
      (Pt.e1_of (x := "UnknownName") (f := "name") (qn := "UnknownName.__init__") (st := Pt.sI2) KX G (fun a b c => Pt.ini2 a b c) ?m_2 ?l_2 ?b_2 ?o_2 ?no_2 ?i_2 ?t_2 ?lf_2 ?cf_2 ?kf_2)
      (Pt.e1_of (x := "BadNumber") (f := "number") (qn := "BadNumber.__init__") (st := Pt.sI3) KX G (fun a b c => Pt.ini3 a b c) ?m_3 ?l_3 ?b_3 ?o_3 ?no_3 ?i_3 ?t_3 ?lf_3 ?cf_3 ?kf_3)
      (Pt.e1_of (x := "BadCount") (f := "count") (qn := "BadCount.__init__") (st := Pt.sI4) KX G (fun a b c => Pt.ini4 a b c) ?m_4 ?l_4 ?b_4 ?o_4 ?no_4 ?i_4 ?t_4 ?lf_4 ?cf_4 ?kf_4)
      (Pt.e1_of (x := "BadDeed") (f := "deed") (qn := "BadDeed.__init__") (st := Pt.sI5) KX G (fun a b c => Pt.ini5 a b c) ?m_5 ?l_5 ?b_5 ?o_5 ?no_5 ?i_5 ?t_5 ?lf_5 ?cf_5 ?kf_5)
      (Pt.e1_of (x := "BadHead") (f := "value") (qn := "BadHead.__init__") (st := Pt.sI6) KX G (fun a b c => Pt.ini6 a b c) ?m_6 ?l_6 ?b_6 ?o_6 ?no_6 ?i_6 ?t_6 ?lf_6 ?cf_6 ?kf_6)
      (Pt.e1_of (x := "BadShown") (f := "index") (qn := "BadShown.__init__") (st := Pt.sI7) KX G (fun a b c => Pt.ini7 a b c) ?m_7 ?l_7 ?b_7 ?o_7 ?no_7 ?i_7 ?t_7 ?lf_7 ?cf_7 ?kf_7)
      (Pt.e1_of (x := "BadChange") (f := "counter") (qn := "BadChange.__init__") (st := Pt.sI8) KX G (fun a b c => Pt.ini8 a b c) ?m_8 ?l_8 ?b_8 ?o_8 ?no_8 ?i_8 ?t_8 ?lf_8 ?cf_8 ?kf_8)
      (Pt.e1_of (x := "BadTimes") (f := "times") (qn := "BadTimes.__init__") (st := Pt.sI9) KX G (fun a b c => Pt.ini9 a b c) ?m_9 ?l_9 ?b_9 ?o_9 ?no_9 ?i_9 ?t_9 ?lf_9 ?cf_9 ?kf_9)
      (Pt.e1_of (x := "BadWeight") (f := "counter") (qn := "BadWeight.__init__") (st := Pt.sI10) KX G (fun a b c => Pt.ini10 a b c) ?m_10 ?l_10 ?b_10 ?o_10 ?no_10 ?i_10 ?t_10 ?lf_10 ?cf_10 ?kf_10)
      (Pt.e1_of (x := "NotDocument") (f := "index") (qn := "NotDocument.__init__") (st := Pt.sI11) KX G (fun a b c => Pt.ini11 a b c) ?m_11 ?l_11 ?b_11 ?o_11 ?no_11 ?i_11 ?t_11 ?lf_11 ?cf_11 ?kf_11)
      (Pt.e1_of (x := "NoDocument") (f := "kind") (qn := "NoDocument.__init__") (st := Pt.sI12) KX G (fun a b c => Pt.ini12 a b c) ?m_12 ?l_12 ?b_12 ?o_12 ?no_12 ?i_12 ?t_12 ?lf_12 ?cf_12 ?kf_12)
      (Pt.e1_of (x := "NoLabel") (f := "kind") (qn := "NoLabel.__init__") (st := Pt.sI13) KX G (fun a b c => Pt.ini13 a b c) ?m_13 ?l_13 ?b_13 ?o_13 ?no_13 ?i_13 ?t_13 ?lf_13 ?cf_13 ?kf_13)
      (Pt.e1_of (x := "BadKey") (f := "key") (qn := "BadKey.__init__") (st := Pt.sI14) KX G (fun a b c => Pt.ini14 a b c) ?m_14 ?l_14 ?b_14 ?o_14 ?no_14 ?i_14 ?t_14 ?lf_14 ?cf_14 ?kf_14)
      (Pt.e1_of (x := "KeyTaken") (f := "key") (qn := "KeyTaken.__init__") (st := Pt.sI15) KX G (fun a b c => Pt.ini15 a b c) ?m_15 ?l_15 ?b_15 ?o_15 ?no_15 ?i_15 ?t_15 ?lf_15 ?cf_15 ?kf_15)
      (Pt.e1_of (x := "UnknownKey") (f := "key") (qn := "UnknownKey.__init__") (st := Pt.sI16) KX G (fun a b c => Pt.ini16 a b c) ?m_16 ?l_16 ?b_16 ?o_16 ?no_16 ?i_16 ?t_16 ?lf_16 ?cf_16 ?kf_16)
      (Pt.e0_of (x := "BadText") KX G ?m_17 ?l_17 ?b_17 ?o_17 ?qx_17)
      (Pt.e0_of (x := "BadLabel") KX G ?m_18 ?l_18 ?b_18 ?o_18 ?qx_18)
      (Pt.e0_of (x := "BadRow") KX G ?m_19 ?l_19 ?b_19 ?o_19 ?qx_19)
      (Pt.e0_of (x := "BadJoints") KX G ?m_20 ?l_20 ?b_20 ?o_20 ?qx_20)
      (Pt.e0_of (x := "UnlikeSchemes") KX G ?m_21 ?l_21 ?b_21 ?o_21 ?qx_21)
      (Pt.e0_of (x := "NothingToUndo") KX G ?m_22 ?l_22 ?b_22 ?o_22 ?qx_22)
      (Pt.e2_of (x := "NotLet") KX G ?m_23 ?l_23 ?b_23 ?o_23 ?nf_23 ?ng_23 ?i_23 ?t_23 ?lf_23 ?cf_23 ?kf_23) ?gP ?kits)
      (Pt.defAt_mk (x := "_law_tape") (st := Pt.sTape) (ps := ["_law_script", "_law_k"]) KX G ?a__law_tape ?l__law_tape ?c__law_tape ?k__law_tape (fun _ _ _ _ _ _ us hl => match us, hl with | [_, _], _ => rfl))
      (Pt.defAt_mk (x := "_law_pick") (st := Pt.sPick) (ps := ["_law_tape_here", "_law_many"]) KX G ?a__law_pick ?l__law_pick ?c__law_pick ?k__law_pick (fun _ _ _ _ _ _ us hl => match us, hl with | [_, _], _ => rfl))
      (Pt.defAt_mk (x := "_law_thing") (st := Pt.sThing) (ps := ["_law_tape_here"]) KX G ?a__law_thing ?l__law_thing ?c__law_thing ?k__law_thing (fun _ _ _ _ _ _ us hl => match us, hl with | [_], _ => rfl))
      (Pt.defAt_mk (x := "_law_told") (st := Pt.sTold) (ps := ["_law_a"]) KX G ?a__law_told ?l__law_told ?c__law_told ?k__law_told (fun _ _ _ _ _ _ us hl => match us, hl with | [_], _ => rfl))
      (Pt.defAt_mk (x := "_law_named") (st := Pt.sNamed) (ps := ["_law_a"]) KX G ?a__law_named ?l__law_named ?c__law_named ?k__law_named (fun _ _ _ _ _ _ us hl => match us, hl with | [_], _ => rfl))
      (Pt.defAt_mk (x := "_law_kinds") (st := Pt.sKinds) (ps := ["_law_e"]) KX G ?a__law_kinds ?l__law_kinds ?c__law_kinds ?k__law_kinds (fun _ _ _ _ _ _ us hl => match us, hl with | [_], _ => rfl)) ?a4 ?l4 ?c4 ?k4
    (case z_ValueError => k_is)
    (case z_abs => k_is)
    (case z_int => k_is)
    (case z_isinstance => k_is)
    (case z_len => k_is)
    (case z_range => k_is)
    (case m_0 => k_is)
    (case l_0 => k_is)
    (case b_0 => decide +kernel)
    (case o_0 => kernel_rfl)
    (case no_0 => k_is)
    (case i_0 => k_is)
    (case t_0 => k_is)
    (case lf_0 => k_is)
    (case cf_0 => k_is)
    (case kf_0 => k_is)
    (case m_1 => k_is)
    (case l_1 => k_is)
    (case b_1 => decide +kernel)
    (case o_1 => kernel_rfl)
    (case no_1 => k_is)
    (case i_1 => k_is)
    (case t_1 => k_is)
    (case lf_1 => k_is)
    (case cf_1 => k_is)
    (case kf_1 => k_is)
    (case m_2 => k_is)
    (case l_2 => k_is)
    (case b_2 => decide +kernel)
    (case o_2 => kernel_rfl)
    (case no_2 => k_is)
    (case i_2 => k_is)
    (case t_2 => k_is)
    (case lf_2 => k_is)
    (case cf_2 => k_is)
    (case kf_2 => k_is)
    (case m_3 => k_is)
    (case l_3 => k_is)
    (case b_3 => decide +kernel)
    (case o_3 => kernel_rfl)
    (case no_3 => k_is)
    (case i_3 => k_is)
    (case t_3 => k_is)
    (case lf_3 => k_is)
    (case cf_3 => k_is)
    (case kf_3 => k_is)
    (case m_4 => k_is)
    (case l_4 => k_is)
    (case b_4 => decide +kernel)
    (case o_4 => kernel_rfl)
    (case no_4 => k_is)
    (case i_4 => k_is)
    (case t_4 => k_is)
    (case lf_4 => k_is)
    (case cf_4 => k_is)
    (case kf_4 => k_is)
    (case m_5 => k_is)
    (case l_5 => k_is)
    (case b_5 => decide +kernel)
    (case o_5 => kernel_rfl)
    (case no_5 => k_is)
    (case i_5 => k_is)
    (case t_5 => k_is)
    (case lf_5 => k_is)
    (case cf_5 => k_is)
    (case kf_5 => k_is)
    (case m_6 => k_is)
    (case l_6 => k_is)
    (case b_6 => decide +kernel)
    (case o_6 => kernel_rfl)
    (case no_6 => k_is)
    (case i_6 => k_is)
    (case t_6 => k_is)
    (case lf_6 => k_is)
    (case cf_6 => k_is)
    (case kf_6 => k_is)
    (case m_7 => k_is)
    (case l_7 => k_is)
    (case b_7 => decide +kernel)
    (case o_7 => kernel_rfl)
    (case no_7 => k_is)
    (case i_7 => k_is)
    (case t_7 => k_is)
    (case lf_7 => k_is)
    (case cf_7 => k_is)
    (case kf_7 => k_is)
    (case m_8 => k_is)
    (case l_8 => k_is)
    (case b_8 => decide +kernel)
    (case o_8 => kernel_rfl)
    (case no_8 => k_is)
    (case i_8 => k_is)
    (case t_8 => k_is)
    (case lf_8 => k_is)
    (case cf_8 => k_is)
    (case kf_8 => k_is)
    (case m_9 => k_is)
    (case l_9 => k_is)
    (case b_9 => decide +kernel)
    (case o_9 => kernel_rfl)
    (case no_9 => k_is)
    (case i_9 => k_is)
    (case t_9 => k_is)
    (case lf_9 => k_is)
    (case cf_9 => k_is)
    (case kf_9 => k_is)
    (case m_10 => k_is)
    (case l_10 => k_is)
    (case b_10 => decide +kernel)
    (case o_10 => kernel_rfl)
    (case no_10 => k_is)
    (case i_10 => k_is)
    (case t_10 => k_is)
    (case lf_10 => k_is)
    (case cf_10 => k_is)
    (case kf_10 => k_is)
    (case m_11 => k_is)
    (case l_11 => k_is)
    (case b_11 => decide +kernel)
    (case o_11 => kernel_rfl)
    (case no_11 => k_is)
    (case i_11 => k_is)
    (case t_11 => k_is)
    (case lf_11 => k_is)
    (case cf_11 => k_is)
    (case kf_11 => k_is)
    (case m_12 => k_is)
    (case l_12 => k_is)
    (case b_12 => decide +kernel)
    (case o_12 => kernel_rfl)
    (case no_12 => k_is)
    (case i_12 => k_is)
    (case t_12 => k_is)
    (case lf_12 => k_is)
    (case cf_12 => k_is)
    (case kf_12 => k_is)
    (case m_13 => k_is)
    (case l_13 => k_is)
    (case b_13 => decide +kernel)
    (case o_13 => kernel_rfl)
    (case no_13 => k_is)
    (case i_13 => k_is)
    (case t_13 => k_is)
    (case lf_13 => k_is)
    (case cf_13 => k_is)
    (case kf_13 => k_is)
    (case m_14 => k_is)
    (case l_14 => k_is)
    (case b_14 => decide +kernel)
    (case o_14 => kernel_rfl)
    (case no_14 => k_is)
    (case i_14 => k_is)
    (case t_14 => k_is)
    (case lf_14 => k_is)
    (case cf_14 => k_is)
    (case kf_14 => k_is)
    (case m_15 => k_is)
    (case l_15 => k_is)
    (case b_15 => decide +kernel)
    (case o_15 => kernel_rfl)
    (case no_15 => k_is)
    (case i_15 => k_is)
    (case t_15 => k_is)
    (case lf_15 => k_is)
    (case cf_15 => k_is)
    (case kf_15 => k_is)
    (case m_16 => k_is)
    (case l_16 => k_is)
    (case b_16 => decide +kernel)
    (case o_16 => kernel_rfl)
    (case no_16 => k_is)
    (case i_16 => k_is)
    (case t_16 => k_is)
    (case lf_16 => k_is)
    (case cf_16 => k_is)
    (case kf_16 => k_is)
    (case m_17 => k_is)
    (case l_17 => k_is)
    (case b_17 => decide +kernel)
    (case o_17 => kernel_rfl)
    (case qx_17 => k_exc)
    (case m_18 => k_is)
    (case l_18 => k_is)
    (case b_18 => decide +kernel)
    (case o_18 => kernel_rfl)
    (case qx_18 => k_exc)
    (case m_19 => k_is)
    (case l_19 => k_is)
    (case b_19 => decide +kernel)
    (case o_19 => kernel_rfl)
    (case qx_19 => k_exc)
    (case m_20 => k_is)
    (case l_20 => k_is)
    (case b_20 => decide +kernel)
    (case o_20 => kernel_rfl)
    (case qx_20 => k_exc)
    (case m_21 => k_is)
    (case l_21 => k_is)
    (case b_21 => decide +kernel)
    (case o_21 => kernel_rfl)
    (case qx_21 => k_exc)
    (case m_22 => k_is)
    (case l_22 => k_is)
    (case b_22 => decide +kernel)
    (case o_22 => kernel_rfl)
    (case qx_22 => k_exc)
    (case m_23 => k_is)
    (case l_23 => k_is)
    (case b_23 => decide +kernel)
    (case o_23 => kernel_rfl)
    (case nf_23 => k_is)
    (case ng_23 => k_is)
    (case i_23 => k_is)
    (case t_23 => k_is)
    (case lf_23 => k_is)
    (case cf_23 => k_is)
    (case kf_23 => k_is)
    (case gP => k_is)
    (case kits => kernel_rfl)
    (case a__law_tape => k_is)
    (case l__law_tape => k_is)
    (case c__law_tape => k_is)
    (case k__law_tape => k_is)
    (case a__law_pick => k_is)
    (case l__law_pick => k_is)
    (case c__law_pick => k_is)
    (case k__law_pick => k_is)
    (case a__law_thing => k_is)
    (case l__law_thing => k_is)
    (case c__law_thing => k_is)
    (case k__law_thing => k_is)
    (case a__law_told => k_is)
    (case l__law_told => k_is)
    (case c__law_told => k_is)
    (case k__law_told => k_is)
    (case a__law_named => k_is)
    (case l__law_named => k_is)
    (case c__law_named => k_is)
    (case k__law_named => k_is)
    (case a__law_kinds => k_is)
    (case l__law_kinds => k_is)
    (case c__law_kinds => k_is)
    (case k__law_kinds => k_is)
    (case a4 => k_is)
    (case l4 => k_is)
    (case c4 => k_is)
    (case k4 => k_is)
