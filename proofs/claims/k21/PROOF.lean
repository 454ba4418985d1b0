import PyProof.Rows.All
import Wide.All
import OpenK.AllK
import Wide.FinOn
import HandS.ForMost
import HandS.Wide
import HandS.WideBits
import HandS.Style
import HandS.IsInst
import HandS.StrMore
import HandS.Codes
import HandS.Exc
import HandS.TryOnly
import HandS.TryMany
import HandS.ExcOwn
import HandS.WordsExc
import HandS.ExcInit
import HandS.ExcIs
import HandS.ExcField
import HandS.TupLe
import KE.KExcIs
import HandS.Zip
import HandS.DictComp
import HandS.Defaults
import HandS.Property
import KE.KUnpackStar
import HandS.Replace
import HandS.Finally
import PySem.Challenge.RW_partlabels_k21_labels
set_option Elab.async false
set_option linter.all false
set_option maxRecDepth 100000
set_option maxHeartbeats 2000000
/-! Common to the laws: how a def of the text is told, the tape, drawing. -/
namespace Pt
open PySem PySem.Spec PyProof.Rows L2

/-- a def that may be called by its name; CX tells what may leave it -/
structure Cal (P : Program) (w : World) (K : PySem.W.Frag) (mg : Str → Option Value) (base : Heap) (CX : CXT) (k : Nat) (x : Str) (sp : Sp) : Prop where
  ex : ∃ (f : Addr) (fd : FuncData) (ps : List Str), FnOk P w K mg base CX k f fd ps sp ∧ mg x = some (.ref f) ∧ PySem.W.keepIn K (.ref f) = true ∧ Binds K fd ps []
/-- a def of the text as the top leaves it, under its name -/
structure DefAt (K : PySem.W.Frag) (mg : Str → Option Value) (x : Str) (st : Stmt) (ps : List Str) : Prop where
  ex : ∃ (f : Addr) (fd : FuncData), Fun K x x st f fd ∧ mg x = some (.ref f) ∧ Binds K fd ps []
theorem defAt_mk {K : PySem.W.Frag} {h : Heap} {mg : Str → Option Value} {x : Str} {st : Stmt} {ps : List Str} {f : Addr} {oc : Value} {od an : Option Addr} {sl : Array (Option Value)} {kV dc pm cd ct : Value} (X : K.In h) (G : h.Ns mainGlobals mg)
    (a : PySem.W.nsIn K mainGlobals x = some (some (.ref f)))
    (l : K.lookup f = some ⟨oc, od, .func (PySem.W.fnOf x x (defArgs st) (defBody st) (defScope st) .none kV dc pm an cd ct), sl⟩) (c : PySem.W.codeIn K cd x = true) (k : PySem.W.keepIn K (.ref f) = true)
    (hb : ∀ (kV doc pm : Value) (an : Option Addr) (cdv ct : Value) (us : List Value), us.length = ps.length → bindArgs (PySem.W.fnOf x x (defArgs st) (defBody st) (defScope st) .none kV doc pm an cdv ct) ⟨us, []⟩ = pure (ps.zip us)) : DefAt K mg x st ps := by
  have F := fun_mk (st := st) l c k
  exact ⟨⟨f, _, F, PySem.W.mg_of X G a, F.binds hb⟩⟩
section
variable {P : Program} {w : World} {K : PySem.W.Frag} {mg : Str → Option Value} {base : Heap}
theorem cal_of {CX : CXT} {k : Nat} {x : Str} {st : Stmt} {ps : List Str} {sp : Sp} (D : DefAt K mg x st ps) (h : ∀ (f : Addr) (fd : FuncData), Fun K x x st f fd → FnOk P w K mg base CX k f fd ps sp) : Cal P w K mg base CX k x sp := by
  obtain ⟨f, fd, F, m, b⟩ := D.ex
  exact ⟨⟨f, fd, ps, h f fd F, m, F.kp, b⟩⟩
end
section
variable {X : Cx} {j k : Nat} {x : Str} {sp : Sp} {p pos : Pos} {e : Expr} {es : List Expr} {t : TA}
theorem pe_c (c : Cal X.prog X.w X.K X.mg X.base CX0 k x sp) (hr : Room j X.A) (hk : k ≤ j) (hg : Gl X x) (ha : PA X (e :: es) t)
    (hdb : (x == ("__debug__" : Str)) = false := by decide) (he : starEach (e :: es) X.env = (false, eval e X.env) :: starEach es X.env := by rfl) (hpl : (backTo pos (starEach es X.env)).any (·.1) = false := by rfl) :
    PE X (.Call (.Name x p) (e :: es) [] pos) (tCall sp [] E0 t) := by
  obtain ⟨f, fd, ps, F, hm, kp, b⟩ := c.ex
  exact pe_call F (hr.mono hk) hg hm kp b .nil pass0 ha hdb he hpl
/-- text * int -/
def rMulS : R2 := fun x y H Q => ∃ (z : Str) (n : Int), x = .str z ∧ y = .int n ∧ 0 ≤ n ∧ n ≤ 100000 ∧ z.length ≤ 100 ∧ Q (.str (Txt.mul z n)) H
theorem op_mul_str : OpR X (binaryOp .Mult) rMulS := by
  intro pins s σ H x y v u Q I rx ry h
  obtain ⟨z, n, rfl, rfl, h0, h1, hz, q⟩ := h
  obtain ⟨t, rfl⟩ := rx
  obtain ⟨t', rfl⟩ := ry
  refine SB.mul ⟨?_, fun a b => ?_, fun a b => ?_⟩ (fun t2 k => ⟨.str (Txt.mul z n), H, I.tok _, ⟨_, rfl⟩, q⟩)
  · rw [decide_eq_false (by omega), decide_eq_false (by omega)] <;> rfl
  · have hn : 0 < n := by omega
    have e : (100 : Int) ≤ (2 ^ 63 - 1) / n := by
      refine (Int.le_ediv_iff_mul_le hn).mpr ?_
      omega
    omega
  · unfold Builtin.Str.tooLong
    have hs : sizeLine = 16777216 := sizeLine_eq
    have e : z.length * n.toNat ≤ 100 * 100000 := Nat.mul_le_mul hz (by omega)
    refine decide_eq_false ?_
    omega
end

theorem if_true_of {c : Bool} {A B : Prop} (hc : c = true) (h : A) : if c = true then A else B := by
  rw [if_pos hc]
  exact h
theorem if_false_of {c : Bool} {A B : Prop} (hc : c = false) (h : B) : if c = true then A else B := by
  rw [hc, if_neg Bool.false_ne_true]
  exact h

/-! ### the tape -/
def tapeO (A B : Int) : HO := .lst [.int A, .int B]
def TapeOk (A B : Int) : Prop := 0 ≤ A ∧ 0 ≤ B ∧ B ≤ 2147483647
def TapeAt (H : Hp) (a : Addr) : Prop := ∃ A B : Int, H a = some (tapeO A B) ∧ TapeOk A B
/-- all but the tape at a stands -/
def Frm (a : Addr) (H H' : Hp) : Prop := (∀ b, b ≠ a → H' b = H b) ∧ TapeAt H' a
theorem Frm.refl {a : Addr} {H : Hp} (h : TapeAt H a) : Frm a H H := ⟨fun _ _ => rfl, h⟩
theorem Frm.trans {a : Addr} {H H1 H2 : Hp} (x : Frm a H H1) (y : Frm a H1 H2) : Frm a H H2 := ⟨fun b hb => (y.1 b hb).trans (x.1 b hb), y.2⟩
theorem Frm.put {a : Addr} {H : Hp} {A B : Int} (h : TapeOk A B) : Frm a H (upd H a (tapeO A B)) := ⟨fun b hb => upd_ne hb, A, B, upd_same, h⟩

def spTape (K : PySem.W.Frag) : Sp := fun vs H Q _ => ∃ (a : Addr) (ns : List Int) (k : Int), vs = [.ref a, .int k] ∧ SqL K H a (ns.map V.int) ∧ 0 ≤ k ∧ k ≤ 1000 ∧
  ∀ (p : Addr) (A B : Int), H p = none → TapeOk A B → Q (.ref p) (upd H p (tapeO A B))
def spPick : Sp := fun vs H Q _ => ∃ (a : Addr) (m : Int), vs = [.ref a, .int m] ∧ TapeAt H a ∧ 0 < m ∧ m < 2 ^ 120 ∧
  ∀ (r : Int) (H' : Hp), 0 ≤ r → r < m → Frm a H H' → Q (.int r) H'
end Pt
/-! Texts as lists of code points: the rules by values, told so. -/
namespace Pt
open PySem PySem.Spec PyProof.Rows L2
open SX (S S_len S_cat)
section
variable {X : Cx}
theorem S_beq_iff {a b : List Nat} : (V.str (S a) = V.str (S b)) ↔ a = b := ⟨fun h => SX.S_inj (V.str.inj h), fun h => by rw [h]⟩
theorem S_dec {a b : List Nat} : decide (V.str (S a) = V.str (S b)) = decide (a = b) := decide_eq_decide.mpr S_beq_iff
theorem size_ok {n : Nat} (h : n ≤ 1000000) : n ≤ sizeLine := Nat.le_trans h (by decide)
theorem pe_strS {x : Str} {j : Nat} {pos : Pos} (l : List Nat) (h : x = S l) : PE X (.Constant (.str x) j pos) (tC (.str (S l))) := by
  subst h
  exact pe_str
def rCatS : R2 := fun x y H Q => ∃ a b : List Nat, x = .str (S a) ∧ y = .str (S b) ∧ a.length + b.length ≤ 1000000 ∧ Q (.str (S (a ++ b))) H
theorem op_catS : OpR X (binaryOp .Add) rCatS := by
  intro pins s σ H x y v u Q I rx ry h
  obtain ⟨a, b, rfl, rfl, hz, q⟩ := h
  rw [← S_cat] at q
  exact op_add_str pins s σ H _ _ v u Q I rx ry ⟨S a, S b, rfl, rfl, by rw [S_len, S_len]; exact size_ok hz, q⟩
def rIxSL : R2 := fun x y H Q => ∃ (l : List Nat) (i : Int) (c : Nat), x = .str (S l) ∧ y = .int i ∧ l.length ≤ 1000000 ∧ atI l i = some c ∧ Q (.str (S [c])) H
theorem ix_S : IxR X rIxSL := by
  intro value slice pins s σ H x y v u Q I rx ry h hs
  obtain ⟨l, i, c, rfl, rfl, hz, he, q⟩ := h
  exact ix_str value slice pins s σ H _ _ v u Q I rx ry ⟨S l, i, c, rfl, rfl, by rw [S_len]; exact size_ok hz, by simpa using he, q⟩ hs
def rSlToS : V → Option Int → Option Int → Hp → VK → Prop := fun x lo hi H Q => ∃ (l : List Nat) (i : Int), x = .str (S l) ∧ lo = none ∧ hi = some i ∧ 0 ≤ i ∧ l.length ≤ 1000000 ∧ Q (.str (S (l.take i.toNat))) H
theorem sl_to : SlR X rSlToS := by
  intro pins s σ H x v vl vu lo hi sl Q I rx hs pl pu h
  obtain ⟨l, i, rfl, rfl, rfl, h0, hz, q⟩ := h
  exact C8.sl_txt pins s σ H _ v vl vu _ _ sl Q I rx hs pl pu ⟨S l, rfl, by rw [S_len]; exact size_ok hz, by rw [SX.slice_to h0]; exact q⟩
def rSlFromS : V → Option Int → Option Int → Hp → VK → Prop := fun x lo hi H Q => ∃ (l : List Nat) (i : Int), x = .str (S l) ∧ lo = some i ∧ hi = none ∧ 0 ≤ i ∧ l.length ≤ 1000000 ∧ Q (.str (S (l.drop i.toNat))) H
theorem sl_from : SlR X rSlFromS := by
  intro pins s σ H x v vl vu lo hi sl Q I rx hs pl pu h
  obtain ⟨l, i, rfl, rfl, rfl, h0, hz, q⟩ := h
  exact C8.sl_txt pins s σ H _ v vl vu _ _ sl Q I rx hs pl pu ⟨S l, rfl, by rw [S_len]; exact size_ok hz, by rw [SX.slice_from h0]; exact q⟩
theorem call_lenS : CallR X (.builtin "len") (fun xs H Q => ∃ l : List Nat, xs = [.str (S l)] ∧ l.length ≤ 1000000 ∧ Q (.int l.length) H) := by
  intro pins s σ H xs us Q I r h
  obtain ⟨l, rfl, hz, q⟩ := h
  exact call_len_str pins s σ H _ us Q I r ⟨S l, rfl, by rw [S_len]; exact size_ok hz, by rw [S_len]; exact q⟩
theorem foldl_rep (l : List Nat) : ∀ (n : Nat) (a : Array Nat), ((List.replicate n l.toArray).foldl (· ++ ·) a).toList = a.toList ++ (List.replicate n l).flatten
  | 0, a => by simp
  | n + 1, a => by
    rw [List.replicate_succ, List.foldl_cons, foldl_rep l n, List.replicate_succ, List.flatten_cons, Array.toList_append, List.append_assoc]
theorem mul_S (l : List Nat) {n : Int} (h0 : 0 ≤ n) : Txt.mul (S l) n = S (List.replicate n.toNat l).flatten := by
  unfold Txt.mul
  by_cases h1 : n < 1
  · have e : n.toNat = 0 := by omega
    rw [if_pos h1, e]
    rfl
  · rw [if_neg h1]
    by_cases h2 : (n == 1 || (S l).length == 0) = true
    · rw [if_pos h2]
      rw [Bool.or_eq_true, beq_iff_eq, beq_iff_eq, S_len] at h2
      rcases h2 with h2 | h2
      · subst h2
        show S l = S (List.replicate 1 l).flatten
        simp
      · have e : l = [] := List.length_eq_zero_iff.mp h2
        subst e
        simp
    · rw [if_neg h2]
      refine (SX.S_tl _).symm.trans (congrArg S ?_)
      show ((List.replicate n.toNat l.toArray).foldl (· ++ ·) #[]).toList = _
      rw [foldl_rep]
      rfl
def rMulSL : R2 := fun x y H Q => ∃ (l : List Nat) (n : Int), x = .str (S l) ∧ y = .int n ∧ 0 ≤ n ∧ n ≤ 100000 ∧ l.length ≤ 100 ∧ Q (.str (S (List.replicate n.toNat l).flatten)) H
theorem op_mulS : OpR X (binaryOp .Mult) rMulSL := by
  intro pins s σ H x y v u Q I rx ry h
  obtain ⟨l, n, rfl, rfl, h0, h1, hz, q⟩ := h
  exact op_mul_str pins s σ H _ _ v u Q I rx ry ⟨S l, n, rfl, rfl, h0, h1, by rw [S_len]; exact hz, by rw [mul_S l h0]; exact q⟩
end
theorem ite_bl {a b : Bool} {A : Prop} {Q : VK} {H : Hp} (h : Q (.bl (a && b)) H) (k : Q (.bl b) H → A) : if a = true then A else Q (.bl false) H := by
  cases a with
  | true => exact if_true_of rfl (k h)
  | false => exact if_false_of rfl h
theorem bl_ne {a b : Bool} (h : a = b) : (!decide (V.bl a = V.bl b)) = false := by rw [h]; simp
theorem at_in {l : List Nat} {r : Int} (h0 : 0 ≤ r) (h1 : r < (l.length : Int)) : ∃ c, atI l r = some c ∧ c ∈ l := by
  have hk : r.toNat < l.length := by omega
  refine ⟨l[r.toNat], by have q := atI_nat (List.getElem?_eq_getElem hk); rwa [show ((r.toNat : Nat) : Int) = r by omega] at q, List.getElem_mem hk⟩
end Pt
/-! Own exceptions: raised with or without a field, asked within a suite. -/
namespace Pt
open PySem PySem.Spec PyProof.Rows L2
/-- an own exception class, by what the written part says of it -/
structure XC (K : PySem.W.Frag) (mg : Str → Option Value) (x : Str) (C : Addr) : Prop where
  gC : mg x = some (.ref C)
  oex : OexC K C
  ex : ExcC K C
  me : PySem.W.exmOne K (.ref C) (.ref C) = some true
theorem XC.xf {K : PySem.W.Frag} {mg : Str → Option Value} {x : Str} {C : Addr} (T : XC K mg x C) : XfC K C := ⟨T.ex.hg, T.ex.hk, T.ex.hs, T.ex.hd⟩
theorem XC.mk' {K : PySem.W.Frag} {mg : Str → Option Value} {x : Str} {C : Addr} {nm q : Str} {N : Addr} {bs bm : List Value} {sn : List Str} {sub : List Value} {ab : Bool} {col : Option Bool} {dd : Option Addr} {k0 k1 k2 k3 k5 : Option Value}
    (gC : mg x = some (.ref C)) (l : K.lookup C = some (excClassObj nm q C N bs bm true sn sub ab col dd k0 k1 k2 k3 k5 "ValueError.__new__")) (hb : PySem.HandSPX.refsVE bm = true)
    (sa : PySem.W.findIn K (.ref C) "__setattr__" = some (some (.builtin "object.__setattr__"))) (tyC : PySem.W.typeIn K (.ref C) = some (.type "type")) (kC : PySem.W.keepIn K (.ref C) = true)
    (hg : PySem.W.findIn K (.ref C) "__getattribute__" = some (some (.builtin "BaseException.__getattribute__"))) (hk : PySem.W.findIn K (.ref C) "__getattr__" = some none)
    (hs : PySem.W.subIn K (.ref C) (.type "BaseException") = some true) (hd : PySem.W.hasDictIn K C = true) (ha : PySem.W.findIn K (.ref C) "__class__" = some (some (.builtin "object.__class__")))
    (hn : PySem.W.specialIn K (.builtin "object.__class__") "__get__" = some (some (.builtin "getset_descriptor.__get__"))) (ht : PySem.W.takesIn K (.builtin "object.__class__") = some true)
    (hm : PySem.W.mroIn K C (.type "object") = some true) (ss : PySem.W.subIn K (.ref C) (.ref C) = some true) : XC K mg x C :=
  ⟨gC, ⟨⟨_, _, _, _, _, _, _, _, _, _, _, _, _, _, _, l, hb⟩, sa, hs, tyC, kC⟩, ⟨hg, hk, hs, hd, ha, hn, ht, hm⟩, PySem.W.exm_ref hs hd tyC ss⟩

theorem kit_own {K : PySem.W.Frag} {C D : Addr} (hd : PySem.W.hasDictIn K D = true) (ht : PySem.W.typeIn K (.ref D) = some (.type "type")) (hs : PySem.W.subIn K (.ref C) (.ref D) = some true) : PySem.W.kitOne K (.ref C) (.ref D) = some true := by
  obtain ⟨cd, hc, _⟩ := PySem.W.any_some hd
  have e : ((PySem.W.clsIn K D).isSome && PySem.W.typeIn K (.ref D) == some (.type "type")) = true := by
    rw [hc, ht]
    rfl
  unfold PySem.W.kitOne PySem.W.kitCls
  split
  · rfl
  · show (if ((PySem.W.clsIn K D).isSome && PySem.W.typeIn K (.ref D) == some (.type "type")) = true then PySem.W.subIn K (.ref C) (.ref D) else none) = some true
    rw [if_pos e]
    exact hs
/-- __init__(self, f): self.f = f, of an exception that is being made -/
def spXI (C : Addr) (f : Str) : Sp := fun vs H Q _ => ∃ (a : Addr) (v : V), vs = [.ref a, v] ∧ H a = some (exo a C none) ∧
  ∀ d, H d = none → d ≠ a → Q .non (upd (upd H d (exd d [(f, v)])) a (exo a C (some d)))
theorem heap_back {H : Hp} {a d : Addr} {o1 o2 o3 o4 : HO} (ha : H a = none) (hd : d ≠ a) : upd (del (upd (upd (upd H a o1) d o2) a o3) a) d o4 = upd H d o4 := by
  funext b
  by_cases h1 : b = d
  · subst h1
    rw [upd_same, upd_same]
  · rw [upd_ne h1, upd_ne h1]
    by_cases h2 : b = a
    · subst h2
      rw [del_same, ha]
    · rw [del_ne h2, upd_ne h2, upd_ne h1, upd_ne h2]
/-- what making such an exception asks -/
theorem mkO_ok {C : Addr} {f : Str} {v : V} {H : Hp} {Q : XK} (h : ∀ d, H d = none → Q (.ref C) (some d) (upd H d (.xd [(f, v)]))) :
    ([v] : List V).length ≤ 1000 ∧ ∀ a, H a = none → spXI C f (.ref a :: (([v] : List V) ++ ([] : List V))) (upd H a (exo a C none))
      (fun u H2 => u = .non ∧ ∃ (d : Addr) (fs : List (Str × V)), H2 a = some (exo a C (some d)) ∧ H2 d = some (exd d fs) ∧ H d = none ∧ Q (.ref C) (some d) (upd (del H2 a) d (.xd fs))) (fun _ _ _ => False) := by
  refine ⟨(by show 1 ≤ 1000; decide), fun a ha => ⟨a, v, rfl, upd_same, fun d hd hda => ⟨rfl, d, [(f, v)], upd_same, ?_, ?_, ?_⟩⟩⟩
  · rw [upd_ne hda, upd_same]
  · rw [upd_ne hda] at hd
    exact hd
  · rw [heap_back ha hda]
    rw [upd_ne hda] at hd
    exact h d hd

section
variable {X : Cx} {C : Addr} {x : Str} {p pos : Pos} {sp : Sp} {j k : Nat} {e : Expr} {es : List Expr} {t : TA}
/-- X(), an own class without an __init__ -/
theorem pmk_own0 {bmB : List Value} {B newId initId : String} (F : ExcBaseFacts B newId initId bmB) (q : PySem.W.excIn X.K C bmB newId = true) (gC : X.mg x = some (.ref C)) (kC : PySem.W.keepIn X.K (.ref C) = true) (r : Raises X (.ref C)) (hg : Gl X x)
    (hdb : (x == ("__debug__" : Str)) = false := by decide) : PMk X (.Call (.Name x p) [] [] pos) (fun _ H Q => Q (.ref C) none H) := by
  intro pins s σ H Q J h
  refine wpAny_Call_Name_kw (ld_glob J hg gC ?_ hdb)
  refine PySem.W.callWith_K0 J.kIn kC ?_
  show wpAny _ _ (call (.ref C) []) _ _ _
  obtain ⟨bm, N, nm, qn, bs, hdct, sn, sub, ab, col, dd, k0, k1, k2, k3, k5, mN, hC, hN, hni, T⟩ := exc_obj J.kIn q
  obtain ⟨hp1, g1, d1, tk1, os1⟩ := s
  exact wpAny_call_exc_subT F T hC hN hni (fun h' a mk => mk_of J mk r h (J.hok.gone mk.new)) (Nat.zero_le _)
/-- a def that may raise, called where it does not -/
theorem pe_cX (c : Cal X.prog X.w X.K X.mg X.base (L2.CX X.prog X.w) k x sp) (hr : Room j X.A) (hk : k ≤ j) (hg : Gl X x) (ha : PA X (e :: es) t)
    (hdb : (x == ("__debug__" : Str)) = false := by decide) (he : starEach (e :: es) X.env = (false, eval e X.env) :: starEach es X.env := by rfl) (hpl : (backTo pos (starEach es X.env)).any (·.1) = false := by rfl) :
    PE X (.Call (.Name x p) (e :: es) [] pos) (tCall sp [] E0 t) := by
  obtain ⟨f, fd, ps, F, hm, kp, b⟩ := c.ex
  exact pe_call F (hr.mono hk) hg hm kp b .nil passL ha hdb he hpl
/-- .. called in a def that hands its error on -/
theorem pe_cE {W : WX} {E : XK} (c : Cal X.prog X.w X.K X.mg X.base (L2.CX X.prog X.w) k x sp) (hr : Room j X.A) (hk : k ≤ j) (hg : Gl X x) (tk : Takes X W) (hW : ∀ cls d σ H, E cls d H → W cls d σ H) (ha : PA X (e :: es) t)
    (hdb : (x == ("__debug__" : Str)) = false := by decide) (he : starEach (e :: es) X.env = (false, eval e X.env) :: starEach es X.env := by rfl) (hpl : (backTo pos (starEach es X.env)).any (·.1) = false := by rfl) :
    PE X (.Call (.Name x p) (e :: es) [] pos) (tCall sp [] E t) := by
  obtain ⟨f, fd, ps, F, hm, kp, b⟩ := c.ex
  exact pe_call F (hr.mono hk) hg hm kp b .nil (passes_call tk hW) ha hdb he hpl
/-- .. called within a try -/
theorem pe_cS {W : WX} (c : Cal X.prog X.w X.K X.mg X.base (L2.CX X.prog X.w) k x sp) (hr : Room j X.A) (hk : k ≤ j) (hg : Gl X x) (tk : Takes X W) (ha : PA X (e :: es) t)
    (hdb : (x == ("__debug__" : Str)) = false := by decide) (he : starEach (e :: es) X.env = (false, eval e X.env) :: starEach es X.env := by rfl) (hpl : (backTo pos (starEach es X.env)).any (·.1) = false := by rfl) :
    PE X (.Call (.Name x p) (e :: es) [] pos) (tCallS sp (WE W) t) := by
  obtain ⟨f, fd, ps, F, hm, kp, b⟩ := c.ex
  exact pe_callS F (hr.mono hk) hg hm kp b (fun σ => passAt tk σ) ha hdb he hpl
/-- isinstance(e, c), e the exception that the suite holds, with or without a dict -/
def rIsX (K : PySem.W.Frag) (a : Addr) (cls : Value) (d : Option Addr) : List V → Hp → VK → Prop := fun xs H Q => ∃ (c : V) (cv : Value) (D : Addr) (b : Bool), xs = [.ref a, c] ∧ cls = .ref D ∧ ExcC K D ∧
  (d = none ∨ ∃ (dd : Addr) (fs : List (Str × V)), d = some dd ∧ H dd = some (.xd fs)) ∧ (∀ u, RelV c u → u = cv) ∧ PySem.W.kitOne K (.ref D) cv = some b ∧ Q (.bl b) H
theorem call_isX {a : Addr} {oe : Obj} {cls : Value} {d : Option Addr} {pn : List (Addr × Obj)} (hz : Zc cls d oe) (hf : ∃ vs, oe.data = .fields vs) : CallR (X.suite a ((a, oe) :: pn)) (.builtin "isinstance") (rIsX X.K a cls d) := by
  intro pins s σ H xs us Q J r h
  obtain ⟨c, cv, D, b, rfl, rfl, T, hd, hcv, e, q⟩ := h
  obtain ⟨u1, u2, rfl, r1, r2⟩ := vals2 r
  cases (show u1 = Value.ref a from r1)
  have ec := hcv _ r2
  subst ec
  obtain ⟨hget, _⟩ := J.pin (a, oe) (List.mem_append_left _ List.mem_cons_self)
  obtain ⟨vs, hv⟩ := hf
  have hnc : PySem.W.notCls oe = true := by unfold PySem.W.notCls; rw [hv]
  have hcl : (PySem.W.clsIn X.K D).isSome = true := by
    obtain ⟨cd, hc, _⟩ := PySem.W.any_some T.hd
    rw [hc]
    rfl
  obtain ⟨od, Y⟩ : ∃ od, PySem.W.InstAt s.heap a oe D od := by
    rcases hd with rfl | ⟨dd, fs, rfl, hdd⟩
    · exact ⟨none, hget, hz.1, hnc, by rw [hz.2]; trivial⟩
    · obtain ⟨mA, hns, _⟩ := (show ObjOk X.prog X.w H s.heap dd (.xd fs) from J.hok dd _ hdd)
      obtain ⟨od, ho, _⟩ := lookIn_ns hns
      exact ⟨some od, hget, hz.1, hnc, by rw [hz.2]; exact ho⟩
  exact PySem.W.kia_one (PySem.W.kitx_exc hcl T.hg T.hk T.hs T.ha T.hn T.ht T.hm) J.kIn Y e (fun z => nomatch z) fun tk => ⟨.bl b, H, J.tok tk, rfl, q⟩
end

/-! ### a walk over a text -/
theorem for_str {l : List Nat} {g : TG} {tb : TS} {D : Ends} {σ : L2.St} {H : Hp} (Pv : Nat → L2.St → Hp → Prop) (h0 : Pv 0 σ H)
    (hs : ∀ i c σ H, l[i]? = some c → Pv i σ H → g (.str (SX.S [c])) σ H fun σ2 H2 => tb { D with nx := Pv (i + 1), ct := Pv (i + 1), bk := D.nx } σ2 H2) (hd : ∀ σ H, Pv l.length σ H → D.nx σ H) :
    ∃ W : Nat → Nat → L2.St → Hp → Prop, (∃ m, W 0 m σ H) ∧ ∀ i m σ H, W i m σ H →
      ((Its (SX.S l)).stop i H ∧ D.nx σ H) ∨ ((Its (SX.S l)).go i H ∧ ∃ N : L2.St → Hp → Prop, (∀ σ' H', N σ' H' → ∃ m', m' < m ∧ W (i + 1) m' σ' H') ∧ ∀ x H', (Its (SX.S l)).yld i H x H' → g x σ H' fun σ2 H2 => tb { D with nx := N, ct := N, bk := D.nx } σ2 H2) := by
  refine ⟨fun i m σ H => m = l.length - i ∧ i ≤ l.length ∧ Pv i σ H, ⟨l.length, rfl, Nat.zero_le _, h0⟩, ?_⟩
  rintro i m σ H ⟨rfl, hi, pv⟩
  have hsz : (SX.S l).cps.size = l.length := by simp
  by_cases hlt : i < l.length
  · refine .inr ⟨(by show i < (SX.S l).cps.size; omega), Pv (i + 1), fun σ' H' p' => ⟨l.length - (i + 1), by omega, rfl, hlt, p'⟩, fun x H' y => ?_⟩
    obtain ⟨rfl, c, hc, rfl⟩ := y
    exact hs i c σ _ (by simpa using hc) pv
  · have e : i = l.length := by omega
    subst e
    exact .inl ⟨(by show (SX.S l).cps.size ≤ l.length; omega), hd σ H pv⟩
end Pt
/-! Figures and letters: the mathematics. -/
namespace Pt
open PySem PySem.Spec PyProof.Rows L2
open SX (S S_len S_cat)
/-- the words of letters: no word for 0 -/
def wordN : Nat → List Nat
  | 0 => []
  | n + 1 => wordN (n / 26) ++ [97 + n % 26]
def lettersL (n : Nat) : List Nat := if n = 0 then [45] else wordN n
def wval (l : List Nat) : Nat := l.foldl (fun v c => v * 26 + (c - 96)) 0
theorem wordN_succ (n : Nat) : wordN (n + 1) = wordN (n / 26) ++ [97 + n % 26] := by rw [wordN]
theorem wordN_zero : wordN 0 = [] := by rw [wordN]
theorem wval_snoc (l : List Nat) (c : Nat) : wval (l ++ [c]) = wval l * 26 + (c - 96) := by
  unfold wval
  rw [List.foldl_append]
  rfl
theorem wval_word : ∀ n : Nat, wval (wordN n) = n
  | 0 => by rw [wordN_zero]; rfl
  | n + 1 => by
    have ih := wval_word (n / 26)
    rw [wordN_succ, wval_snoc, ih]
    omega
theorem wordN_low : ∀ n : Nat, ∀ c ∈ wordN n, 97 ≤ c ∧ c ≤ 122
  | 0, c, h => by rw [wordN_zero] at h; cases h
  | n + 1, c, h => by
    have ih := wordN_low (n / 26)
    rw [wordN_succ] at h
    rcases List.mem_append.mp h with h | h
    · exact ih c h
    · rw [List.mem_singleton.mp h]
      omega
theorem wordN_ne {n : Nat} (h : 0 < n) : wordN n ≠ [] := by
  cases n with
  | zero => omega
  | succ n => rw [wordN_succ]; simp
theorem word_wval : ∀ (k : Nat) (l : List Nat), l.length = k → (∀ c ∈ l, 97 ≤ c ∧ c ≤ 122) → wordN (wval l) = l
  | 0, l, h, _ => by
    have e : l = [] := List.length_eq_zero_iff.mp h
    subst e
    exact wordN_zero
  | k + 1, l, h, hl => by
    have hne : l ≠ [] := fun e => by rw [e] at h; cases h
    have e := List.dropLast_concat_getLast hne
    generalize l.getLast hne = c at e
    generalize l.dropLast = r at e
    subst e
    have hc := hl c (by simp)
    have ih := word_wval k r (by simpa using h) (fun d hd => hl d (by simp [hd]))
    rw [wval_snoc, show wval r * 26 + (c - 96) = (wval r * 26 + (c - 97)) + 1 by omega, wordN_succ, show (wval r * 26 + (c - 97)) / 26 = wval r by omega, ih, show 97 + (wval r * 26 + (c - 97)) % 26 = c by omega]
theorem wval_pos {l : List Nat} (hne : l ≠ []) (hl : ∀ c ∈ l, 97 ≤ c ∧ c ≤ 122) : 0 < wval l := by
  have e := List.dropLast_concat_getLast hne
  have hc := hl _ (List.getLast_mem hne)
  rw [← e, wval_snoc]
  omega
theorem wval_lt : ∀ (k : Nat) (l : List Nat), l.length = k → (∀ c ∈ l, 97 ≤ c ∧ c ≤ 122) → wval l < 27 ^ k
  | 0, l, h, _ => by
    have e : l = [] := List.length_eq_zero_iff.mp h
    subst e
    decide
  | k + 1, l, h, hl => by
    have hne : l ≠ [] := fun e => by rw [e] at h; cases h
    have e := List.dropLast_concat_getLast hne
    generalize l.getLast hne = c at e
    generalize l.dropLast = r at e
    subst e
    have hc := hl c (by simp)
    have ih := wval_lt k r (by simpa using h) (fun d hd => hl d (by simp [hd]))
    rw [wval_snoc, Nat.pow_succ]
    omega
theorem lettersL_low {n : Nat} (h : 0 < n) : lettersL n = wordN n := by unfold lettersL; rw [if_neg (by omega)]
theorem wordN_len_le : ∀ n : Nat, (wordN n).length ≤ n
  | 0 => by rw [wordN_zero]; exact Nat.le_refl 0
  | n + 1 => by
    have ih := wordN_len_le (n / 26)
    rw [wordN_succ, List.length_append, List.length_singleton]
    omega
theorem wordN_len {k n : Nat} (h : n < 26 ^ k) : (wordN n).length ≤ k := by
  induction k generalizing n with
  | zero =>
    have e : n = 0 := by simpa using h
    subst e
    rw [wordN_zero]; exact Nat.le_refl 0
  | succ k ih =>
    cases n with
    | zero => rw [wordN_zero]; exact Nat.zero_le _
    | succ n =>
      rw [wordN_succ, List.length_append, List.length_singleton]
      have := ih (n := n / 26) (by rw [Nat.pow_succ] at h; omega)
      omega
/-! the order of the words -/
theorem lex_app : ∀ {a b : List Nat} (x y : List Nat), a.length = b.length → a < b → a ++ x < b ++ y
  | [], [], _, _, _, h => absurd h (List.lt_irrefl _)
  | [], _ :: _, _, _, e, _ => by cases e
  | _ :: _, [], _, _, e, _ => by cases e
  | c :: a, d :: b, x, y, e, h => by
    rw [List.cons_lt_cons_iff] at h
    rw [List.cons_append, List.cons_append, List.cons_lt_cons_iff]
    rcases h with h | ⟨h, h2⟩
    · exact .inl h
    · exact .inr ⟨h, lex_app x y (by simpa using e) h2⟩
theorem lex_same : ∀ (a : List Nat) {x y : List Nat}, x < y → a ++ x < a ++ y
  | [], _, _, h => h
  | c :: a, x, y, h => by
    rw [List.cons_append, List.cons_append, List.cons_lt_cons_iff]
    exact .inr ⟨rfl, lex_same a h⟩
theorem word_order : ∀ {m n : Nat}, m < n → (wordN m).length ≤ (wordN n).length ∧ ((wordN m).length = (wordN n).length → wordN m < wordN n)
  | _, 0, h => absurd h (Nat.not_lt_zero _)
  | 0, n + 1, _ => by
    rw [wordN_zero, wordN_succ]
    refine ⟨Nat.zero_le _, fun e => ?_⟩
    simp at e
  | m + 1, n + 1, h => by
    rw [wordN_succ, wordN_succ, List.length_append, List.length_append, List.length_singleton, List.length_singleton]
    by_cases hq : m / 26 < n / 26
    · have ih := word_order hq
      refine ⟨by omega, fun e => lex_app _ _ (by omega) (ih.2 (by omega))⟩
    · have e : m / 26 = n / 26 := by omega
      rw [e]
      refine ⟨Nat.le_refl _, fun _ => lex_same _ ?_⟩
      rw [List.cons_lt_cons_iff]
      exact .inl (by omega)
/-! which texts are read -/
def figOk (l : List Nat) : Bool := l.all (fun c => decide (48 ≤ c) && decide (c ≤ 57)) && (!l.isEmpty && (!(l.head? == some 48) || l.length == 1))
def letOk (l : List Nat) : Bool := l == [45] || (!l.isEmpty && l.all (fun c => decide (97 ≤ c) && decide (c ≤ 122)))
theorem all_dig {l : List Nat} : l.all (fun c => decide (48 ≤ c) && decide (c ≤ 57)) = true ↔ ∀ c ∈ l, 48 ≤ c ∧ c ≤ 57 := by
  simp [List.all_eq_true]
theorem all_low {l : List Nat} : l.all (fun c => decide (97 ≤ c) && decide (c ≤ 122)) = true ↔ ∀ c ∈ l, 97 ≤ c ∧ c ≤ 122 := by
  simp [List.all_eq_true]
theorem num_head : ∀ n : Nat, 0 < n → (TL.numL n).head? ≠ some 48
  | n, h => by
    by_cases h10 : n < 10
    · rw [TL.numL_lt h10]
      simp; omega
    · rw [TL.numL_step (by omega)]
      have ih := num_head (n / 10) (by omega)
      cases e : TL.numL (n / 10) with
      | nil => exact absurd e (TL.numL_ne _)
      | cons c r =>
        rw [e] at ih
        simpa using ih
theorem figOk_num (n : Nat) : figOk (TL.numL n) = true := by
  unfold figOk
  have h1 : (TL.numL n).all (fun c => decide (48 ≤ c) && decide (c ≤ 57)) = true := all_dig.mpr fun c hc => TL.numL_digits n c hc
  have h2 : (!(TL.numL n).isEmpty) = true := by
    cases e : TL.numL n with
    | nil => exact absurd e (TL.numL_ne n)
    | cons c r => rfl
  rw [h1, h2, Bool.true_and, Bool.true_and]
  by_cases h0 : n = 0
  · subst h0
    rw [TL.numL_lt (by decide)]
    rfl
  · have q := num_head n (by omega)
    have e : ((TL.numL n).head? == some 48) = false := by simpa using q
    rw [e]
    rfl
theorem letOk_word (n : Nat) : letOk (lettersL n) = true := by
  unfold letOk lettersL
  by_cases h : n = 0
  · rw [if_pos h]
    rfl
  · rw [if_neg h]
    have h1 : (wordN n).all (fun c => decide (97 ≤ c) && decide (c ≤ 122)) = true := all_low.mpr (wordN_low n)
    have h2 : (!(wordN n).isEmpty) = true := by
      cases e : wordN n with
      | nil => exact absurd e (wordN_ne (by omega))
      | cons c r => rfl
    rw [h1, h2]
    simp
/-- the numbers that are read -/
def figVal (l : List Nat) : Nat := NumText.digitsVal l
def letVal (l : List Nat) : Nat := if l = [45] then 0 else wval l
theorem figVal_num (n : Nat) : figVal (TL.numL n) = n := TL.numL_val n
theorem letVal_word (n : Nat) : letVal (lettersL n) = n := by
  unfold letVal lettersL
  by_cases h : n = 0
  · rw [if_pos h, if_pos rfl, h]
  · rw [if_neg h, if_neg, wval_word]
    intro e
    have q := wordN_low n 45 (by rw [e]; simp)
    omega
end Pt
/-! More of texts: joined without a sign between, begun with, stripped. -/
namespace Pt
open PySem PySem.Spec PyProof.Rows L2
open SX (S S_len S_cat)
theorem joinL_nil : ∀ ps : List (List Nat), TL.joinL [] ps = ps.flatten
  | [] => rfl
  | [p] => by simp [TL.joinL]
  | p :: q :: r => by
    have ih := joinL_nil (q :: r)
    show p ++ ([] ++ TL.joinL [] (q :: r)) = (p :: q :: r).flatten
    rw [ih]
    simp
theorem sum_lens (ps : List (List Nat)) : ((ps.map S).map (·.length)).sum = ps.flatten.length := by
  rw [SX.lens, List.length_flatten]
section
variable {X : Cx}
theorem mt_joinE : MtR X "str.join" (fun x xs H Q => ∃ (p : Addr) (ps : List (List Nat)), x = .str (S []) ∧ xs = [.ref p] ∧ SqL X.K H p (ps.map fun l => V.str (S l)) ∧ ps.flatten.length ≤ 1000000 ∧ Q (.str (S ps.flatten)) H) := by
  intro pins s σ H x xs v us Q I rx rs h
  obtain ⟨p, ps, rfl, rfl, hp, hz, q⟩ := h
  refine mt_join pins s σ H _ _ v us Q I rx rs ⟨S [], p, ps.map S, rfl, rfl, .inl (by rw [List.map_map]; exact hp), ?_, ?_⟩
  · rw [sum_lens]
    show _ + _ * 0 ≤ _
    omega
  · rw [SX.join_S, joinL_nil]
    exact q
theorem starts_S (a b : List Nat) : Txt.startswith (S a) (S b) = (a.take b.length == b) := by
  unfold Txt.startswith Builtin.Str.subAt
  rw [S_len, S_len, Nat.zero_add]
  have e : (S a).cps.extract 0 b.length = (a.take b.length).toArray := by simp
  rw [e]
  have e2 : ((a.take b.length).toArray == (S b).cps) = (a.take b.length == b) := by simp
  rw [e2]
  by_cases h : b.length ≤ a.length
  · rw [decide_eq_true h, Bool.true_and]
  · rw [decide_eq_false h, Bool.false_and]
    refine (beq_eq_false_iff_ne.mpr fun q => h ?_).symm
    have q2 := congrArg List.length q
    rw [List.length_take] at q2
    omega
theorem mt_startsS : MtR X "str.startswith" (fun x xs H Q => ∃ a b : List Nat, x = .str (S a) ∧ xs = [.str (S b)] ∧ Q (.bl (a.take b.length == b)) H) := by
  intro pins s σ H x xs v us Q I rx rs h
  obtain ⟨a, b, rfl, rfl, q⟩ := h
  exact mt_startswith pins s σ H _ _ v us Q I rx rs ⟨S a, S b, rfl, rfl, by rw [starts_S]; exact q⟩
theorem tw_all {p : Nat → Bool} : ∀ a : List Nat, (∀ c ∈ a, p c = true) → a.takeWhile p = a
  | [], _ => rfl
  | c :: r, h => by rw [List.takeWhile_cons, if_pos (h c (List.mem_cons_self ..)), tw_all r fun d hd => h d (List.mem_cons_of_mem _ hd)]
/-- what is nothing but signs of y is stripped to nothing -/
theorem strip_all {a y : List Nat} (h : ∀ c ∈ a, c ∈ y) : Txt.stripChars (S a) (S y) = S [] := by
  have g : ∀ c ∈ a, (S y).cps.contains c = true := fun c hc => by simpa using h c hc
  have e1 : (S a).cps.toList.takeWhile (S y).cps.contains = a := by
    show a.takeWhile _ = a
    exact tw_all a g
  have lo : stripLo (S y).cps.contains true (S a) = a.length := by
    unfold stripLo
    rw [if_pos rfl, e1]
  unfold Txt.stripChars Txt.stripBy stripSame stripped
  rw [lo]
  by_cases h0 : a = []
  · subst h0
    split
    · rfl
    · show Builtin.Str.strSub (S []) 0 _ = S []
      unfold Builtin.Str.strSub
      simp
  · have hp : 0 < a.length := List.length_pos_iff.mpr h0
    rw [show (a.length == 0) = false by simpa using h0, Bool.false_and, if_neg Bool.false_ne_true]
    unfold Builtin.Str.strSub
    have e2 : (S a).cps.extract a.length (stripHi (S y).cps.contains true (S a) a.length) = #[] := by
      refine Array.extract_empty_of_size_le_start ?_
      simp
    rw [e2]
def rStripS : V → List V → Hp → VK → Prop := fun x xs H Q => ∃ a y : List Nat, x = .str (S a) ∧ xs = [.str (S y)] ∧ a.length ≤ 1000000 ∧ ∀ b : List Nat, (b = [] ∨ ∃ c ∈ a, c ∉ y) → Q (.str (S b)) H
theorem mt_stripS : MtR X "str.strip" rStripS := by
  intro pins s σ H x xs v us Q I rx rs h
  obtain ⟨a, y, rfl, rfl, hz, q⟩ := h
  refine mt_stripChars pins s σ H _ _ v us Q I rx rs ⟨S a, S y, rfl, rfl, by rw [S_len]; exact size_ok hz, ?_⟩
  have e := SX.S_tl (Txt.stripChars (S a) (S y))
  rw [← e]
  refine q _ ?_
  by_cases g : ∀ c ∈ a, c ∈ y
  · left
    rw [strip_all g]
  · right
    refine Classical.byContradiction fun n => g fun c hc => Classical.byContradiction fun m => n ⟨c, hc, m⟩
end
end Pt
/-! (int, text) <= (int, text) -/
namespace Pt
open PySem PySem.Spec PyProof.Rows L2
def leIS (i j : Int) (a b : List Nat) : Bool := if i = j then (if a = b then true else !decide (b < a)) else decide (i ≤ j)
def rLeIS (K : PySem.W.Frag) : R2 := fun x y H Q => ∃ (p q : Addr) (i j : Int) (a b : List Nat), x = .ref p ∧ y = .ref q ∧ SqT K H p [.int i, .str (SX.S a)] ∧ SqT K H q [.int j, .str (SX.S b)] ∧ Q (.bl (leIS i j a b)) H
theorem rc_str {A : Around} {s : Shared} (a b : Str) (t u : Tok) : Ob.RcOp .LtE A s (.str a t) (.str b u) (!decide (b.cps.toList < a.cps.toList)) := fun prog w E Q h => by
  have z : ∀ x y, compareOp .LtE x y = richCompare .LtE x y := fun _ _ => rfl
  rw [← z]
  exact P.le_str h
theorem op_leIS {X : Cx} (hu : X.A.units < cLine) : OpR X (compareOp .LtE) (rLeIS X.K) := by
  intro pins s σ H x y v u Q J rx ry h
  obtain ⟨p, q, i, j, a, b, rfl, rfl, hp, hq, k⟩ := h
  cases rx
  cases ry
  obtain ⟨its, r1, p1, _⟩ := J.tuple hp
  obtain ⟨its2, r2, p2, _⟩ := J.tuple hq
  obtain ⟨v1, v2, rfl, ⟨t1, rfl⟩, ⟨t2, rfl⟩⟩ := vals2 r1
  obtain ⟨w1, w2, rfl, ⟨t3, rfl⟩, ⟨t4, rfl⟩⟩ := vals2 r2
  have R := Ob.RcOp.tuples_le (A := X.A) (s := s) (e := fun n => if n = 0 then (i == j) else (SX.S a == SX.S b)) (r := fun n => if n = 0 then decide (i ≤ j) else !decide (b < a)) p1 p2 hu
    (fun n h1 h2 => by
      match n, h1 with
      | 0, _ => exact SeqAt.EqAt.int_int _ _ _ _
      | 1, _ => exact SeqAt.EqAt.str_str _ _ _ _
      | n + 2, h1 => exact absurd h1 (by simp))
    (fun n h1 h2 _ => by
      match n, h1 with
      | 0, _ => exact Ob.RcOp.le_int _ _ _ _
      | 1, _ => exact rc_str _ _ _ _
      | n + 2, h1 => exact absurd h1 (by simp))
  have z : ∀ x y, compareOp .LtE x y = richCompare .LtE x y := fun _ _ => rfl
  rw [z]
  refine R X.prog X.w _ _ ?_
  refine ⟨.bl (leIS i j a b), H, J, ?_, k⟩
  show Value.bool _ = Value.bool _
  congr 1
  show (if (i == j) = true then (if (SX.S a == SX.S b) = true then true else !decide (b < a)) else decide (i ≤ j)) = leIS i j a b
  rw [SX.S_beq_eq]
  unfold leIS
  by_cases h1 : i = j
  · rw [if_pos (by simpa using h1), if_pos h1]
    by_cases h2 : a = b
    · rw [if_pos (by simpa using h2), if_pos h2]
    · rw [if_neg (by simpa using h2), if_neg h2]
  · rw [if_neg (by simpa using h1), if_neg h1]
end Pt
/-! zip of two sequences of any kinds: a tuple with a list -/
namespace ZM
open PySem RZ
/-- a kind of sequence and its iterator -/
structure SeqIt (prog : Program) (w : World) where
  S : Heap → Addr → Array Value → Prop
  I : Heap → Addr → Addr → Nat → Prop
  sx : ∀ {h h' : Heap} {a b : Addr} {xs : Array Value}, S h a xs → Heap.ExtBut b h h' → a ≠ b → S h' a xs
  ix : ∀ {h h' : Heap} {a l b : Addr} {k : Nat}, I h a l k → Heap.ExtBut b h h' → a ≠ b → I h' a l k
  ia : ∀ {h h' : Heap} {a l : Addr} {k : Nat}, I h a l k → (∀ o, h.get? a = some o → h'.get? a = some o) → I h' a l k
  is : ∀ {h : Heap} {a l : Addr} {k : Nat}, I h a l k → ∃ o, h.get? a = some o ∧ ∀ v, o.data ≠ .cell v
  item : ∀ {A : Around} {E : Value → Shared → Prop} {s : Shared} {a l : Addr} {k : Nat} {xs : Array Value} {x : Value} {Q : Value → Shared → Prop}, I s.heap a l k → S s.heap l xs → xs[k]? = some x →
    (∀ h', I h' a l (k + 1) → Heap.SameBut a s.heap h' → Q x { s with heap := h' }) → wpAny (model prog w) A (Builtin.SmallTypes.nextOf (.ref a)) Q E s
  fin : ∀ {A : Around} {E : Value → Shared → Prop} {s : Shared} {a l : Addr} {k : Nat} {xs : Array Value} {Q : Value → Shared → Prop}, A.handled = none → I s.heap a l k → S s.heap l xs → xs[k]? = none →
    (∀ h' e, Heap.ExtBut a s.heap h' → (∃ o, h'.get? e = some o ∧ o.cls = .type "StopIteration") → E (.ref e) { s with heap := h' }) → wpAny (model prog w) A (Builtin.SmallTypes.nextOf (.ref a)) Q E s
section
variable {prog : Program} {w : World} {A : Around} {E : Value → Shared → Prop} {s : Shared}
def sTup (prog : Program) (w : World) : SeqIt prog w where
  S := fun h a xs => h.IsTuple a xs
  I := fun h a l k => h.IsTupleIter a l k
  sx := fun h e n => h.extBut e n
  ix := fun h e n => h.extBut e n
  ia := fun h e => h.at e
  is := fun ⟨o, e, _, d⟩ => ⟨o, e, fun v z => by rw [d] at z; cases z⟩
  item := fun h1 h2 h3 h4 => nextOf_tuple_item h1 h2 h3 h4
  fin := fun hh h1 h2 h3 h4 => nextOf_tuple_end hh h1 h2 h3 h4
def sLst (prog : Program) (w : World) : SeqIt prog w where
  S := fun h a xs => h.IsList a xs
  I := fun h a l k => h.IsListIter a l k
  sx := fun h e n => h.extBut e n
  ix := fun h e n => h.extBut e n
  ia := fun h e => h.at e
  is := fun ⟨o, e, _, d⟩ => ⟨o, e, fun v z => by rw [d] at z; cases z⟩
  item := fun h1 h2 h3 h4 => wpAny_nextOf_list_item h1 h2 h3 h4
  fin := fun hh h1 h2 h3 h4 => wpAny_nextOf_list_end hh h1 h2 h3 h4
variable {Ka Kb : SeqIt prog w} {z TI TO i1 i2 l1 l2 : Addr} {k1 k2 : Nat} {xs ys : Array Value}
/-- what the zip's objects are ahead of a turn -/
structure At (Ka Kb : SeqIt prog w) (z TI TO i1 i2 l1 l2 : Addr) (k1 k2 : Nat) (xs ys : Array Value) (h : Heap) : Prop where
  z : IsZip h z TI TO .none
  ti : IsPair h TI (.ref i1) (.ref i2)
  to : ∃ a b, IsPair h TO a b
  i1 : Ka.I h i1 l1 k1
  i2 : Kb.I h i2 l2 k2
  l1 : Ka.S h l1 xs
  l2 : Kb.S h l2 ys
/-- the same but for the zip's own -/
def But (z TO i1 i2 : Addr) (h h' : Heap) : Prop := ∀ c o, c ≠ z → c ≠ TO → c ≠ i1 → c ≠ i2 → h.get? c = some o → h'.get? c = some o
theorem next_item {x y : Value} {Q : Value → Shared → Prop} (D : ZipApart z TI TO i1 i2 l1 l2) (T : At Ka Kb z TI TO i1 i2 l1 l2 k1 k2 xs ys s.heap) (hx : xs[k1]? = some x) (hy : ys[k2]? = some y)
    (hQ : ∀ g, IsZip g z TI TO (rawInt s.heap.objs.size) ∧ IsPair g TO x y ∧ Ka.I g i1 l1 (k1 + 1) ∧ Kb.I g i2 l2 (k2 + 1) ∧ IsPair g s.heap.objs.size x y ∧ g.objs.size = s.heap.objs.size + 1 ∧ But z TO i1 i2 s.heap g → Q (.ref s.heap.objs.size) { s with heap := g }) :
    wpAny (model prog w) A (Builtin.«zip.__next__» ⟨[.ref z], []⟩) (fun r t => ∃ v, r = .done (.ret v) ∧ Q v t) E s := by
  obtain ⟨tz, tti, ⟨a, b, tto⟩, t1, t2, tl1, tl2⟩ := T
  show wpAny _ _ (field (.ref z) 2 >>= _) _ _ _
  refine wpAny_bind (wpAny_field tz rfl (x := .bool false) rfl ?_)
  show wpAny _ _ (field (.ref z) 3 >>= _) _ _ _
  refine wpAny_bind (wpAny_field tz rfl (x := .ref TI) rfl (wpAny_bind (wpAny_seqItems tti rfl ?_)))
  show wpAny _ _ (Builtin.SmallTypes.ownedTupleIsFree (.ref z) >>= _) _ _ _
  refine wpAny_bind ?_
  unfold Builtin.SmallTypes.ownedTupleIsFree
  refine wpAny_bind (wpAny_field tz rfl (x := .none) rfl (wpAny_pure ?_))
  simp only [if_true]
  refine wpAny_bind (wpAny_rule (wpAny_bind (wpAny_field tz rfl (x := .ref TO) rfl ?_)))
  refine wpAny_bind (wpAny_setField_rec tz (by simp) fun g1 gz1 e1 => ?_)
  replace gz1 : IsZip g1 z TI TO .ellipsis := gz1
  refine wpAny_bind ?_
  simp only [List.zipIdx_cons, List.zipIdx_nil, List.forIn_cons, List.forIn_nil]
  -- the first
  refine wpAny_bind (wpAny_bind (wpAny_onRaise ?_))
  show wpAny _ _ (Builtin.SmallTypes.nextOf (.ref i1) >>= _) _ _ _
  refine wpAny_bind (Ka.item (Ka.ix t1 e1.extBut D.i1z) (Ka.sx tl1 e1.extBut D.l1z) hx fun g2 f2 e2 => wpAny_pure ?_)
  have to2 : IsPair g2 TO a b := e2.extBut _ _ D.TOi1 (e1.extBut _ _ D.TOz tto)
  refine wpAny_bind (wpAny_seqItems to2 rfl (wpAny_bind (wpAny_updateSeq_pair to2 fun g3 to3 e3 => ?_)))
  replace to3 : IsPair g3 TO x b := to3
  refine wpAny_bind (wpAny_letGo (wpAny_pure ?_))
  -- the second
  refine wpAny_bind (wpAny_bind (wpAny_onRaise ?_))
  show wpAny _ _ (Builtin.SmallTypes.nextOf (.ref i2) >>= _) _ _ _
  have q2 := Kb.ix (Kb.ix (Kb.ix t2 e1.extBut D.i2z) e2.extBut D.i12.symm) e3.extBut D.TOi2.symm
  have m2 := Kb.sx (Kb.sx (Kb.sx tl2 e1.extBut D.l2z) e2.extBut D.l2i1) e3.extBut D.l2TO
  refine wpAny_bind (Kb.item q2 m2 hy fun g4 f4 e4 => wpAny_pure ?_)
  have to4 : IsPair g4 TO x b := e4.extBut _ _ D.TOi2 to3
  refine wpAny_bind (wpAny_seqItems to4 rfl (wpAny_bind (wpAny_updateSeq_pair to4 fun g5 to5 e5 => ?_)))
  replace to5 : IsPair g5 TO x y := to5
  refine wpAny_bind (wpAny_letGo (wpAny_pure (wpAny_pure ?_)))
  -- handed out
  refine wpAny_bind (wpAny_seqItems to5 rfl (wpAny_bind (wpAny_newTuple ?_)))
  have sz : g5.objs.size = s.heap.objs.size := by rw [e5.1, e4.1, e3.1, e2.1, e1.1]
  have gz5 : IsZip g5 z TI TO .ellipsis := e5.extBut _ _ D.TOz.symm (e4.extBut _ _ D.i2z.symm (e3.extBut _ _ D.TOz.symm (e2.extBut _ _ D.i1z.symm gz1)))
  have but5 : But z TO i1 i2 s.heap g5 := fun c o c1 c2 c3 c4 e => e5.extBut _ _ c2 (e4.extBut _ _ c4 (e3.extBut _ _ c2 (e2.extBut _ _ c3 (e1.extBut _ _ c1 e))))
  have f1 := Ka.ix (Ka.ix (Ka.ix f2 e3.extBut D.TOi1.symm) e4.extBut D.i12) e5.extBut D.TOi1.symm
  have f5 := Kb.ix f4 e5.extBut D.TOi2.symm
  have zl : z < g5.objs.size := Heap.lt_size gz5
  show wpAny _ _ (Builtin.SmallTypes.ownedTupleHandOut (.ref z) (.ref g5.objs.size) >>= _) _ _ _
  refine wpAny_bind ?_
  unfold Builtin.SmallTypes.ownedTupleHandOut
  have gz6 : IsZip (g5.push { cls := .type "tuple", data := .seq #[x, y] }) z TI TO .ellipsis := Heap.get?_push_of_some _ gz5
  refine wpAny_bind (wpAny_setField_rec gz6 (by simp) fun g7 gz7 e7 => ?_)
  replace gz7 : IsZip g7 z TI TO (rawInt g5.objs.size) := gz7
  refine wpAny_setField_rec gz7 (by simp) fun g8 gz8 e8 => ?_
  replace gz8 : IsZip g8 z TI TO (rawInt g5.objs.size) := gz8
  have up : ∀ c o, c ≠ z → g5.get? c = some o → g8.get? c = some o := fun c o c1 e => e8.extBut _ _ c1 (e7.extBut _ _ c1 (Heap.get?_push_of_some _ e))
  have pr : IsPair g8 g5.objs.size x y := e8.extBut _ _ (Nat.ne_of_gt zl) (e7.extBut _ _ (Nat.ne_of_gt zl) (Heap.get?_push_size _ rfl))
  have s8 : g8.objs.size = g5.objs.size + 1 := by rw [e8.1, e7.1, Heap.size_push]
  rw [sz] at gz8 pr s8
  refine wpAny_pure ⟨_, rfl, ?_⟩
  show Q (.ref g5.objs.size) _
  rw [sz]
  exact hQ g8 ⟨gz8, up _ _ D.TOz to5, Ka.ia f1 fun o e => up _ o D.i1z e, Kb.ia f5 fun o e => up _ o D.i2z e, pr, s8, fun c o c1 c2 c3 c4 e => up c o c1 (but5 c o c1 c2 c3 c4 e)⟩
theorem next_end {Q : Fin → Shared → Prop} (hh : A.handled = none) (D : ZipApart z TI TO i1 i2 l1 l2) (T : At Ka Kb z TI TO i1 i2 l1 l2 k1 k2 xs ys s.heap) (hend : xs[k1]? = none ∨ ys[k2]? = none)
    (hE : ∀ g e, But z TO i1 i2 s.heap g → (∃ o, g.get? e = some o ∧ o.cls = .type "StopIteration") → E (.ref e) { s with heap := g }) : wpAny (model prog w) A (Builtin.«zip.__next__» ⟨[.ref z], []⟩) Q E s := by
  obtain ⟨tz, tti, ⟨a, b, tto⟩, t1, t2, tl1, tl2⟩ := T
  show wpAny _ _ (field (.ref z) 2 >>= _) _ _ _
  refine wpAny_bind (wpAny_field tz rfl (x := .bool false) rfl ?_)
  show wpAny _ _ (field (.ref z) 3 >>= _) _ _ _
  refine wpAny_bind (wpAny_field tz rfl (x := .ref TI) rfl (wpAny_bind (wpAny_seqItems tti rfl ?_)))
  show wpAny _ _ (Builtin.SmallTypes.ownedTupleIsFree (.ref z) >>= _) _ _ _
  refine wpAny_bind ?_
  unfold Builtin.SmallTypes.ownedTupleIsFree
  refine wpAny_bind (wpAny_field tz rfl (x := .none) rfl (wpAny_pure ?_))
  simp only [if_true]
  refine wpAny_bind (wpAny_rule (wpAny_bind (wpAny_field tz rfl (x := .ref TO) rfl ?_)))
  refine wpAny_bind (wpAny_setField_rec tz (by simp) fun g1 gz1 e1 => ?_)
  replace gz1 : IsZip g1 z TI TO .ellipsis := gz1
  refine wpAny_bind ?_
  simp only [List.zipIdx_cons, List.zipIdx_nil, List.forIn_cons, List.forIn_nil]
  refine wpAny_bind (wpAny_bind (wpAny_onRaise ?_))
  show wpAny _ _ (Builtin.SmallTypes.nextOf (.ref i1) >>= _) _ _ _
  have p1 := Ka.ix t1 e1.extBut D.i1z
  have n1 := Ka.sx tl1 e1.extBut D.l1z
  -- the StopIteration is handed on
  have out : ∀ (g : Heap) (e : Addr), IsZip g z TI TO .ellipsis → But z TO i1 i2 s.heap g → (∃ o, g.get? e = some o ∧ o.cls = .type "StopIteration") →
      wpAny (model prog w) A (setField (.ref z) 0 .none) (fun _ t => E (.ref e) t) E { s with heap := g } := fun g e gz but he => by
    obtain ⟨o, ho, hc⟩ := he
    have ez : e ≠ z := fun q => by subst q; rw [gz] at ho; cases ho; simp at hc
    exact wpAny_setField_rec gz (by simp) fun g' _ e' => hE g' e (fun c o' c1 c2 c3 c4 q => e'.extBut _ _ c1 (but c o' c1 c2 c3 c4 q)) ⟨o, e'.extBut _ _ ez ho, hc⟩
  cases hx : xs[k1]? with
  | none =>
    refine wpAny_bind (Ka.fin hh p1 n1 hx fun g2 e e2 he => ?_)
    exact out g2 e (e2 _ _ D.i1z.symm gz1) (fun c o c1 _ c3 _ q => e2 _ _ c3 (e1.extBut _ _ c1 q)) he
  | some x =>
    have hy : ys[k2]? = none := hend.resolve_left fun q => by rw [hx] at q; cases q
    refine wpAny_bind (Ka.item p1 n1 hx fun g2 f2 e2 => wpAny_pure ?_)
    have to2 : IsPair g2 TO a b := e2.extBut _ _ D.TOi1 (e1.extBut _ _ D.TOz tto)
    refine wpAny_bind (wpAny_seqItems to2 rfl (wpAny_bind (wpAny_updateSeq_pair to2 fun g3 to3 e3 => ?_)))
    refine wpAny_bind (wpAny_letGo (wpAny_pure (wpAny_bind (wpAny_bind (wpAny_onRaise ?_)))))
    show wpAny _ _ (Builtin.SmallTypes.nextOf (.ref i2) >>= _) _ _ _
    have q2 := Kb.ix (Kb.ix (Kb.ix t2 e1.extBut D.i2z) e2.extBut D.i12.symm) e3.extBut D.TOi2.symm
    have m2 := Kb.sx (Kb.sx (Kb.sx tl2 e1.extBut D.l2z) e2.extBut D.l2i1) e3.extBut D.l2TO
    refine wpAny_bind (Kb.fin hh q2 m2 hy fun g4 e e4 he => ?_)
    exact out g4 e (e4 _ _ D.i2z.symm (e3.extBut _ _ D.TOz.symm (e2.extBut _ _ D.i1z.symm gz1))) (fun c o c1 c2 c3 c4 q => e4 _ _ c4 (e3.extBut _ _ c2 (e2.extBut _ _ c3 (e1.extBut _ _ c1 q)))) he
theorem pyNext_item {x y : Value} {Q : Option Value → Shared → Prop} (D : ZipApart z TI TO i1 i2 l1 l2) (T : At Ka Kb z TI TO i1 i2 l1 l2 k1 k2 xs ys s.heap) (hx : xs[k1]? = some x) (hy : ys[k2]? = some y)
    (hQ : ∀ g, IsZip g z TI TO (rawInt s.heap.objs.size) ∧ IsPair g TO x y ∧ Ka.I g i1 l1 (k1 + 1) ∧ Kb.I g i2 l2 (k2 + 1) ∧ IsPair g s.heap.objs.size x y ∧ g.objs.size = s.heap.objs.size + 1 ∧ But z TO i1 i2 s.heap g → Q (some (.ref s.heap.objs.size)) { s with heap := g }) :
    wpAny (model prog w) A (pyNext (.ref z)) Q E s := by
  have ty : s.TypeIs (.ref z) "zip" := ⟨_, T.z, rfl⟩
  unfold pyNext
  refine wpAny_bind (wpAny_attempt (wpAny_callSpecial?_slot (name := Str.ofString "__next__") ty F.slot_zip_next ?_))
  exact wpAny_call_entry F.slot_zip_next ty F.entry_zip_next (next_item D T hx hy fun g q => wpAny_pure (hQ g q)) (F.args_zip_next_1 _)
theorem pyNext_end {Q : Option Value → Shared → Prop} (hh : A.handled = none) (D : ZipApart z TI TO i1 i2 l1 l2) (T : At Ka Kb z TI TO i1 i2 l1 l2 k1 k2 xs ys s.heap) (hend : xs[k1]? = none ∨ ys[k2]? = none)
    (hQ : ∀ g, But z TO i1 i2 s.heap g → Q none { s with heap := g }) : wpAny (model prog w) A (pyNext (.ref z)) Q E s := by
  have ty : s.TypeIs (.ref z) "zip" := ⟨_, T.z, rfl⟩
  unfold pyNext
  refine wpAny_bind (wpAny_attempt (wpAny_callSpecial?_slot (name := Str.ofString "__next__") ty F.slot_zip_next ?_))
  refine wpAny_call_entry F.slot_zip_next ty F.entry_zip_next (next_end hh D T hend fun g e but he => ?_) (F.args_zip_next_1 _)
  obtain ⟨o, ho, hc⟩ := he
  exact wpAny_bind (wpAny_isInstance (T := "StopIteration") (b := true) ⟨o, ho, hc⟩ isSubtype_stop (wpAny_pure (hQ _ but)))
end
/-! zip(t, l): its objects -/
abbrev zg1 (h : Heap) (a : Addr) : Heap := h.push { cls := .type "tuple_iterator", data := .fields #[.ref a, .int 0 0] }
abbrev zg2 (h : Heap) (a b : Addr) : Heap := (zg1 h a).push { cls := .type "list_iterator", data := .fields #[.ref b, .int 0 0] }
abbrev zg3 (h : Heap) (a b : Addr) : Heap := (zg2 h a b).push { cls := .type "tuple", data := .seq #[.ref h.objs.size, .ref (zg1 h a).objs.size] }
abbrev zg4 (h : Heap) (a b : Addr) : Heap := (zg3 h a b).push { cls := .type "tuple", data := .seq #[.none, .none] }
abbrev zg5 (h : Heap) (a b : Addr) : Heap := (zg4 h a b).push { cls := .type "zip", data := .fields #[.none, .bool false, .bool false, .ref (zg2 h a b).objs.size, .ref (zg3 h a b).objs.size] }
theorem meets_new (a b : Addr) (xs ys : Array Value) :
    Meets (Builtin.«zip.__new__» ⟨[.type "zip", .ref a, .ref b], []⟩) (fun _ R s => s.heap.IsTuple a xs ∧ s.heap.IsList b ys ∧ R (.ok (.ret (.ref (zg4 s.heap a b).objs.size))) { s with heap := zg5 s.heap a b }) :=
  .of_wp fun prog w A R s h => by
    obtain ⟨hp, g, d, tk, os⟩ := s; obtain ⟨ha, hb, h⟩ := h
    have hsub := sub_zip
    have tA : Heap.IsTuple (Shared.heap ⟨hp, g, d, tk, os⟩) a xs := ha
    have tB : Heap.IsList (Shared.heap ⟨hp.push { cls := .type "tuple_iterator", data := .fields #[.ref a, .int 0 0] }, g, d, tk, os⟩) b ys := Heap.IsList.push hb _
    wp_walk using wpAny_pyIter_tuple tA, wpAny_pyIter_list tB
    exact ⟨_, rfl, h⟩
theorem call_zip {prog : Program} {w : World} {A : Around} {E : Value → Shared → Prop} {s : Shared} {a b : Addr} {xs ys : Array Value} {Q : Value → Shared → Prop} (ha : s.heap.IsTuple a xs) (hb : s.heap.IsList b ys)
    (h : ∀ g, At (sTup prog w) (sLst prog w) (s.heap.objs.size + 4) (s.heap.objs.size + 2) (s.heap.objs.size + 3) s.heap.objs.size (s.heap.objs.size + 1) a b 0 0 xs ys g → (∀ c o, s.heap.get? c = some o → g.get? c = some o) → Q (.ref (s.heap.objs.size + 4)) { s with heap := g }) :
    wpAny (model prog w) A (call (.type "zip") [.ref a, .ref b]) Q E s := by
  refine callType_new F.called_zip (by decide) (F.typeCall_zip_2 _ _) (F.newCall_zip_2 _ _) (fun obj => F.args_object_init_3 obj _ _) F.entry_zip_new (meets_new a b xs ys) ⟨ha, hb, ?_⟩
  have z1 : (zg1 s.heap a).objs.size = s.heap.objs.size + 1 := Heap.size_push ..
  have z2 : (zg2 s.heap a b).objs.size = s.heap.objs.size + 2 := by rw [Heap.size_push, z1]
  have z3 : (zg3 s.heap a b).objs.size = s.heap.objs.size + 3 := by rw [Heap.size_push, z2]
  have z4 : (zg4 s.heap a b).objs.size = s.heap.objs.size + 4 := by rw [Heap.size_push, z3]
  have p : ∀ {g : Heap} {c : Addr} {o o' : Obj}, g.get? c = some o → (g.push o').get? c = some o := fun e => Heap.get?_push_of_some _ e
  have y5 : (zg5 s.heap a b).get? (zg4 s.heap a b).objs.size = some _ := Heap.get?_push_size _ rfl
  have y4 : (zg5 s.heap a b).get? (zg3 s.heap a b).objs.size = some _ := p (Heap.get?_push_size _ rfl)
  have y3 : (zg5 s.heap a b).get? (zg2 s.heap a b).objs.size = some _ := p (p (Heap.get?_push_size _ rfl))
  have y2 : (zg5 s.heap a b).get? (zg1 s.heap a).objs.size = some _ := p (p (p (Heap.get?_push_size _ rfl)))
  have y1 : (zg5 s.heap a b).get? s.heap.objs.size = some _ := p (p (p (p (Heap.get?_push_size _ rfl))))
  have kp : ∀ c o, s.heap.get? c = some o → (zg5 s.heap a b).get? c = some o := fun c o e => p (p (p (p (p e))))
  show _ ∧ _
  rw [z2, z3, z4] at y5
  rw [z1, z2] at y3
  rw [z3] at y4
  rw [z1] at y2
  rw [z4]
  obtain ⟨oa, ea, ra⟩ := id ha
  obtain ⟨ob, eb, rb⟩ := id hb
  exact ⟨⟨_, y5, rfl⟩, h _ ⟨y5, y3, ⟨_, _, y4⟩, ⟨_, y1, rfl, rfl⟩, ⟨_, y2, rfl, rfl⟩, ⟨oa, kp _ _ ea, ra⟩, ⟨ob, kp _ _ eb, rb⟩⟩ kp⟩
end ZM
namespace L2
open PySem PySem.Spec PyProof.Rows ZM RZ
/-- the tuple at a and the list at b as they stand at each turn, the items in new pairs -/
def ItzM (K : PySem.W.Frag) (a b : Addr) : It where
  go := fun i H => ∃ (xs ys : List V) (x y : V), SqT K H a xs ∧ SqL K H b ys ∧ xs[i]? = some x ∧ ys[i]? = some y
  yld := fun i H v H' => ∃ T x y, v = .ref T ∧ H T = none ∧ H' = upd H T (.tup [x, y]) ∧ (∀ xs, SqT K H a xs → xs[i]? = some x) ∧ ∀ ys, SqL K H b ys → ys[i]? = some y
  stop := fun i H => ∃ xs ys : List V, SqT K H a xs ∧ SqL K H b ys ∧ (xs.length ≤ i ∨ ys.length ≤ i)
/-- the objects at i, but for the sequences -/
def AtM (P : Program) (w : World) (z TI TO i1 i2 a b : Addr) (i : Nat) (h : Heap) : Prop := IsZip h z TI TO .none ∧ IsPair h TI (.ref i1) (.ref i2) ∧ (∃ x y, IsPair h TO x y) ∧ (sTup P w).I h i1 a i ∧ (sLst P w).I h i2 b i
theorem turn_zipM {P : Program} {w : World} {K : PySem.W.Frag} {elts : List Expr} {kk : Nat} {tpos : Pos} {a b z TI TO i1 i2 : Addr} (D : ZipApart z TI TO i1 i2 a b) :
    Turn P w K (.Tuple elts kk tpos) (ItzM K a b) [z, TI, TO, i1, i2] z (AtM P w z TI TO i1 i2 a b) where
  mem := List.mem_cons_self
  obj := fun i h st c hc => by
    obtain ⟨hz, hTI, ⟨x, y, hTO⟩, h1, h2⟩ := st
    have five : c = z ∨ c = TI ∨ c = TO ∨ c = i1 ∨ c = i2 := by simpa using hc
    rcases five with rfl | rfl | rfl | rfl | rfl
    · exact ⟨_, hz, fun v q => nomatch q⟩
    · exact ⟨_, hTI, fun v q => nomatch q⟩
    · exact ⟨_, hTO, fun v q => nomatch q⟩
    · exact (sTup P w).is h1
    · exact (sLst P w).is h2
  keep := fun i h h' st k => by
    obtain ⟨hz, hTI, ⟨x, y, hTO⟩, h1, h2⟩ := st
    exact ⟨k z (by simp) _ hz, k TI (by simp) _ hTI, ⟨x, y, k TO (by simp) _ hTO⟩, (sTup P w).ia h1 fun o q => k i1 (by simp) o q, (sLst P w).ia h2 fun o q => k i2 (by simp) o q⟩
  item := by
    intro X hP hw hK hc i pins s σ H E J hf st hg
    subst hP hw hK
    obtain ⟨hz, hTI, hTO, h1, h2⟩ := st
    obtain ⟨xs, ys, x, y, qx, qy, ex, ey⟩ := hg
    obtain ⟨us, rv, p, _⟩ := J.tuple qx
    obtain ⟨us2, rv2, p2, _⟩ := J.list qy
    obtain ⟨u, hu, ru⟩ := rv.get ex
    obtain ⟨u2, hu2, ru2⟩ := rv2.get ey
    have zl : z < s.heap.objs.size := Heap.lt_size hz
    refine pyNext_item (Ka := sTup X.prog X.w) (Kb := sLst X.prog X.w) D ⟨hz, hTI, hTO, h1, h2, p, p2.isList⟩ (x := u) (y := u2) (by simpa using hu) (by simpa using hu2) fun g ⟨gz, gTO, g1, g2, gT, gs, but⟩ => ?_
    refine ⟨_, rfl, wpAny_letOwnedTupleGo_zip (s := { s with heap := g }) gz fun g' gz' sb => ?_⟩
    have gT' : g'.get? s.heap.objs.size = some { cls := .type "tuple", data := .seq #[u, u2] } := (sb.2 _ (Nat.ne_of_gt zl)).trans gT
    have new : ObjOk X.prog X.w (upd H s.heap.objs.size (.tup [x, y])) g' s.heap.objs.size (.tup [x, y]) := ⟨(by show 2 ≤ sizeLine; decide), [u, u2], .cons ru (.cons ru2 .nil), ⟨_, gT', rfl, _, rfl⟩⟩
    have J1 : Inv X pins σ (upd H s.heap.objs.size (.tup [x, y])) { s with heap := g' } :=
      J.turnedNew (t' := s.toks) (ch := [z, TI, TO, i1, i2]) (fun c o hb q => (sb.2 c fun r => hb (by simp [r])).trans (but c o (fun r => hb (by simp [r])) (fun r => hb (by simp [r])) (fun r => hb (by simp [r])) (fun r => hb (by simp [r])) q)) hf (Nat.le_refl _) new
    refine ⟨.ref s.heap.objs.size, _, J1, rfl, ⟨_, x, y, rfl, J.hok.fresh (Nat.le_refl _), rfl, fun l hl => by rw [J.tuple_inj hl qx]; exact ex, fun l hl => by rw [J.list_inj hl qy]; exact ey⟩, ⟨gz', ?_, ⟨u, u2, ?_⟩, ?_, ?_⟩, fun c hcm => ?_⟩
    · exact (sb.2 _ D.TIz).trans (but _ _ D.TIz D.TITO D.TIi1 D.TIi2 hTI)
    · exact (sb.2 _ D.TOz).trans gTO
    · exact (sTup X.prog X.w).ia g1 fun o q => (sb.2 _ D.i1z).trans q
    · exact (sLst X.prog X.w).ia g2 fun o q => (sb.2 _ D.i2z).trans q
    · have hlt : c < s.heap.objs.size := by
        obtain ⟨x0, y0, hTO⟩ := hTO
        have five : c = z ∨ c = TI ∨ c = TO ∨ c = i1 ∨ c = i2 := by simpa using hcm
        rcases five with q | q | q | q | q
        · rw [q]; exact zl
        · rw [q]; exact Heap.lt_size hTI
        · rw [q]; exact Heap.lt_size hTO
        · rw [q]; obtain ⟨_, e1, _⟩ := (sTup X.prog X.w).is h1; exact Heap.lt_size e1
        · rw [q]; obtain ⟨_, e2, _⟩ := (sLst X.prog X.w).is h2; exact Heap.lt_size e2
      rw [upd_ne (Nat.ne_of_lt hlt)]
      exact (hf c hcm).1
  done := by
    intro X hP hw hK hc i pins s σ H E J hf st hg
    subst hP hw hK
    obtain ⟨hz, hTI, hTO, h1, h2⟩ := st
    obtain ⟨xs, ys, qx, qy, hend⟩ := hg
    obtain ⟨us, rv, p, _⟩ := J.tuple qx
    obtain ⟨us2, rv2, p2, _⟩ := J.list qy
    have n1 := rv.length
    have n2 := rv2.length
    have he : us.toArray[i]? = none ∨ us2.toArray[i]? = none := hend.imp (fun q => by simp; omega) fun q => by simp; omega
    exact pyNext_end (Ka := sTup X.prog X.w) (Kb := sLst X.prog X.w) (J.ok.hd hc) D ⟨hz, hTI, hTO, h1, h2, p, p2.isList⟩ he fun g but => ⟨rfl, J.turnedL (t' := s.toks) (ch := [z, TI, TO, i1, i2]) (fun c o hb q =>
      but c o (fun r => hb (by simp [r])) (fun r => hb (by simp [r])) (fun r => hb (by simp [r])) (fun r => hb (by simp [r])) q) hf⟩
  self := fun A i s Q E st h => wpAny_pyIter_zip st.1 h
/-- zip(t, l) -/
def iZipM (K : PySem.W.Frag) (ta : TA) : TI := fun σ H R => ta σ H fun vs H1 => ∃ a b xs ys, vs = [.ref a, .ref b] ∧ SqT K H1 a xs ∧ SqL K H1 b ys ∧ R (ItzM K a b) H1
theorem pi_zipM {X : Cx} {e e2 : Expr} {ta : TA} {p pos tpos : Pos} {elts : List Expr} {kk : Nat} (hg : Gl X "zip") (hm : X.mg "zip" = none) (ha : PA X [e, e2] ta)
    (hs : starEach [e, e2] X.env = (false, eval e X.env) :: starEach [e2] X.env := by rfl) (hpl : (backTo pos (starEach [e2] X.env)).any (·.1) = false := by rfl) :
    PI X (.Tuple elts kk tpos) (.Call (.Name "zip" p) [e, e2] [] pos) (iZipM X.K ta) := by
  refine ⟨fun pins s σ H R J h => ?_⟩
  refine Call_ (ld_blt J hg hm boot_zip (callWith_type1 (thn (ha.run pos pins s σ H _ J h) fun us s1 ⟨vs, H1, J1, r1, q1⟩ => ?_) hs hpl))
  obtain ⟨a, b, xs, ys, rfl, qx, qy, q⟩ := q1
  obtain ⟨ua, ub, rfl, ra, rb⟩ := vals2 r1
  cases ra
  cases rb
  have n5 : ∀ c, c ∈ [s1.heap.objs.size + 4, s1.heap.objs.size + 2, s1.heap.objs.size + 3, s1.heap.objs.size, s1.heap.objs.size + 1] → FpOk X pins H1 c := fun c hcm => by
    have five : c = s1.heap.objs.size + 4 ∨ c = s1.heap.objs.size + 2 ∨ c = s1.heap.objs.size + 3 ∨ c = s1.heap.objs.size ∨ c = s1.heap.objs.size + 1 := by simpa using hcm
    have le : s1.heap.objs.size ≤ c := by
      rcases five with z | z | z | z | z
      · rw [z]; exact Nat.le_add_right _ _
      · rw [z]; exact Nat.le_add_right _ _
      · rw [z]; exact Nat.le_add_right _ _
      · rw [z]; exact Nat.le_refl _
      · rw [z]; exact Nat.le_add_right _ _
    exact J1.fpOk le (J1.hok.fresh le)
  obtain ⟨us, rv, p1, _⟩ := J1.tuple qx
  obtain ⟨us2, rv2, p2, _⟩ := J1.list qy
  obtain ⟨o1, ho1, _⟩ := id p1
  refine ZM.call_zip (show s1.heap.IsTuple a us.toArray from p1) p2.isList fun g T hk => wpAny_pyIter_zip T.z ?_
  have J2 : Inv X pins σ H1 { s1 with heap := g } := J1.kept (t' := s1.toks) hk
  exact ⟨s1.heap.objs.size + 4, [s1.heap.objs.size + 4, s1.heap.objs.size + 2, s1.heap.objs.size + 3, s1.heap.objs.size, s1.heap.objs.size + 1], _, _, H1, rfl, J2, turn_zipM (PySem.W.ktu_apart s1.heap.objs.size a b (Heap.lt_size ho1) p2.lt), ⟨T.z, T.ti, T.to, T.i1, T.i2⟩, n5, q⟩
/-- a loop over zip(t, l), t as long as the loop -/
theorem for_zipM {K : PySem.W.Frag} {a b : Addr} {xs ys : List V} {g : TG} {tb : TS} {D : Ends} {σ : L2.St} {H : Hp} (hl : xs.length ≤ ys.length) (Pv : Nat → L2.St → Hp → Prop) (h0 : Pv 0 σ H) (hq : ∀ i σ H, Pv i σ H → SqT K H a xs ∧ SqL K H b ys)
    (hs : ∀ (i : Nat) (x y : V) (T : Addr) (σ : L2.St) (H : Hp), xs[i]? = some x → ys[i]? = some y → Pv i σ H → H T = none → g (.ref T) σ (upd H T (.tup [x, y])) fun σ2 H2 => tb { D with nx := Pv (i + 1), ct := Pv (i + 1), bk := D.nx } σ2 H2) (hd : ∀ σ H, Pv xs.length σ H → D.nx σ H) :
    ∃ W : Nat → Nat → L2.St → Hp → Prop, (∃ m, W 0 m σ H) ∧ ∀ i m σ H, W i m σ H →
      ((ItzM K a b).stop i H ∧ D.nx σ H) ∨ ((ItzM K a b).go i H ∧ ∃ N : L2.St → Hp → Prop, (∀ σ' H', N σ' H' → ∃ m', m' < m ∧ W (i + 1) m' σ' H') ∧ ∀ v H', (ItzM K a b).yld i H v H' → g v σ H' fun σ2 H2 => tb { D with nx := N, ct := N, bk := D.nx } σ2 H2) := by
  refine ⟨fun i m σ H => m = xs.length - i ∧ i ≤ xs.length ∧ Pv i σ H, ⟨xs.length, rfl, Nat.zero_le _, h0⟩, ?_⟩
  rintro i m σ H ⟨rfl, hi, p⟩
  obtain ⟨qx, qy⟩ := hq i σ H p
  by_cases hlt : i < xs.length
  · have hx : xs[i]? = some xs[i] := List.getElem?_eq_getElem hlt
    have hy : ys[i]? = some (ys[i]'(by omega)) := List.getElem?_eq_getElem (by omega)
    refine .inr ⟨⟨xs, ys, _, _, qx, qy, hx, hy⟩, Pv (i + 1), fun σ' H' p' => ⟨xs.length - (i + 1), by omega, rfl, hlt, p'⟩, fun v H' yy => ?_⟩
    obtain ⟨T, x', y', rfl, hT, rfl, f1, f2⟩ := yy
    exact hs i x' y' T σ H (f1 xs qx) (f2 ys qy) p hT
  · have e : i = xs.length := by omega
    subst e
    exact .inl ⟨⟨xs, ys, qx, qy, Or.inl (Nat.le_refl _)⟩, hd σ H p⟩
end L2
/-! comprehensions whose step may raise: a def called in the step hands its error on, out of the comprehension -/
namespace L2
open PySem PySem.Spec PyProof.Rows
/-- behind a comprehension: its names at C, its frame fr -/
def cPost (M : Model) (A : Around) (E Q : Value → Shared → Prop) (acc : Value) (C : Addr) (fr : Option Addr) : Result → Shared → Prop := fun r t => match r with
  | .ok _ => ∃ m, t.heap.Ns C m ∧ ∀ g, Heap.SameBut C t.heap g → Q acc { t with heap := g }
  | .error x => ∃ m, t.heap.Ns C m ∧ ∀ g, Heap.SameBut C t.heap g → ∀ cenv : Env, cenv.locals = C → cenv.frame = fr → wpAny M A (PySem.passOn "comprehension.variables-let-go" x cenv : Sem Value) (fun _ _ => False) E { t with heap := g }
theorem comp_enter {M : Model} {A : Around} {E : Value → Shared → Prop} {s : Shared} {env : Env} {e : Expr} {scope : Scope} {pos : Pos} {newAcc first : Sem Value} {g : Comprehension} {gs : List Comprehension} {cl : List (Str × Addr)} {Q : Value → Shared → Prop}
    (hcl : clausesOf e = g :: gs) (hs : ∀ x, foldedSetIterable g.iter env x = pure x) (hclos : closureFor scope env = pure cl) (hk : scope.kind = .function) (hn : ∀ x ∈ scope.names, x.2 = .local → scope.names.lookup x.1 = some .local)
    (h : wpAny M A first (fun x t1 => wpAny M A (pyIter x) (fun it t2 => wpAny M A newAcc (fun acc t3 => wpAny M A (newFunctionEnv scope env.globals cl [] env.qual none .none (some env)) (fun cenv t4 =>
      codeAny M A (.compStart e 0 it acc { cenv with scope := relabel scope env }) (cPost M A E Q acc cenv.locals cenv.frame) t4) E t3) E t2) E t1) E s) :
    wpAny M A (comprehension e scope env pos newAcc false first none) Q E s := by
  unfold comprehension
  rw [hclos, hcl]
  refine wpAny_bind (thn h fun x t1 h1 => wpAny_bind (wpAny_standAt (wpAny_bind (wpAny_of_eq (hs x) (wpAny_bind (wpAny_holding (thn h1 fun it t2 h2 => ?_)))))))
  refine wpAny_standIf (wpAny_bind (thn h2 fun acc t3 h3 => wpAny_bind (wpAny_pure (wpAny_bind (thn h3 fun cenv t4 h4 => ?_)))))
  dsimp only
  have loc : ∀ x ∈ (scope.names.filter fun x => (x.2 == .local || x.2 == .cell) && x.1 != (".0" : Str)).reverse, x.2 = .local → Env.kindOf { cenv with scope := relabel scope env } x.1 = some .local := fun x hx hl =>
    lookup_relabel_local (hn x (List.mem_filter.mp (List.mem_reverse.mp hx)).1 hl)
  refine wpAny_holding (wpAny_bind (wpAny_attempt (wpAny_holding (wpAny_run (codeAny_mono h4 fun r t hr => ?_)))))
  cases r with
  | ok f =>
    obtain ⟨m, hm, q⟩ := hr
    exact wpAny_bind (wpAny_holding (wpAny_comp_letGo (cenv := { cenv with scope := relabel scope env }) hk _ t m loc hm fun g _ _ sb => wpAny_pure (q g sb)))
  | error x =>
    obtain ⟨m, hm, q⟩ := hr
    exact wpAny_bind (wpAny_holding (wpAny_comp_letGo (cenv := { cenv with scope := relabel scope env }) hk _ t m loc hm fun g _ _ sb => wpAny_mono (q g sb _ rfl rfl) (fun _ _ z => z.elim) fun _ _ z => z))
theorem ff_but {h g base : Heap} {C : Addr} (hk : ∀ b, b ≠ C → g.get? b = h.get? b) : ∀ {l : List Env}, C ∉ frs l → h.FunFrames base l → g.FunFrames base l
  | [], _, _ => trivial
  | env :: l, hc, ⟨a, ⟨L, o, hf, hb, ho, hd⟩, r⟩ =>
    have nm : ∀ b, b ∈ frs (env :: l) → b ≠ C := fun b hb e => hc (e ▸ hb)
    ⟨a, ⟨L, o, hf, hb, (hk L (nm L (List.mem_filterMap.mpr ⟨env, List.mem_cons_self, hf⟩))).trans ho, hd⟩, ff_but hk (fun z => by
      obtain ⟨e, he, q⟩ := List.mem_filterMap.mp z
      exact hc (List.mem_filterMap.mpr ⟨e, List.mem_cons_of_mem _ he, q⟩)) r⟩
section
variable {X : Cx} {pins : List (Addr × Obj)} {σ : St}
/-- the wish about exceptions put in -/
theorem Inv.xeIn {H : Hp} {s : Shared} (z : Value → Shared → Prop) (I : Inv X pins σ H s) : Inv (X.tr X.pn z) pins σ H s := ⟨I.ok.toTry _ _, I.os, I.bare, I.base, I.loc, I.cell, I.free, I.freeC, I.pin, I.hok, I.len⟩
theorem Inv.xeOut {H : Hp} {s : Shared} {z : Value → Shared → Prop} (I : Inv (X.tr X.pn z) pins σ H s) : Inv X pins σ H s := ⟨I.ok.ofTry, I.os, I.bare, I.base, I.loc, I.cell, I.free, I.freeC, I.pin, I.hok, I.len⟩
/-- an error that a call in the block lets out is in the def's air -/
theorem blk_out {W : WX} (tk : Takes X W) (hst : X.stack = X.env :: X.outer) (hfr : X.env.frame = some X.env.locals) {H3 : Hp} {s3 : Shared} {scope : Scope} {ce : Env} {fp : List Addr} (I3 : Inv X pins σ H3 s3) (cL : ce.locals = s3.heap.objs.size)
    (cF : ce.frame = X.env.frame) (f3 : ∀ b ∈ fp, FpOk X pins H3 b ∧ b < s3.heap.objs.size) {p2 : List (Addr × Obj)} {σ2 : St} {H4 : Hp} {s4 s' : Shared} {u : Value} {Q : Value → Shared → Prop} {acc : Value}
    (J : Inv (X.blk s3 H3 scope ce fp) p2 σ2 H4 s4) (c : CX X.prog X.w X.stack H4 s4 (WE W σ) u s') : notedBy (model X.prog X.w) X.A ce (fun e t => cPost (model X.prog X.w) X.A X.xe Q acc s3.heap.objs.size ce.frame (.error e) t) u s' := by
  have x := XE.of_call (X := X.blk s3 H3 scope ce fp) (W := fun cls d _ H => WE W σ cls d H) J (fun _ _ _ h => h) c
  obtain ⟨a0, B0, H0, cls0, d0, rfl, fl0, -⟩ := c
  obtain ⟨a, B, sI, p1, σ1, H1, cls, d, e1, I1, nb, up, sky, na, os, ag, w⟩ := x
  obtain rfl : a0 = a := by injection e1
  have fl : HandSPX.FlyingZ B (X.env :: X.outer) a0 (Zc cls d) s'.heap := by
    obtain ⟨_, _, _, oe, vs, T, oT, ts, he, _, hd, h1, _, _, hT, hdT, h3⟩ := fl0
    have sky : Sky B X.stack a0 (Zc cls d) ce.locals s'.heap := sky
    rw [hst] at sky
    rcases sky with ⟨_, _, _, oe', vs', he', _, hd', h1'⟩ | fl | ⟨_, _, _, oe', vs', T', oT', ts', he', _, hd', h1', _, _, hT', hdT', h3'⟩
    · rw [he] at he'; cases he'
      rw [hd] at hd'; cases hd'
      rw [h1] at h1'; cases h1'
    · exact fl
    · rw [he] at he'; cases he'
      rw [hd] at hd'; cases hd'
      rw [h1] at h1'; cases h1'
      rw [hT] at hT'; cases hT'
      rw [hdT] at hdT'; cases hdT'
      rw [h3] at h3'
      exact absurd (Option.some.inj h3') (by simp [rawInt])
  have I7 : Inv X pins σ H1 sI := I3.call' (ch := fp) I1.os I1.base I1.hok I1.bare fun b hb => ⟨(f3 b hb).1.2.2.2.1, (f3 b hb).1.2.1, (f3 b hb).1.2.2.2.2.1, (f3 b hb).1.2.2.2.2.2⟩
  generalize hCd : s3.heap.objs.size = C at cL ⊢
  have nC : H1 C = none := by
    have z : H1 ce.locals = none := I1.free
    rw [cL] at z
    exact z
  obtain ⟨m, hm, _⟩ := I1.loc
  have hm : sI.heap.Ns ce.locals m := hm
  rw [cL] at hm
  obtain ⟨oC, es, ep, hC, hCd2, rest⟩ := hm
  have nst : C ∉ frs X.stack := fun z => by
    obtain ⟨_, o, e, _⟩ := I3.stack.mem z
    have := Heap.lt_size e
    rw [hCd] at this
    exact Nat.lt_irrefl _ this
  have bC : B.get? C = some oC := nb C oC hC nst
  have en : noteFrame (.ref a0) ce = noteFrame (.ref a0) X.env := by
    unfold noteFrame PySem.frameOf
    rw [cF]
  have hA : X.A.frames = some (X.env :: X.outer) := I3.ok.frames.trans (congrArg some hst)
  unfold notedBy
  rw [en]
  refine HandSPX.looks_onZ Zc.steady hA hfr fl fun h' held up' => ?_
  obtain ⟨k1, k2, k3, k4⟩ := held
  refine ⟨m, ⟨oC, es, ep, k1 C oC bC, hCd2, rest⟩, fun g sb cenv hl hf => ?_⟩
  obtain ⟨oe, vs, T, oT, ts, he, hz, hd, h1, hnT, hTe, hT, hdT, h3⟩ := k4
  have cC := k1 C oC bC
  have nea : a0 ≠ C := fun z => by rw [z, cC] at he; cases he; rw [hCd2] at hd; cases hd
  have neT : T ≠ C := fun z => by rw [z, cC] at hT; cases hT; rw [hCd2] at hdT; cases hdT
  have hid : ∀ {B : Heap} {b : Addr} {o : Obj}, (PySem.W.hideAll B [C]).get? b = some o → b ≠ C ∧ B.get? b = some o := fun {B b o} e => by
    refine ⟨fun z => ?_, PySem.W.of_hideAll _ e⟩
    have q : (PySem.W.hideAll B [C]).get? b = none := PySem.W.hideAll_none [C] (by rw [z]; exact List.mem_singleton.mpr rfl)
    rw [q] at e
    cases e
  have hno : ∀ {b : Addr}, B.get? b = none → (PySem.W.hideAll B [C]).get? b = none := fun {b} e => by
    cases q : (PySem.W.hideAll B [C]).get? b with
    | none => rfl
    | some o => rw [(hid q).2] at e; cases e
  have held2 : HandSPX.HeldZ (PySem.W.hideAll B [C]) (X.env :: X.outer) a0 (Zc cls d) X.env.locals g := by
    refine ⟨fun b o e => (sb.2 b (hid e).1).trans (k1 b o (hid e).2), hno k2, ?_, ⟨oe, vs, T, oT, ts, (sb.2 a0 nea).trans he, hz, hd, h1, hno hnT, hTe, (sb.2 T neT).trans hT, hdT, h3⟩⟩
    have k3' : h'.FunFrames (PySem.W.hideAll B [C]) (X.env :: X.outer) := funFrames_none k3 fun L hL => hno (k3.mem hL).1
    exact ff_but (fun b hb => sb.2 b hb) (by rw [← hst]; exact nst) k3'
  have hf2 : cenv.frame = some X.env.locals := hf.trans (cF.trans hfr)
  unfold PySem.passOn
  refine wpAny_bind (wpAny_field ((sb.2 a0 nea).trans he) hd h1 ?_)
  rw [if_neg (show ¬ ((Value.ref T == Value.none) = true) from by simp)]
  rw [hf2]
  refine wpAny_bind (HandSPX.setFlight_onZ held2 fun h3 hd3 up3 => wpAny_throw (tk _ _ ?_))
  obtain ⟨f0, f1, f2, f4, f5, f6⟩ := I3.fpOk (H' := H1) (b := C) (Nat.le_of_eq hCd) nC
  have I8 : Inv X pins σ H1 { sI with heap := PySem.W.hideAll sI.heap [C], toks := sI.toks } := I7.turned (fun b o hb e => PySem.W.hideAll_get [C] e fun z => hb (List.mem_singleton.mp z)) f0 f1 f4 f5 f6
  refine ⟨a0, PySem.W.hideAll B [C], _, pins, σ, H1, cls, d, rfl, I8, fun b o e hb => ?_, fun b o e hnf => ?_, .inr (.inr (by rw [hst]; exact hd3)), na, os, ag, w⟩
  · exact PySem.W.hideAll_get [C] (nb b o (hid e).2 hb) fun z => (hid e).1 (List.mem_singleton.mp z)
  · obtain ⟨sl, e2⟩ := up b o (hid e).2 hnf
    obtain ⟨sl2, e3⟩ := up' b _ e2 hnf
    obtain ⟨sl3, e4⟩ := up3 b _ ((sb.2 b (hid e).1).trans e3) hnf
    exact ⟨sl3, e4⟩
end
section
variable {X : Cx}
/-- the block's context with a wish about exceptions -/
abbrev Cx.blkX (X : Cx) (s : Shared) (H : Hp) (scope : Scope) (ce : Env) (fp : List Addr) (z : Value → Shared → Prop) : Cx := (X.blk s H scope ce fp).tr [] z

def tLcX (W : WX) (wi : TI) (g : TG) (tt : TT) (te : XK → TE) (vs : List Nat) : TE := fun σ H Q => wi σ H fun J H1 => ∀ D, H1 D = none → ∃ V : Nat → Nat → Hp → Prop, (∃ m, V 0 m (upd H1 D (.lst []))) ∧ ∀ i m H, V i m H →
  (J.stop i H ∧ Q (.ref D) H) ∨ (J.go i H ∧ ∃ Nx : Hp → Prop, (∀ H', Nx H' → ∃ m', m' < m ∧ V (i + 1) m' H') ∧ ∀ x H', J.yld i H x H' → g x (wipe σ vs) H' fun σ2 H2 => wipe σ2 vs = wipe σ vs ∧ tt σ2 H2 fun b H3 =>
    if b = true then te (WE W σ) σ2 H3 fun y H4 => ∃ acc, H4 D = some (.lst acc) ∧ acc.length < sizeLine ∧ Nx (upd H4 D (.lst (acc ++ [y]))) else Nx H3)
theorem pe_lcX {W : WX} {elt tg iter : Expr} {ifs : List Expr} {scope : Scope} {own : List (Str × Nat)} {pos : Pos} {wi : TI} {g : TG} {tt : TT} {te : XK → TE} (hc : X.calm = true) (tk : Takes X W) (hst : X.stack = X.env :: X.outer) (hfr : X.env.frame = some X.env.locals) (hN : X.N.Nodup)
    (hi : PI X tg iter wi) (ok : BlkOk X.N X.env.scope scope own)
    (hg : ∀ (s : Shared) (H : Hp) (C : Addr) (cl : List (Str × Addr)) (fp : List Addr) z, PG (X.blkX s H scope (compEnvC scope cl C X.env) fp z) tg g) (ht : ∀ (s : Shared) (H : Hp) (C : Addr) (cl : List (Str × Addr)) (fp : List Addr) z, PTs (X.blkX s H scope (compEnvC scope cl C X.env) fp z) ifs tt)
    (he : ∀ (s : Shared) (H : Hp) (C : Addr) (cl : List (Str × Addr)) (fp : List Addr) (z : Value → Shared → Prop) (E : XK), Passes (L2.CX X.prog X.w) (X.blkX s H scope (compEnvC scope cl C X.env) fp z) E → PE (X.blkX s H scope (compEnvC scope cl C X.env) fp z) elt (te E))
    (hs : ∀ x, foldedSetIterable iter X.env x = pure x := by intro _; rfl) : PE X (.ListComp elt [⟨tg, iter, ifs, 0⟩] scope pos) (tLcX W wi g tt te (own.map (·.2))) := by
  refine ⟨fun pins s σ H Q I h => ?_⟩
  have hfree : ∀ y ∈ scope.names, y.2 = .free → ∃ c, X.env.cells.lookup y.1 = some c := fun y hy e => (ok.free y hy e).elim (fun k => I.ok.has _ (.inl k)) fun k => I.ok.has _ (.inr k)
  rw [eval_ListComp]
  refine comp_enter rfl hs (closure_ok hfree) ok.kind (fun y hy e => by rw [ok.uniq y hy, e]) (thn (hi.run pins s σ H _ I h) fun xv s1 hx => thn hx fun itv s2 h2 => ?_)
  obtain ⟨it, fp, tn, Jt, H2, rfl, I2, T, st2, f2, q⟩ := h2
  refine wpAny_newObj_type (newEnv_comp ?_) (by show 0 ≤ sizeLine; decide)
  generalize hD : s2.heap.objs.size = D
  have hDn : H2 D = none := I2.hok.fresh (Nat.le_of_eq hD)
  obtain ⟨V, ⟨m0, w0⟩, turn⟩ := q D hDn
  generalize hs3 : ({ s2 with heap := s2.heap.push { cls := .type "list", data := .seq ([] : List Value).toArray } } : Shared) = s3
  have I3 : Inv X pins σ (upd H2 D (.lst [])) s3 := by
    rw [← hs3]
    refine I2.laid (t' := s2.toks) (fun b o e => Heap.get?_push_of_some _ e) (Nat.le_of_eq hD) ⟨Nat.zero_le _, [], 0, .nil, ?_⟩
    rw [← hD]
    exact Heap.get?_push_size _ rfl
  have h3 : s3.heap = s2.heap.push { cls := .type "list", data := .seq ([] : List Value).toArray } := by rw [← hs3]
  have sz : ∀ b ∈ fp, b < s2.heap.objs.size := fun b hb => let ⟨_, e, _⟩ := T.obj _ _ st2 b hb; Heap.lt_size e
  have f3 : ∀ b ∈ fp, FpOk X pins (upd H2 D (.lst [])) b ∧ b < s3.heap.objs.size := fun b hb => by
    refine ⟨⟨?_, (f2 b hb).2⟩, by rw [h3, Heap.size_push]; exact Nat.lt_succ_of_lt (sz b hb)⟩
    rw [upd_ne (by rw [← hD]; exact Nat.ne_of_lt (sz b hb))]
    exact (f2 b hb).1
  have st3 : tn 0 s3.heap := T.keep _ _ _ st2 fun b _ o e => by rw [h3]; exact Heap.get?_push_of_some _ e
  have I4 := block_start I3 ok hN f3
  have nfp : ∀ b ∈ fp, (upd H2 D (.lst [])) b = none := fun b hb => (f3 b hb).1.1
  generalize hH3 : upd H2 D (.lst []) = H3 at I3 I4 w0 nfp f3
  have pg := hg s3 H3 s3.heap.objs.size (cellsFrom (s3.heap.objs.size + 1) scope.names (cloFrom X.env.cells scope.names [])) fp
  have pt := ht s3 H3 s3.heap.objs.size (cellsFrom (s3.heap.objs.size + 1) scope.names (cloFrom X.env.cells scope.names [])) fp
  have pe := he s3 H3 s3.heap.objs.size (cellsFrom (s3.heap.objs.size + 1) scope.names (cloFrom X.env.cells scope.names [])) fp
  show codeAny _ _ (.compStart (.ListComp elt [⟨tg, iter, ifs, 0⟩] scope pos) 0 (.ref it) (.ref D) (compEnvC scope (cellsFrom (s3.heap.objs.size + 1) scope.names (cloFrom X.env.cells scope.names [])) s3.heap.objs.size X.env)) (cPost (model X.prog X.w) X.A X.xe _ (.ref D) s3.heap.objs.size X.env.frame)
    { s3 with heap := pushCells (s3.heap.push { cls := .type "dict", data := .dict #[] }) scope.names }
  generalize hce : compEnvC scope (cellsFrom (s3.heap.objs.size + 1) scope.names (cloFrom X.env.cells scope.names [])) s3.heap.objs.size X.env = ce at I4 pg pt pe ⊢
  have cL : ce.locals = s3.heap.objs.size := by subst hce; rfl
  have cF : ce.frame = X.env.frame := by subst hce; rfl
  generalize hs4 : ({ s3 with heap := pushCells (s3.heap.push { cls := .type "dict", data := .dict #[] }) scope.names } : Shared) = s4 at I4 ⊢
  have st4 : tn 0 s4.heap := T.keep _ _ _ st3 fun b _ o e => by rw [← hs4]; exact pushCells_keeps _ _ _ _ (Heap.get?_push_of_some _ e)
  generalize hPQ : cPost (model X.prog X.w) X.A X.xe (fun u s' => EP X pins σ Q u s') (.ref D) s3.heap.objs.size X.env.frame = PQ
  have hz : ∀ (p2 : List (Addr × Obj)) (σ2 : St) (H4 : Hp) (t : Shared) (u : Value) (t' : Shared), Inv (X.blkX s3 H3 scope ce fp (notedBy (model X.prog X.w) X.A ce fun e s' => PQ (.error e) s')) p2 σ2 H4 t →
      CX X.prog X.w X.stack H4 t (WE W σ) u t' → notedBy (model X.prog X.w) X.A ce (fun e s' => PQ (.error e) s') u t' := fun p2 σ2 H4 t u t' J c => by
    rw [← hPQ, ← cF]
    exact blk_out tk hst hfr I3 cL cF f3 J.xeOut c
  generalize hzz : (notedBy (model X.prog X.w) X.A ce fun e s' => PQ (.error e) s') = z at hz
  have J4 : Inv (X.blkX s3 H3 scope ce fp z) [] (wipe σ (own.map (·.2))) H3 s4 := I4.xeIn z
  have stat : ∀ {σ' : St} {H' : Hp} {s' : Shared}, Inv (X.blkX s3 H3 scope ce fp z) [] σ' H' s' → (∀ b ∈ fp, H' b = none) → ∀ b ∈ fp, FpOk (X.blkX s3 H3 scope ce fp z) [] H' b := fun {σ' H' s'} J hn b hb =>
    ⟨hn b hb, (J.ok.exf b hb).1, J.ok.exfs b hb, .inl hb, fun x c e => (J.ok.exf b hb).2 x c e, fun p hp => absurd (show p ∈ ([] : List (Addr × Obj)) ++ [] from hp) (by simp)⟩
  have loop : codeAny (model X.prog X.w) X.A (.compLoop (.ListComp elt [⟨tg, iter, ifs, 0⟩] scope pos) 0 (.ref it) (.ref D) ce) PQ s4 := by
    refine compLoop_any (fun n s' => ∃ i H', Inv (X.blkX s3 H3 scope ce fp z) [] (wipe σ (own.map (·.2))) H' s' ∧ tn i s'.heap ∧ (∀ b ∈ fp, H' b = none) ∧ V i n H') ?_ m0 ⟨0, H3, J4, st4, nfp, w0⟩
    rw [hzz]
    rintro n s5 ⟨i, H5, J5, st5, n5, w5⟩
    rcases turn i n H5 w5 with ⟨stop, qq⟩ | ⟨go, Nx, hNx, step⟩
    · refine thn (T.done (X.blkX s3 H3 scope ce fp z) rfl rfl rfl hc i [] s5 _ H5 z J5 (stat J5 n5) st5 stop) fun r s6 ⟨hr, J6⟩ => ?_
      subst hr
      have I7 : Inv X pins σ H5 s6 := I3.call' (ch := fp) J6.os J6.base J6.hok J6.bare fun b hb => ⟨(f3 b hb).1.2.2.2.1, (f3 b hb).1.2.1, (f3 b hb).1.2.2.2.2.1, (f3 b hb).1.2.2.2.2.2⟩
      have nC : H5 s3.heap.objs.size = none := by
        have y : H5 ce.locals = none := J6.free
        rw [cL] at y
        exact y
      obtain ⟨m, hn, _⟩ := J6.loc
      have hn : s6.heap.Ns ce.locals m := hn
      rw [cL] at hn
      obtain ⟨f0, f1, f4, f5, f6, f7⟩ := I3.fpOk (H' := H5) (Nat.le_refl _) nC
      rw [← hPQ]
      exact ⟨m, hn, fun g sb => ⟨.ref D, H5, I7.turned (t' := s6.toks) (fun b o hb e => (sb.2 b hb).trans e) f0 f1 f5 f6 f7, rfl, qq⟩⟩
    · refine thn (T.item (X.blkX s3 H3 scope ce fp z) rfl rfl rfl hc i [] s5 _ H5 z J5 (stat J5 n5) st5 go) fun r s6 ⟨u, hr, h6⟩ => ?_
      subst hr
      refine thn h6 fun _ s7 ⟨x, H7, J7, r7, y7, st7, n7⟩ => ?_
      have J7' := J7.pinned (stat J7 n7) (T.obj _ _ st7)
      refine thn ((pg z).run _ s7 _ H7 x u _ J7' r7 (step x H7 y7)) fun _ s8 ⟨σ8, H8, J8, hw8, q8⟩ => ?_
      refine thn ((pt z).run _ s8 σ8 H8 _ J8 q8) fun b s9 ⟨H9, J9, q9⟩ => ?_
      have fin : ∀ {s' : Shared} {H' : Hp}, Inv (X.blkX s3 H3 scope ce fp z) ([] ++ pinsAt fp s7.heap) σ8 H' s' → Nx H' → ∃ m, m < n ∧ ∃ i H', Inv (X.blkX s3 H3 scope ce fp z) [] (wipe σ (own.map (·.2))) H' s' ∧ tn i s'.heap ∧ (∀ b ∈ fp, H' b = none) ∧ V i m H' := fun {s' H'} J nx => by
        obtain ⟨m', hm, w'⟩ := hNx H' nx
        have pin' : ∀ b ∈ fp, ∀ o, s7.heap.get? b = some o → s'.heap.get? b = some o ∧ H' b = none := fun b hb o e =>
          let y := J.pin (b, o) (List.mem_append_right _ (List.mem_append_right _ (mem_pinsAt hb e)))
          ⟨y.1, y.2.1⟩
        have hl : (wipe σ (own.map (·.2))).length = σ8.length := by rw [← hw8, wipe_length]
        refine ⟨m', hm, i + 1, H', (J.unpinned (pins := [])).weak hl (fun j v e => ?_), T.keep _ _ _ st7 fun b hb o e => (pin' b hb o e).1, fun b hb => ?_, w'⟩
        · rw [← hw8] at e
          exact (wipe_some e).1
        · obtain ⟨o, e, _⟩ := T.obj _ _ st7 b hb
          exact (pin' b hb o e).2
      cases b with
      | false =>
        simp only [Bool.false_eq_true, if_false] at q9 ⊢
        exact fin J9 q9
      | true =>
        simp only [if_true] at q9 ⊢
        refine thn ((pe z (WE W σ) fun p2 σ2 H4 t u t' J c => hz p2 σ2 H4 t u t' J c).run _ s9 σ8 H9 _ J9 q9) fun y s10 ⟨yv, H10, J10, r10, acc, hD10, hz10, nx⟩ => ?_
        exact app_ok (X := X.blkX s3 H3 scope ce fp z) J10 hD10 hz10 r10 fun s11 J11 => fin J11 nx
  exact codeAny_compStart_list loop (T.self X.A 0 _ _ _ st4 loop)

def tDcX (W : WX) (wi : TI) (g : TG) (tt : TT) (tk tv : XK → TE) (vs : List Nat) : TE := fun σ H Q => wi σ H fun J H1 => ∀ D, H1 D = none → ∃ V : Nat → Nat → Hp → Prop, (∃ m, V 0 m (upd H1 D (.dK []))) ∧ ∀ i m H, V i m H →
  (J.stop i H ∧ Q (.ref D) H) ∨ (J.go i H ∧ ∃ Nx : Hp → Prop, (∀ H', Nx H' → ∃ m', m' < m ∧ V (i + 1) m' H') ∧ ∀ x H', J.yld i H x H' → g x (wipe σ vs) H' fun σ2 H2 => wipe σ2 vs = wipe σ vs ∧ tt σ2 H2 fun b H3 =>
    if b = true then tk (WE W σ) σ2 H3 fun y H4 => tv (WE W σ) σ2 H4 fun u H5 => ∃ kvs k, y = kV k ∧ H5 D = some (.dK kvs) ∧ kvs.length < sizeLine ∧ Nx (upd H5 D (.dK (putK kvs k u))) else Nx H3)
theorem pe_dcX {W : WX} {kx vx tg iter : Expr} {ifs : List Expr} {scope : Scope} {own : List (Str × Nat)} {pos : Pos} {wi : TI} {g : TG} {tt : TT} {kt vt : XK → TE} (hc : X.calm = true) (tk : Takes X W) (hst : X.stack = X.env :: X.outer) (hfr : X.env.frame = some X.env.locals) (hN : X.N.Nodup)
    (hi : PI X tg iter wi) (ok : BlkOk X.N X.env.scope scope own)
    (hg : ∀ (s : Shared) (H : Hp) (C : Addr) (cl : List (Str × Addr)) (fp : List Addr) z, PG (X.blkX s H scope (compEnvC scope cl C X.env) fp z) tg g) (ht : ∀ (s : Shared) (H : Hp) (C : Addr) (cl : List (Str × Addr)) (fp : List Addr) z, PTs (X.blkX s H scope (compEnvC scope cl C X.env) fp z) ifs tt)
    (hk : ∀ (s : Shared) (H : Hp) (C : Addr) (cl : List (Str × Addr)) (fp : List Addr) (z : Value → Shared → Prop) (E : XK), Passes (L2.CX X.prog X.w) (X.blkX s H scope (compEnvC scope cl C X.env) fp z) E → PE (X.blkX s H scope (compEnvC scope cl C X.env) fp z) kx (kt E))
    (he : ∀ (s : Shared) (H : Hp) (C : Addr) (cl : List (Str × Addr)) (fp : List Addr) (z : Value → Shared → Prop) (E : XK), Passes (L2.CX X.prog X.w) (X.blkX s H scope (compEnvC scope cl C X.env) fp z) E → PE (X.blkX s H scope (compEnvC scope cl C X.env) fp z) vx (vt E))
    (hs : ∀ x, foldedSetIterable iter X.env x = pure x := by intro _; rfl) : PE X (.DictComp kx vx [⟨tg, iter, ifs, 0⟩] scope pos) (tDcX W wi g tt kt vt (own.map (·.2))) := by
  refine ⟨fun pins s σ H Q I h => ?_⟩
  have hfree : ∀ y ∈ scope.names, y.2 = .free → ∃ c, X.env.cells.lookup y.1 = some c := fun y hy e => (ok.free y hy e).elim (fun k => I.ok.has _ (.inl k)) fun k => I.ok.has _ (.inr k)
  rw [arm_eval_DictComp]
  refine comp_enter rfl hs (closure_ok hfree) ok.kind (fun y hy e => by rw [ok.uniq y hy, e]) (thn (hi.run pins s σ H _ I h) fun xv s1 hx => thn hx fun itv s2 h2 => ?_)
  obtain ⟨it, fp, tn, Jt, H2, rfl, I2, T, st2, f2, q⟩ := h2
  refine wpAny_newObj_type (newEnv_comp ?_) 
  generalize hD : s2.heap.objs.size = D
  have hDn : H2 D = none := I2.hok.fresh (Nat.le_of_eq hD)
  obtain ⟨V, ⟨m0, w0⟩, turn⟩ := q D hDn
  generalize hs3 : ({ s2 with heap := s2.heap.push { cls := .type "dict", data := .dict #[] } } : Shared) = s3
  have I3 : Inv X pins σ (upd H2 D (.dK [])) s3 := by
    rw [← hs3]
    refine I2.laid (t' := s2.toks) (fun b o e => Heap.get?_push_of_some _ e) (Nat.le_of_eq hD) ?_
    rw [← hD]
    exact dk_empty s2.heap I2.big
  have h3 : s3.heap = s2.heap.push { cls := .type "dict", data := .dict #[] } := by rw [← hs3]
  have sz : ∀ b ∈ fp, b < s2.heap.objs.size := fun b hb => let ⟨_, e, _⟩ := T.obj _ _ st2 b hb; Heap.lt_size e
  have f3 : ∀ b ∈ fp, FpOk X pins (upd H2 D (.dK [])) b ∧ b < s3.heap.objs.size := fun b hb => by
    refine ⟨⟨?_, (f2 b hb).2⟩, by rw [h3, Heap.size_push]; exact Nat.lt_succ_of_lt (sz b hb)⟩
    rw [upd_ne (by rw [← hD]; exact Nat.ne_of_lt (sz b hb))]
    exact (f2 b hb).1
  have st3 : tn 0 s3.heap := T.keep _ _ _ st2 fun b _ o e => by rw [h3]; exact Heap.get?_push_of_some _ e
  have I4 := block_start I3 ok hN f3
  have nfp : ∀ b ∈ fp, (upd H2 D (.dK [])) b = none := fun b hb => (f3 b hb).1.1
  generalize hH3 : upd H2 D (.dK []) = H3 at I3 I4 w0 nfp f3
  have pg := hg s3 H3 s3.heap.objs.size (cellsFrom (s3.heap.objs.size + 1) scope.names (cloFrom X.env.cells scope.names [])) fp
  have pt := ht s3 H3 s3.heap.objs.size (cellsFrom (s3.heap.objs.size + 1) scope.names (cloFrom X.env.cells scope.names [])) fp
  have pk := hk s3 H3 s3.heap.objs.size (cellsFrom (s3.heap.objs.size + 1) scope.names (cloFrom X.env.cells scope.names [])) fp
  have pe := he s3 H3 s3.heap.objs.size (cellsFrom (s3.heap.objs.size + 1) scope.names (cloFrom X.env.cells scope.names [])) fp
  show codeAny _ _ (.compStart (.DictComp kx vx [⟨tg, iter, ifs, 0⟩] scope pos) 0 (.ref it) (.ref D) (compEnvC scope (cellsFrom (s3.heap.objs.size + 1) scope.names (cloFrom X.env.cells scope.names [])) s3.heap.objs.size X.env)) (cPost (model X.prog X.w) X.A X.xe _ (.ref D) s3.heap.objs.size X.env.frame)
    { s3 with heap := pushCells (s3.heap.push { cls := .type "dict", data := .dict #[] }) scope.names }
  generalize hce : compEnvC scope (cellsFrom (s3.heap.objs.size + 1) scope.names (cloFrom X.env.cells scope.names [])) s3.heap.objs.size X.env = ce at I4 pg pt pk pe ⊢
  have cL : ce.locals = s3.heap.objs.size := by subst hce; rfl
  have cF : ce.frame = X.env.frame := by subst hce; rfl
  generalize hs4 : ({ s3 with heap := pushCells (s3.heap.push { cls := .type "dict", data := .dict #[] }) scope.names } : Shared) = s4 at I4 ⊢
  have st4 : tn 0 s4.heap := T.keep _ _ _ st3 fun b _ o e => by rw [← hs4]; exact pushCells_keeps _ _ _ _ (Heap.get?_push_of_some _ e)
  generalize hPQ : cPost (model X.prog X.w) X.A X.xe (fun u s' => EP X pins σ Q u s') (.ref D) s3.heap.objs.size X.env.frame = PQ
  have hz : ∀ (p2 : List (Addr × Obj)) (σ2 : St) (H4 : Hp) (t : Shared) (u : Value) (t' : Shared), Inv (X.blkX s3 H3 scope ce fp (notedBy (model X.prog X.w) X.A ce fun e s' => PQ (.error e) s')) p2 σ2 H4 t →
      CX X.prog X.w X.stack H4 t (WE W σ) u t' → notedBy (model X.prog X.w) X.A ce (fun e s' => PQ (.error e) s') u t' := fun p2 σ2 H4 t u t' J c => by
    rw [← hPQ, ← cF]
    exact blk_out tk hst hfr I3 cL cF f3 J.xeOut c
  generalize hzz : (notedBy (model X.prog X.w) X.A ce fun e s' => PQ (.error e) s') = z at hz
  have J4 : Inv (X.blkX s3 H3 scope ce fp z) [] (wipe σ (own.map (·.2))) H3 s4 := I4.xeIn z
  have stat : ∀ {σ' : St} {H' : Hp} {s' : Shared}, Inv (X.blkX s3 H3 scope ce fp z) [] σ' H' s' → (∀ b ∈ fp, H' b = none) → ∀ b ∈ fp, FpOk (X.blkX s3 H3 scope ce fp z) [] H' b := fun {σ' H' s'} J hn b hb =>
    ⟨hn b hb, (J.ok.exf b hb).1, J.ok.exfs b hb, .inl hb, fun x c e => (J.ok.exf b hb).2 x c e, fun p hp => absurd (show p ∈ ([] : List (Addr × Obj)) ++ [] from hp) (by simp)⟩
  have loop : codeAny (model X.prog X.w) X.A (.compLoop (.DictComp kx vx [⟨tg, iter, ifs, 0⟩] scope pos) 0 (.ref it) (.ref D) ce) PQ s4 := by
    refine compLoop_anyD (fun n s' => ∃ i H', Inv (X.blkX s3 H3 scope ce fp z) [] (wipe σ (own.map (·.2))) H' s' ∧ tn i s'.heap ∧ (∀ b ∈ fp, H' b = none) ∧ V i n H') ?_ m0 ⟨0, H3, J4, st4, nfp, w0⟩
    rw [hzz]
    rintro n s5 ⟨i, H5, J5, st5, n5, w5⟩
    rcases turn i n H5 w5 with ⟨stop, qq⟩ | ⟨go, Nx, hNx, step⟩
    · refine thn (T.done (X.blkX s3 H3 scope ce fp z) rfl rfl rfl hc i [] s5 _ H5 z J5 (stat J5 n5) st5 stop) fun r s6 ⟨hr, J6⟩ => ?_
      subst hr
      have I7 : Inv X pins σ H5 s6 := I3.call' (ch := fp) J6.os J6.base J6.hok J6.bare fun b hb => ⟨(f3 b hb).1.2.2.2.1, (f3 b hb).1.2.1, (f3 b hb).1.2.2.2.2.1, (f3 b hb).1.2.2.2.2.2⟩
      have nC : H5 s3.heap.objs.size = none := by
        have y : H5 ce.locals = none := J6.free
        rw [cL] at y
        exact y
      obtain ⟨m, hn, _⟩ := J6.loc
      have hn : s6.heap.Ns ce.locals m := hn
      rw [cL] at hn
      obtain ⟨f0, f1, f4, f5, f6, f7⟩ := I3.fpOk (H' := H5) (Nat.le_refl _) nC
      rw [← hPQ]
      exact ⟨m, hn, fun g sb => ⟨.ref D, H5, I7.turned (t' := s6.toks) (fun b o hb e => (sb.2 b hb).trans e) f0 f1 f5 f6 f7, rfl, qq⟩⟩
    · refine thn (T.item (X.blkX s3 H3 scope ce fp z) rfl rfl rfl hc i [] s5 _ H5 z J5 (stat J5 n5) st5 go) fun r s6 ⟨u, hr, h6⟩ => ?_
      subst hr
      refine thn h6 fun _ s7 ⟨x, H7, J7, r7, y7, st7, n7⟩ => ?_
      have J7' := J7.pinned (stat J7 n7) (T.obj _ _ st7)
      refine thn ((pg z).run _ s7 _ H7 x u _ J7' r7 (step x H7 y7)) fun _ s8 ⟨σ8, H8, J8, hw8, q8⟩ => ?_
      refine thn ((pt z).run _ s8 σ8 H8 _ J8 q8) fun b s9 ⟨H9, J9, q9⟩ => ?_
      have fin : ∀ {s' : Shared} {H' : Hp}, Inv (X.blkX s3 H3 scope ce fp z) ([] ++ pinsAt fp s7.heap) σ8 H' s' → Nx H' → ∃ m, m < n ∧ ∃ i H', Inv (X.blkX s3 H3 scope ce fp z) [] (wipe σ (own.map (·.2))) H' s' ∧ tn i s'.heap ∧ (∀ b ∈ fp, H' b = none) ∧ V i m H' := fun {s' H'} J nx => by
        obtain ⟨m', hm, w'⟩ := hNx H' nx
        have pin' : ∀ b ∈ fp, ∀ o, s7.heap.get? b = some o → s'.heap.get? b = some o ∧ H' b = none := fun b hb o e =>
          let y := J.pin (b, o) (List.mem_append_right _ (List.mem_append_right _ (mem_pinsAt hb e)))
          ⟨y.1, y.2.1⟩
        have hl : (wipe σ (own.map (·.2))).length = σ8.length := by rw [← hw8, wipe_length]
        refine ⟨m', hm, i + 1, H', (J.unpinned (pins := [])).weak hl (fun j v e => ?_), T.keep _ _ _ st7 fun b hb o e => (pin' b hb o e).1, fun b hb => ?_, w'⟩
        · rw [← hw8] at e
          exact (wipe_some e).1
        · obtain ⟨o, e, _⟩ := T.obj _ _ st7 b hb
          exact (pin' b hb o e).2
      cases b with
      | false =>
        simp only [Bool.false_eq_true, if_false] at q9 ⊢
        exact fin J9 q9
      | true =>
        simp only [if_true] at q9 ⊢
        refine thn ((pk z (WE W σ) fun p2 σ2 H4 t u t' J c => hz p2 σ2 H4 t u t' J c).run _ s9 σ8 H9 _ J9 q9) fun y s10 ⟨yk, H10, J10, r10, q10⟩ => ?_
        refine thn ((pe z (WE W σ) fun p2 σ2 H4 t u t' J c => hz p2 σ2 H4 t u t' J c).run _ s10 σ8 H10 _ J10 q10) fun y2 s11 ⟨yv, H11, J11, r11, kvs, k, ek, hD11, hz11, nx⟩ => ?_
        subst ek
        exact d_dictSet (X := X.blkX s3 H3 scope ce fp z) J11 hD11 hz11 r10 r11 fun s12 J12 => fin J12 nx
  exact codeAny_compStart_dict loop (T.self X.A 0 _ _ _ st4 loop)
end
end L2
/-! x, *r = a list -/
namespace L2
open PySem PySem.Spec PyProof.Rows PySem.W
section
variable {X : Cx} {pos : Pos}
theorem pgs_star {e : Expr} {p : Pos} {es : List Expr} {t : TG} {u : TGs} (h1 : PG X e t) (h2 : PGs X es u)
    (hs : (assignEach (.Starred e p :: es) X.env).map (·.2) = assign e X.env :: (assignEach es X.env).map (·.2) := by rfl) : PGs X (.Starred e p :: es) (gCons t u) := by
  refine ⟨fun pins s σ H vs us Q I r h => ?_⟩
  obtain ⟨v, vr, rfl, h⟩ := h
  cases r with
  | cons r rr =>
    rw [hs]
    refine assignInOrder_cons (thn (h1.run pins s σ H _ _ _ I r h) fun _ s1 ⟨σ1, H1, I1, q1⟩ => ?_)
    exact h2.run pins s1 σ1 H1 _ _ Q I1 rr q1
/-- the first of a list, and a new list of the others -/
def gHead (K : PySem.W.Frag) (t : TGs) : TG := fun v σ H Q => ∃ (a : Addr) (x : V) (xs : List V), v = .ref a ∧ SqL K H a (x :: xs) ∧ xs.length ≤ 16000 ∧ ∀ D, H D = none → t [x, .ref D] σ (upd H D (.lst xs)) Q
theorem pg_head {es : List Expr} {k : Nat} {t : TGs} (hc : X.calm = true) (h : PGs X es t) (hn : (assignEach es X.env).length = 2 := by rfl) (hst : (assignEach es X.env).findIdx? (·.1) = some 1 := by rfl) : PG X (.Tuple es k pos) (gHead X.K t) := by
  refine ⟨fun pins s σ H v u Q I r hw => ?_⟩
  obtain ⟨l, x, xs, rfl, hq, hz, hw⟩ := hw
  cases r
  obtain ⟨us, rv, pl, _⟩ := I.list hq
  cases rv with
  | cons rx rv =>
  rename_i ux us
  have hl := pl.isList
  have sz : (ux :: us).toArray.size = xs.length + 1 := by rw [List.size_toArray, List.length_cons, ← rv.length]
  have hlt : l ≠ s.heap.objs.size := by
    obtain ⟨o, ho, _⟩ := id hl
    exact Nat.ne_of_lt (Heap.lt_size ho)
  rw [PyProof.Rows.assign_Tuple]
  refine wpAny_bind (wpAny_standAt ?_)
  unfold unpack
  rw [hn, hst]
  refine wpAny_bind (wpAny_holding ?_)
  unfold unpackItems
  refine wpAny_bind ?_
  unfold notIterableAtAll
  refine wpAny_bind (wpAny_specialOf hl.typeIs slot_list_iter.lookup (wpAny_pure ?_))
  simp only [Bool.false_eq_true, if_false]
  refine wpAny_bind (wpAny_holding (wpAny_pyIter_list hl ?_))
  refine wpAny_bind (wpAny_holding (kun_draw hlt 1 0 _ _ ⟨_, Heap.get?_push_size _ rfl, rfl, rfl⟩ (hl.push _) (by omega) fun g1 it1 e1 => ?_))
  have hl1 : g1.IsList l (ux :: us).toArray := (hl.push _).extBut e1.extBut hlt
  obtain ⟨oi, hoi, _⟩ := id it1
  obtain ⟨ol, hol, _⟩ := id hl1
  refine wpAny_bind (wpAny_holding (kun_collect (s := { s with heap := g1 }) (T := "list_iterator") (.inr (.inr (.inl rfl))) (Walks.list (A := X.A.in1) (I.ok.hd hc) s.heap.objs.size l hlt (ux :: us).toArray) (fun j u st => st.1.typeIs) (k := 1) (by omega) ⟨it1, hl1⟩ (Heap.lt_size hoi) (Heap.lt_size hol) (fun g2 tk hk => ?_) (by rw [sizeLine_eq]; omega)))
  show wpAny _ _ (newList (us.take (us.length - 0)) >>= fun d => pure ([ux] ++ [d] ++ us.drop (us.length - 0))) _ _ _
  rw [Nat.sub_zero, List.take_length, List.drop_length]
  have kp : ∀ b o, s.heap.get? b = some o → g2.get? b = some o := fun b o e => hk b o (Nat.ne_of_lt (Heap.lt_size e)) (e1.extBut b o (Nat.ne_of_lt (Heap.lt_size e)) (Heap.get?_push_of_some _ e))
  have I2 : Inv X pins σ H { s with heap := g2, toks := tk } := I.kept (t' := tk) kp
  have ul : us.length ≤ sizeLine := by rw [← rv.length, sizeLine_eq]; omega
  refine wpAny_bind (wpAny_newObj_type (wpAny_pure ?_) ul)
  have hf : H g2.objs.size = none := I2.hok.fresh (Nat.le_refl _)
  have I3 := I2.laid (a := g2.objs.size) (o := .lst xs) (h' := g2.push { cls := .type "list", data := .seq us.toArray }) (t' := tk) (fun b u e => Heap.get?_push_of_some _ e) (Nat.le_refl _) ⟨by rw [sizeLine_eq]; omega, us, 0, rv, Heap.get?_push_size _ rfl⟩
  exact h.run pins _ σ (upd H g2.objs.size (.lst xs)) [x, .ref g2.objs.size] [ux, .ref g2.objs.size] Q I3 (.cons rx (.cons rfl .nil)) (hw _ hf)
end
end L2
/-! enumerate(tuple) -/
namespace ZM
open PySem
section
variable {prog : Program} {w : World} {A : Around} {E : Value → Shared → Prop} {s : Shared} {Ka : SeqIt prog w} {e it l : Addr} {k : Nat} {xs : Array Value} {old : Value}
theorem enum_item {x : Value} {Q : Option Value → Shared → Prop} (he : IsEnum s.heap e it k old) (hit : Ka.I s.heap it l k) (hl : Ka.S s.heap l xs) (hx : xs[k]? = some x) (hne : e ≠ it)
    (hQ : ∀ g, IsEnumOut g e it ((k : Int) + 1) x s.heap.objs.size → Ka.I g it l (k + 1) → g.get? s.heap.objs.size = some { cls := .type "tuple", data := .seq #[.int k s.toks, x] } →
      (∀ b o, b ≠ e → b ≠ it → s.heap.get? b = some o → g.get? b = some o) → Q (some (.ref s.heap.objs.size)) { s with heap := g, toks := s.toks + 1 }) : wpAny (model prog w) A (pyNext (.ref e)) Q E s := by
  have ty : s.TypeIs (.ref e) "enumerate" := ⟨_, he, rfl⟩
  unfold pyNext
  refine wpAny_bind (wpAny_attempt (wpAny_callSpecial?_slot (name := Str.ofString "__next__") ty F.slot_enumerate_next (wpAny_call_entry F.slot_enumerate_next ty F.entry_enumerate_next ?_ (F.args_enumerate_next_1 _))))
  obtain ⟨hp, gn, dr, tk, os⟩ := s
  show wpAny _ _ (field (.ref e) 2 >>= _) _ _ _
  refine wpAny_bind (wpAny_field he rfl (x := .ref it) rfl (wpAny_bind (Ka.item hit hl hx fun g1 i1 e1 => ?_)))
  replace e1 : Heap.SameBut it hp g1 := e1
  have q1 : IsEnum g1 e it k old := (e1.2 e hne).trans he
  show wpAny _ _ (field (.ref e) 3 >>= _) _ _ ⟨g1, gn, dr, tk, os⟩
  refine wpAny_bind (wpAny_field q1 rfl (x := rawInt k) rfl ?_)
  show wpAny _ _ (field (.ref e) 4 >>= _) _ _ ⟨g1, gn, dr, tk, os⟩
  refine wpAny_bind (wpAny_field q1 rfl (x := .none) rfl ?_)
  show wpAny _ _ (mkInt k >>= _) _ _ ⟨g1, gn, dr, tk, os⟩
  refine wpAny_bind (wpAny_mkInt ?_)
  show wpAny _ _ (setField (.ref e) 3 (rawInt ((k : Int) + 1)) >>= _) _ _ ⟨g1, gn, dr, tk + 1, os⟩
  refine wpAny_bind (wpAny_setField_rec q1 (by simp) fun g2 q2 e2 => ?_)
  replace e2 : Heap.SameBut e g1 g2 := e2
  replace q2 : IsEnum g2 e it ((k : Int) + 1) old := q2
  show wpAny _ _ (setField (.ref e) 4 .none >>= _) _ _ ⟨g2, gn, dr, tk + 1, os⟩
  refine wpAny_bind (wpAny_setField_rec q2 (by simp) fun g3 q3 e3 => ?_)
  replace e3 : Heap.SameBut e g2 g3 := e3
  replace q3 : IsEnum g3 e it ((k : Int) + 1) old := q3
  show wpAny _ _ (newTuple [.int k tk, x] >>= _) _ _ ⟨g3, gn, dr, tk + 1, os⟩
  refine wpAny_bind (wpAny_newTuple ?_)
  have sz : g3.objs.size = hp.objs.size := by rw [e3.1, e2.1, e1.1]
  have el : e < hp.objs.size := Heap.lt_size he
  have kp : ∀ b o, b ≠ e → b ≠ it → hp.get? b = some o → (g3.push { cls := .type "tuple", data := .seq #[.int k tk, x] }).get? b = some o := fun b o n1 n2 q =>
    Heap.get?_push_of_some _ (e3.extBut b o n1 (e2.extBut b o n1 (e1.extBut b o n2 q)))
  have i4 : Ka.I (g3.push { cls := .type "tuple", data := .seq #[.int k tk, x] }) it l (k + 1) := Ka.ia (Ka.ix (Ka.ix i1 e2.extBut (Ne.symm hne)) e3.extBut (Ne.symm hne)) fun o q => Heap.get?_push_of_some _ q
  have t4 : (g3.push { cls := .type "tuple", data := .seq #[.int k tk, x] }).get? hp.objs.size = some { cls := .type "tuple", data := .seq #[.int k tk, x] } := by
    rw [← sz]
    exact Heap.get?_push_size _ rfl
  have q4 : IsEnum (g3.push { cls := .type "tuple", data := .seq #[.int k tk, x] }) e it ((k : Int) + 1) old := Heap.get?_push_of_some _ q3
  show wpAny _ _ (Builtin.SmallTypes.ownedTupleIsFree (.ref e) >>= _) _ _ ⟨_, gn, dr, tk + 1, os⟩
  rw [sz]
  generalize g3.push { cls := .type "tuple", data := .seq #[.int k tk, x] } = g4 at kp i4 t4 q4
  refine wpAny_bind ?_
  unfold Builtin.SmallTypes.ownedTupleIsFree
  refine wpAny_bind (wpAny_field q4 rfl (x := .none) rfl (wpAny_pure ?_))
  simp only [if_true]
  refine wpAny_bind (wpAny_rule (wpAny_bind (wpAny_field q4 rfl (x := old) rfl (wpAny_bind (wpAny_setField_rec q4 (by simp) fun g5 q5 e5 => ?_)))))
  replace q5 : IsEnum g5 e it ((k : Int) + 1) x := q5
  show wpAny _ _ (Builtin.SmallTypes.ownedTupleHandOut (.ref e) (.ref hp.objs.size) >>= _) _ _ ⟨g5, gn, dr, tk + 1, os⟩
  refine wpAny_bind ?_
  unfold Builtin.SmallTypes.ownedTupleHandOut
  refine wpAny_bind (wpAny_setField_rec q5 (by simp) fun g6 q6 e6 => ?_)
  replace q6 : IsEnumOut g6 e it ((k : Int) + 1) x hp.objs.size := q6
  refine wpAny_setField_rec q6 (by simp) fun g7 q7 e7 => ?_
  replace q7 : IsEnumOut g7 e it ((k : Int) + 1) x hp.objs.size := q7
  have on : ∀ b o, b ≠ e → g4.get? b = some o → g7.get? b = some o := fun b o n q => e7.extBut b o n (e6.extBut b o n (e5.extBut b o n q))
  refine wpAny_bind (wpAny_letGo (wpAny_pure ⟨_, rfl, wpAny_pure (hQ g7 q7 (Ka.ia i4 fun o q => on it o (Ne.symm hne) q) (on _ _ (Nat.ne_of_gt el) t4) fun b o n1 n2 q => on b o n1 (kp b o n1 n2 q))⟩))
theorem enum_end {Q : Option Value → Shared → Prop} (hh : A.handled = none) (he : IsEnum s.heap e it k old) (hit : Ka.I s.heap it l k) (hl : Ka.S s.heap l xs) (hx : xs[k]? = none) (hQ : ∀ g, Heap.ExtBut it s.heap g → Q none { s with heap := g }) :
    wpAny (model prog w) A (pyNext (.ref e)) Q E s := by
  have ty : s.TypeIs (.ref e) "enumerate" := ⟨_, he, rfl⟩
  unfold pyNext
  refine wpAny_bind (wpAny_attempt (wpAny_callSpecial?_slot (name := Str.ofString "__next__") ty F.slot_enumerate_next (wpAny_call_entry F.slot_enumerate_next ty F.entry_enumerate_next ?_ (F.args_enumerate_next_1 _))))
  show wpAny _ _ (field (.ref e) 2 >>= _) _ _ _
  refine wpAny_bind (wpAny_field he rfl (x := .ref it) rfl (wpAny_bind (Ka.fin hh hit hl hx fun g x eb hx' => ?_)))
  obtain ⟨o, ho, hc⟩ := hx'
  exact wpAny_bind (wpAny_isInstance (T := "StopIteration") (b := true) ⟨o, ho, hc⟩ isSubtype_stop (wpAny_pure (hQ _ eb)))
end
abbrev eg1 (h : Heap) (a : Addr) : Heap := h.push { cls := .type "tuple_iterator", data := .fields #[.ref a, .int 0 0] }
theorem meets_enumT (a : Addr) (xs : Array Value) :
    Meets (Builtin.«enumerate.__new__» ⟨[.type "enumerate", .ref a], []⟩) (fun _ R s => s.heap.IsTuple a xs ∧ R (.ok (.ret (.ref (eg1 s.heap a).objs.size)))
      { s with heap := (eg1 s.heap a).push { cls := .type "enumerate", data := .fields #[.none, .bool false, .ref s.heap.objs.size, rawInt 0, .none, .none] } }) :=
  .of_wp fun prog w A R s h => by
    obtain ⟨hp, g, d, tk, os⟩ := s; obtain ⟨hl, h⟩ := h
    have hsub := sub_enumerate
    have tA : Heap.IsTuple (Shared.heap ⟨hp, g, d, tk, os⟩) a xs := hl
    wp_walk
    refine wpAny_stack_any fun st => wpAny_pure ?_
    split
    · rename_i c _ _ _ _ _
      cases (c == Value.type "enumerate")
      all_goals
        wp_walk using wpAny_pyIter_tuple tA
        exact ⟨_, rfl, h⟩
    · wp_walk using wpAny_pyIter_tuple tA
      exact ⟨_, rfl, h⟩
end ZM
namespace L2
open PySem PySem.Spec PyProof.Rows ZM
/-- the tuple at a as it stands at each turn, each item in a new pair -/
def IteT (K : PySem.W.Frag) (a : Addr) : It where
  go := fun i H => ∃ (xs : List V) (x : V), SqT K H a xs ∧ xs[i]? = some x
  yld := fun i H v H' => ∃ T x, v = .ref T ∧ H T = none ∧ H' = upd H T (.tup [.int (i : Nat), x]) ∧ ∀ xs, SqT K H a xs → xs[i]? = some x
  stop := fun i H => ∃ xs : List V, SqT K H a xs ∧ xs.length ≤ i
theorem turn_enumT {P : Program} {w : World} {K : PySem.W.Frag} {elts : List Expr} {kk : Nat} {tpos : Pos} (a e it : Addr) :
    Turn P w K (.Tuple elts kk tpos) (IteT K a) [e, it] e (fun i h => (∃ old, IsEnum h e it ((i : Nat) : Int) old) ∧ (sTup P w).I h it a i ∧ e ≠ it) where
  mem := List.mem_cons_self
  obj := fun i h st b hb => by
    obtain ⟨⟨old, he⟩, hi, _⟩ := st
    have two : b = e ∨ b = it := by simpa using hb
    rcases two with rfl | rfl
    · exact ⟨_, he, fun v q => nomatch q⟩
    · exact (sTup P w).is hi
  keep := fun i h h' ⟨⟨old, he⟩, hi, ne⟩ k => ⟨⟨old, k e (by simp) _ he⟩, (sTup P w).ia hi fun o q => k it (by simp) o q, ne⟩
  item := by
    intro X hP hw hK hc i pins s σ H E J hf st hg
    subst hP hw hK
    obtain ⟨⟨old, he⟩, hit, hne⟩ := st
    obtain ⟨xs, x, hq, hx⟩ := hg
    obtain ⟨us, rv, p, _⟩ := J.tuple hq
    obtain ⟨u, hu, ru⟩ := rv.get hx
    have el : e < s.heap.objs.size := Heap.lt_size he
    obtain ⟨oi, hoi, _⟩ := (sTup X.prog X.w).is hit
    refine enum_item (Ka := sTup X.prog X.w) he hit p (x := u) (by simpa using hu) hne fun g ge gi gt kp => ?_
    refine ⟨_, rfl, wpAny_letOwnedTupleGo_enum (s := { s with heap := g, toks := s.toks + 1 }) ge fun g' ge' sb => ?_⟩
    have gt' : g'.get? s.heap.objs.size = some { cls := .type "tuple", data := .seq #[.int i s.toks, u] } := (sb.2 _ (Nat.ne_of_gt el)).trans gt
    have new : ObjOk X.prog X.w (upd H s.heap.objs.size (.tup [.int (i : Nat), x])) g' s.heap.objs.size (.tup [.int (i : Nat), x]) := ⟨(by show 2 ≤ sizeLine; decide), [.int i s.toks, u], .cons ⟨_, rfl⟩ (.cons ru .nil), ⟨_, gt', rfl, _, rfl⟩⟩
    have J1 : Inv X pins σ (upd H s.heap.objs.size (.tup [.int (i : Nat), x])) { s with heap := g', toks := s.toks + 1 } :=
      J.turnedNew (ch := [e, it]) (fun b ob hb q => (sb.2 b fun z => hb (by simp [z])).trans (kp b ob (fun z => hb (by simp [z])) (fun z => hb (by simp [z])) q)) hf (Nat.le_refl _) new
    refine ⟨.ref s.heap.objs.size, _, J1, rfl, ⟨_, x, rfl, J.hok.fresh (Nat.le_refl _), rfl, fun ys hy => by rw [J.tuple_inj hy hq]; exact hx⟩, ⟨⟨u, ?_⟩, (sTup X.prog X.w).ia gi fun o q => (sb.2 it (Ne.symm hne)).trans q, hne⟩, fun b hb => ?_⟩
    · have e1 : ((i + 1 : Nat) : Int) = (i : Int) + 1 := by omega
      rw [e1]
      exact ge'
    · have lt : b < s.heap.objs.size := by
        have two : b = e ∨ b = it := by simpa using hb
        rcases two with rfl | rfl
        · exact el
        · exact Heap.lt_size hoi
      rw [upd_ne (Nat.ne_of_lt lt)]
      exact (hf b hb).1
  done := by
    intro X hP hw hK hc i pins s σ H E J hf st hg
    subst hP hw hK
    obtain ⟨⟨old, he⟩, hit, hne⟩ := st
    obtain ⟨xs, hq, hx⟩ := hg
    obtain ⟨us, rv, p, _⟩ := J.tuple hq
    obtain ⟨f0, f1, f2, f3, f4, f5⟩ := hf it (by simp)
    have hl := rv.length
    exact enum_end (Ka := sTup X.prog X.w) (J.ok.hd hc) he hit p (by simp; omega) fun g eb => ⟨rfl, J.turned (t' := s.toks) (fun b o hb q => eb b o hb q) f0 f1 f3 f4 f5⟩
  self := fun A i s Q E st h => let ⟨⟨_, he⟩, _⟩ := st; wpAny_pyIter_enum he h
/-- enumerate of a list or a tuple -/
def iEnumA (K : PySem.W.Frag) (ta : TA) : TI := fun σ H R => ta σ H fun vs H1 => ∃ a xs, vs = [.ref a] ∧ ((SqL K H1 a xs ∧ R (Ite K a) H1) ∨ (SqT K H1 a xs ∧ R (IteT K a) H1))
theorem pi_enumA {X : Cx} {e : Expr} {ta : TA} {p pos tpos : Pos} {elts : List Expr} {kk : Nat} (hg : Gl X "enumerate") (hm : X.mg "enumerate" = none) (ha : PA X [e] ta) (hs : starEach [e] X.env = [(false, eval e X.env)] := by rfl) :
    PI X (.Tuple elts kk tpos) (.Call (.Name "enumerate" p) [e] [] pos) (iEnumA X.K ta) := by
  refine ⟨fun pins s σ H R J h => ?_⟩
  refine Call_ (ld_blt J hg hm boot_enumerate (callWith_type1 (thn (ha.run pos pins s σ H _ J h) fun us s1 ⟨vs, H1, J1, r1, q1⟩ => ?_) hs rfl))
  obtain ⟨a, xs, rfl, q1⟩ := q1
  obtain ⟨u, rfl, r⟩ := vals1 r1
  cases r
  have n2 : ∀ b, b ∈ [s1.heap.objs.size + 1, s1.heap.objs.size] → FpOk X pins H1 b := fun b hb => by
    have two : b = s1.heap.objs.size + 1 ∨ b = s1.heap.objs.size := by simpa using hb
    have le : s1.heap.objs.size ≤ b := by
      rcases two with z | z
      · rw [z]; exact Nat.le_add_right _ _
      · rw [z]; exact Nat.le_refl _
    exact J1.fpOk le (J1.hok.fresh le)
  rcases q1 with ⟨hq, q⟩ | ⟨hq, q⟩
  · obtain ⟨us, rv, p', _⟩ := J1.list hq
    refine call_enumerate_list p'.isList fun h' he hit hsz hk => wpAny_pyIter_enum he ?_
    have J2 : Inv X pins σ H1 { s1 with heap := h' } := J1.kept (t' := s1.toks) hk
    exact ⟨s1.heap.objs.size + 1, [s1.heap.objs.size + 1, s1.heap.objs.size], _, _, H1, rfl, J2, turn_enum a (s1.heap.objs.size + 1) s1.heap.objs.size, ⟨⟨.none, he⟩, hit, Nat.succ_ne_self _⟩, n2, q⟩
  · obtain ⟨us, rv, p', _⟩ := J1.tuple hq
    refine callType_new F.called_enumerate (by decide) (F.typeCall_enumerate_1 _) (F.newCall_enumerate_1 _) (fun obj => F.args_object_init_2 obj _) F.entry_enumerate_new (meets_enumT a us.toArray) ⟨p', ?_⟩
    have z1 : (eg1 s1.heap a).objs.size = s1.heap.objs.size + 1 := Heap.size_push ..
    have y2 : ((eg1 s1.heap a).push { cls := .type "enumerate", data := .fields #[.none, .bool false, .ref s1.heap.objs.size, rawInt 0, .none, .none] }).get? (eg1 s1.heap a).objs.size = some _ := Heap.get?_push_size _ rfl
    have y1 : ((eg1 s1.heap a).push { cls := .type "enumerate", data := .fields #[.none, .bool false, .ref s1.heap.objs.size, rawInt 0, .none, .none] }).get? s1.heap.objs.size = some _ := Heap.get?_push_of_some _ (Heap.get?_push_size _ rfl)
    have J2 : Inv X pins σ H1 { s1 with heap := (eg1 s1.heap a).push { cls := .type "enumerate", data := .fields #[.none, .bool false, .ref s1.heap.objs.size, rawInt 0, .none, .none] } } := J1.kept (t' := s1.toks) fun c o q => Heap.get?_push_of_some _ (Heap.get?_push_of_some _ q)
    show _ ∧ _
    rw [z1] at y2 ⊢
    exact ⟨⟨_, y2, rfl⟩, wpAny_pyIter_enum (old := .none) y2 ⟨s1.heap.objs.size + 1, [s1.heap.objs.size + 1, s1.heap.objs.size], _, _, H1, rfl, J2, turn_enumT a (s1.heap.objs.size + 1) s1.heap.objs.size, ⟨⟨.none, y2⟩, ⟨_, y1, rfl, rfl⟩, Nat.succ_ne_self _⟩, n2, q⟩⟩
/-- a walk over a sequence in pairs with its places, the objects laid at each turn -/
theorem for_enumA {J : It} {n : Nat} {xs : List V} (hn : xs.length = n) {g : TG} {tb : TS} {D : Ends} {σ : L2.St} {H : Hp} (Pv : Nat → L2.St → Hp → Prop) (h0 : Pv 0 σ H)
    (hJ : ∀ i σ H, Pv i σ H → (n ≤ i → J.stop i H) ∧ (i < n → J.go i H) ∧ ∀ v H', J.yld i H v H' → ∃ T x, v = .ref T ∧ H T = none ∧ H' = upd H T (.tup [.int (i : Nat), x]) ∧ xs[i]? = some x)
    (hs : ∀ (i : Nat) (x : V) (T : Addr) (σ : L2.St) (H : Hp), xs[i]? = some x → Pv i σ H → H T = none → g (.ref T) σ (upd H T (.tup [.int (i : Nat), x])) fun σ2 H2 => tb { D with nx := Pv (i + 1), ct := Pv (i + 1), bk := D.nx } σ2 H2) (hd : ∀ σ H, Pv n σ H → D.nx σ H) :
    ∃ W : Nat → Nat → L2.St → Hp → Prop, (∃ m, W 0 m σ H) ∧ ∀ i m σ H, W i m σ H →
      (J.stop i H ∧ D.nx σ H) ∨ (J.go i H ∧ ∃ N : L2.St → Hp → Prop, (∀ σ' H', N σ' H' → ∃ m', m' < m ∧ W (i + 1) m' σ' H') ∧ ∀ v H', J.yld i H v H' → g v σ H' fun σ2 H2 => tb { D with nx := N, ct := N, bk := D.nx } σ2 H2) := by
  refine ⟨fun i m σ H => m = n - i ∧ i ≤ n ∧ Pv i σ H, ⟨n, rfl, Nat.zero_le _, h0⟩, ?_⟩
  rintro i m σ H ⟨rfl, hi, p⟩
  obtain ⟨j1, j2, j3⟩ := hJ i σ H p
  by_cases hlt : i < n
  · refine .inr ⟨j2 hlt, Pv (i + 1), fun σ' H' p' => ⟨n - (i + 1), by omega, rfl, hlt, p'⟩, fun v H' y => ?_⟩
    obtain ⟨T, x, rfl, hT, rfl, hx⟩ := j3 v H' y
    exact hs i x T σ H hx p hT
  · have e : i = n := by omega
    subst e
    exact .inl ⟨j1 (Nat.le_refl _), hd σ H p⟩
theorem ite_at {K : PySem.W.Frag} {a : Addr} {xs : List V} {n i : Nat} {H : Hp} (hn : xs.length = n) (h : SqL K H a xs) : (n ≤ i → (Ite K a).stop i H) ∧ (i < n → (Ite K a).go i H) ∧ ∀ v H', (Ite K a).yld i H v H' → ∃ T x, v = .ref T ∧ H T = none ∧ H' = upd H T (.tup [.int (i : Nat), x]) ∧ xs[i]? = some x :=
  ⟨fun z => ⟨xs, h, by omega⟩, fun z => ⟨xs, xs[i]'(by omega), h, List.getElem?_eq_getElem (by omega)⟩, fun v H' ⟨T, x, a, b, c, f⟩ => ⟨T, x, a, b, c, f xs h⟩⟩
theorem iteT_at {K : PySem.W.Frag} {a : Addr} {xs : List V} {n i : Nat} {H : Hp} (hn : xs.length = n) (h : SqT K H a xs) : (n ≤ i → (IteT K a).stop i H) ∧ (i < n → (IteT K a).go i H) ∧ ∀ v H', (IteT K a).yld i H v H' → ∃ T x, v = .ref T ∧ H T = none ∧ H' = upd H T (.tup [.int (i : Nat), x]) ∧ xs[i]? = some x :=
  ⟨fun z => ⟨xs, h, by omega⟩, fun z => ⟨xs, xs[i]'(by omega), h, List.getElem?_eq_getElem (by omega)⟩, fun v H' ⟨T, x, a, b, c, f⟩ => ⟨T, x, a, b, c, f xs h⟩⟩
end L2
/-! walks over a list or a tuple; walks by what they yield -/
namespace L2
open PySem PySem.Spec PyProof.Rows
section
variable {X : Cx} {tg : Expr}
def iSeqA (K : PySem.W.Frag) (tl : TE) : TI := fun σ H R => tl σ H fun x H1 => ∃ a xs, x = .ref a ∧ ((SqL K H1 a xs ∧ R (Itl K a) H1) ∨ (SqT K H1 a xs ∧ R (Itt K a) H1))
theorem pi_seqA {l : Expr} {tl : TE} (hl : PE X l tl) : PI X tg l (iSeqA X.K tl) := by
  refine ⟨fun pins s σ H R J h => thn (hl.run pins s σ H _ J h) fun v s1 ⟨x, H1, J1, r1, q1⟩ => ?_⟩
  obtain ⟨a, xs, rfl, q1⟩ := q1
  cases r1
  have n1 : ∀ b, b ∈ [s1.heap.objs.size] → FpOk X pins H1 b := fun b hb => by
    obtain rfl : b = s1.heap.objs.size := by simpa using hb
    exact J1.fpOk (Nat.le_refl _) (J1.hok.fresh (Nat.le_refl _))
  rcases q1 with ⟨hq, q⟩ | ⟨hq, q⟩
  · obtain ⟨us, rv, p, _⟩ := J1.list hq
    exact wpAny_pyIter_list p.isList ⟨s1.heap.objs.size, [s1.heap.objs.size], _, _, H1, rfl, J1.kept (t' := s1.toks) fun b o e => Heap.get?_push_of_some _ e, turn_list a _, ⟨_, Heap.get?_push_size _ rfl, rfl, rfl⟩, n1, q⟩
  · obtain ⟨us, rv, p, _⟩ := J1.tuple hq
    exact wpAny_pyIter_tuple (show s1.heap.IsTuple a us.toArray from p) ⟨s1.heap.objs.size, [s1.heap.objs.size], _, _, H1, rfl, J1.kept (t' := s1.toks) fun b o e => Heap.get?_push_of_some _ e, turn_tuple a _, ⟨_, Heap.get?_push_size _ rfl, rfl, rfl⟩, n1, q⟩
end
/-- J walks n items, each as Y tells -/
def Walks (J : It) (n : Nat) (Y : Nat → Hp → V → Hp → Prop) (i : Nat) (H : Hp) : Prop := (n ≤ i → J.stop i H) ∧ (i < n → J.go i H) ∧ ∀ v H', J.yld i H v H' → Y i H v H'
/-- the items of xs, nothing else changed -/
def yIt (xs : List V) : Nat → Hp → V → Hp → Prop := fun i H v H' => H' = H ∧ xs[i]? = some v
theorem walks_l {K : PySem.W.Frag} {a : Addr} {xs : List V} {i : Nat} {H : Hp} (h : SqL K H a xs) : Walks (Itl K a) xs.length (yIt xs) i H :=
  ⟨fun z => ⟨xs, h, z⟩, fun z => ⟨xs, xs[i], h, List.getElem?_eq_getElem z⟩, fun v H' ⟨e, f⟩ => ⟨e, f xs h⟩⟩
theorem walks_t {K : PySem.W.Frag} {a : Addr} {xs : List V} {i : Nat} {H : Hp} (h : SqT K H a xs) : Walks (Itt K a) xs.length (yIt xs) i H :=
  ⟨fun z => ⟨xs, h, z⟩, fun z => ⟨xs, xs[i], h, List.getElem?_eq_getElem z⟩, fun v H' ⟨e, f⟩ => ⟨e, f xs h⟩⟩
/-- the items of xs and ys in new pairs -/
def yZip (xs ys : List V) : Nat → Hp → V → Hp → Prop := fun i H v H' => ∃ T x y, v = .ref T ∧ H T = none ∧ H' = upd H T (.tup [x, y]) ∧ xs[i]? = some x ∧ ys[i]? = some y
theorem walks_z {K : PySem.W.Frag} {a b : Addr} {xs ys : List V} {i n : Nat} {H : Hp} (h : SqT K H a xs) (h2 : SqL K H b ys) (hx : xs.length = n) (hy : ys.length = n) : Walks (ItzM K a b) n (yZip xs ys) i H :=
  ⟨fun z => ⟨xs, ys, h, h2, .inl (by omega)⟩, fun z => ⟨xs, ys, xs[i]'(by omega), ys[i]'(by omega), h, h2, List.getElem?_eq_getElem _, List.getElem?_eq_getElem _⟩, fun v H' ⟨T, x, y, e1, e2, e3, f, f2⟩ => ⟨T, x, y, e1, e2, e3, f xs h, f2 ys h2⟩⟩
section
variable {J : It} {n : Nat} {Y : Nat → Hp → V → Hp → Prop}
theorem for_at {g : TG} {tb : TS} {D : Ends} {σ : L2.St} {H : Hp} (Pv : Nat → L2.St → Hp → Prop) (h0 : Pv 0 σ H) (hJ : ∀ i σ H, i ≤ n → Pv i σ H → Walks J n Y i H)
    (hs : ∀ i x σ H H', i < n → Y i H x H' → Pv i σ H → g x σ H' fun σ2 H2 => tb { D with nx := Pv (i + 1), ct := Pv (i + 1), bk := D.nx } σ2 H2) (hd : ∀ σ H, Pv n σ H → D.nx σ H) :
    ∃ V : Nat → Nat → L2.St → Hp → Prop, (∃ m, V 0 m σ H) ∧ ∀ i m σ H, V i m σ H →
      (J.stop i H ∧ D.nx σ H) ∨ (J.go i H ∧ ∃ N : L2.St → Hp → Prop, (∀ σ' H', N σ' H' → ∃ m', m' < m ∧ V (i + 1) m' σ' H') ∧ ∀ x H', J.yld i H x H' → g x σ H' fun σ2 H2 => tb { D with nx := N, ct := N, bk := D.nx } σ2 H2) := by
  refine ⟨fun i m σ H => m = n - i ∧ i ≤ n ∧ Pv i σ H, ⟨n, rfl, Nat.zero_le _, h0⟩, ?_⟩
  rintro i m σ H ⟨rfl, hi, p⟩
  obtain ⟨j1, j2, j3⟩ := hJ i σ H hi p
  by_cases lt : i < n
  · exact .inr ⟨j2 lt, Pv (i + 1), fun σ' H' p' => ⟨n - (i + 1), by omega, rfl, lt, p'⟩, fun x H' y => hs i x σ H H' lt (j3 x H' y) p⟩
  · obtain rfl : i = n := by omega
    exact .inl ⟨j1 (Nat.le_refl _), hd σ H p⟩
theorem lc_at {g : TG} {tt : TT} {te : TE} {vs : List Nat} {σ : L2.St} {H1 : Hp} {D : Addr} {Qd : Hp → Prop} (Pv : Nat → Hp → Prop) (h0 : Pv 0 (upd H1 D (.lst []))) (hJ : ∀ i H, i ≤ n → Pv i H → Walks J n Y i H)
    (hs : ∀ i x H H', i < n → Y i H x H' → Pv i H → g x (wipe σ vs) H' fun σ2 H2 => wipe σ2 vs = wipe σ vs ∧ tt σ2 H2 fun b H3 =>
      if b = true then te σ2 H3 fun y H4 => ∃ acc, H4 D = some (.lst acc) ∧ acc.length < sizeLine ∧ Pv (i + 1) (upd H4 D (.lst (acc ++ [y]))) else Pv (i + 1) H3) (hd : ∀ H, Pv n H → Qd H) :
    ∃ V : Nat → Nat → Hp → Prop, (∃ m, V 0 m (upd H1 D (.lst []))) ∧ ∀ i m H, V i m H →
      (J.stop i H ∧ Qd H) ∨ (J.go i H ∧ ∃ Nx : Hp → Prop, (∀ H', Nx H' → ∃ m', m' < m ∧ V (i + 1) m' H') ∧ ∀ x H', J.yld i H x H' → g x (wipe σ vs) H' fun σ2 H2 => wipe σ2 vs = wipe σ vs ∧ tt σ2 H2 fun b H3 =>
        if b = true then te σ2 H3 fun y H4 => ∃ acc, H4 D = some (.lst acc) ∧ acc.length < sizeLine ∧ Nx (upd H4 D (.lst (acc ++ [y]))) else Nx H3) := by
  refine ⟨fun i m H => m = n - i ∧ i ≤ n ∧ Pv i H, ⟨n, rfl, Nat.zero_le _, h0⟩, ?_⟩
  rintro i m H ⟨rfl, hi, p⟩
  obtain ⟨j1, j2, j3⟩ := hJ i H hi p
  by_cases lt : i < n
  · exact .inr ⟨j2 lt, Pv (i + 1), fun H' p' => ⟨n - (i + 1), by omega, rfl, lt, p'⟩, fun x H' y => hs i x H H' lt (j3 x H' y) p⟩
  · obtain rfl : i = n := by omega
    exact .inl ⟨j1 (Nat.le_refl _), hd H p⟩
theorem dc_at {g : TG} {tt : TT} {tk tv : TE} {vs : List Nat} {σ : L2.St} {H1 : Hp} {D : Addr} {Qd : Hp → Prop} (Pv : Nat → Hp → Prop) (h0 : Pv 0 (upd H1 D (.dK []))) (hJ : ∀ i H, i ≤ n → Pv i H → Walks J n Y i H)
    (hs : ∀ i x H H', i < n → Y i H x H' → Pv i H → g x (wipe σ vs) H' fun σ2 H2 => wipe σ2 vs = wipe σ vs ∧ tt σ2 H2 fun b H3 =>
      if b = true then tk σ2 H3 fun y H4 => tv σ2 H4 fun u H5 => ∃ kvs k, y = kV k ∧ H5 D = some (.dK kvs) ∧ kvs.length < sizeLine ∧ Pv (i + 1) (upd H5 D (.dK (putK kvs k u))) else Pv (i + 1) H3) (hd : ∀ H, Pv n H → Qd H) :
    ∃ V : Nat → Nat → Hp → Prop, (∃ m, V 0 m (upd H1 D (.dK []))) ∧ ∀ i m H, V i m H →
      (J.stop i H ∧ Qd H) ∨ (J.go i H ∧ ∃ Nx : Hp → Prop, (∀ H', Nx H' → ∃ m', m' < m ∧ V (i + 1) m' H') ∧ ∀ x H', J.yld i H x H' → g x (wipe σ vs) H' fun σ2 H2 => wipe σ2 vs = wipe σ vs ∧ tt σ2 H2 fun b H3 =>
        if b = true then tk σ2 H3 fun y H4 => tv σ2 H4 fun u H5 => ∃ kvs k, y = kV k ∧ H5 D = some (.dK kvs) ∧ kvs.length < sizeLine ∧ Nx (upd H5 D (.dK (putK kvs k u))) else Nx H3) := by
  refine ⟨fun i m H => m = n - i ∧ i ≤ n ∧ Pv i H, ⟨n, rfl, Nat.zero_le _, h0⟩, ?_⟩
  rintro i m H ⟨rfl, hi, p⟩
  obtain ⟨j1, j2, j3⟩ := hJ i H hi p
  by_cases lt : i < n
  · exact .inr ⟨j2 lt, Pv (i + 1), fun H' p' => ⟨n - (i + 1), by omega, rfl, lt, p'⟩, fun x H' y => hs i x H H' lt (j3 x H' y) p⟩
  · obtain rfl : i = n := by omega
    exact .inl ⟨j1 (Nat.le_refl _), hd H p⟩
end
section
variable {X : Cx} {K : PySem.W.Frag} {o e : Expr} {es : List Expr} {to : TE} {t : TA} {name : Str} {apos cpos : Pos} {T id : String} {r : V → List V → Hp → VK → Prop}
/-- methods of built-in types within a comprehension: K written out -/
theorem pe_bm0K (hK : X.K = K) (pa : PlainAttrs T) (slot : Slot T name id) (hty : typeOf (.builtin id) = pure (.type "method_descriptor")) (hm : MtR X id r) (ho : PE X o to)
    (hb : attributeBase o name X.env (eval o X.env) = eval o X.env := by rfl) (hl : (apos.endLine == cpos.line) = true := by rfl) : PE X (.Call (.Attribute o name apos) [] [] cpos) (tBM0 K T r to) := by
  subst hK
  exact pe_bm0 pa slot hty hm ho hb hl
theorem pe_bmK (hK : X.K = K) (pa : PlainAttrs T) (slot : Slot T name id) (hty : typeOf (.builtin id) = pure (.type "method_descriptor")) (hm : MtR X id r) (ho : PE X o to) (ha : PA X (e :: es) t)
    (hb : attributeBase o name X.env (eval o X.env) = eval o X.env := by rfl)
    (hf : ((backTo cpos (starEach (e :: es) X.env)).all (fun x => !x.1) && (backToKw cpos (keywordEach [] X.env)).all (fun x => x.1.isSome) && decide ((e :: es).length + ([] : List Keyword).length + (if ([] : List Keyword).isEmpty then 0 else 1) < 30)) = true := by rfl)
    (hl : (apos.endLine == cpos.line) = true := by rfl) (hs : starEach (e :: es) X.env = (false, eval e X.env) :: starEach es X.env := by rfl) (hp : (backTo cpos (starEach es X.env)).any (·.1) = false := by rfl) :
    PE X (.Call (.Attribute o name apos) (e :: es) [] cpos) (tBM K T r to t) := by
  subst hK
  exact pe_bm pa slot hty hm ho ha hb hf hl hs hp
end
section
variable {X : Cx} {CX : CXT} {k : Nat} {f C : Addr} {fd : FuncData} {ps : List Str} {sp : Sp} {E : XK}
/-- == by an own __eq__: of two instances, or of one and a text -/
def rEqOwn (K : PySem.W.Frag) (C : Addr) (sp : Sp) (E : XK) : R2 := fun x y H Q => ∃ (a dx : Addr) (fs : List (Str × V)), x = .ref a ∧ H a = some (.ins C dx fs) ∧
  ((∃ (b dy : Addr) (gs : List (Str × V)), y = .ref b ∧ H b = some (.ins C dy gs)) ∨ (∃ z : Str, y = .str z ∧ PySem.W.subIn K (.type "str") (.ref C) = some false)) ∧ sp [x, y] H (fun v H' => (∃ b : Bool, v = .bl b) ∧ Q v H') E
theorem op_eqOwn (F : FnOk X.prog X.w X.K X.mg X.base CX k f fd ps sp) (hr : Room k X.A) (hs : PySem.W.findIn X.K (.ref C) "__eq__" = some (some (.ref f))) (hf : PySem.W.isFn X.K (.ref f) = true) (hb : Binds X.K fd ps []) (hx : Passes CX X E) : OpR X (compareOp .Eq) (rEqOwn X.K C sp E) := by
  intro pins s σ H x y v u Q J rx ry h
  obtain ⟨a, dx, fs, rfl, ha, hy, q⟩ := h
  cases rx
  have run : wpAny (model X.prog X.w) X.A (call (.ref f) [.ref a, u]) (PySem.W.CmpBack (EP X pins σ Q)) X.xe s := by
    refine thn (run_fn F hr hb .nil hx J (show Vals [V.ref a, y] [Value.ref a, u] from .cons rfl (.cons ry .nil)) q) fun r s' ⟨z, H', J', rz, ⟨b, ez⟩, qz⟩ => ?_
    subst ez
    cases rz
    exact ⟨.bl b, H', J', rfl, qz⟩
  obtain ⟨mA, O, _⟩ := ins_get J.hok ha
  obtain ⟨od, O, _⟩ := O.look
  obtain ⟨m, hF⟩ := J.fr
  show wpAny (model X.prog X.w) X.A (richCompare .Eq (.ref a) u) (EP X pins σ Q) X.xe s
  rcases hy with ⟨b, dy, gs, rfl, hb'⟩ | ⟨z, rfl, hz⟩
  · cases ry
    obtain ⟨mB, O', _⟩ := ins_get J.hok hb'
    obtain ⟨od', O', _⟩ := O'.look
    exact PySem.W.cmp_K (op := .Eq) (tb := .ref C) hr.units0 hF J.ok.mod.kin O O'.type (by simp [PySem.W.notFirst]) hs hf run
  · obtain ⟨t, rfl⟩ := ry
    exact PySem.W.cmp_K (op := .Eq) (tb := .type "str") hr.units0 hF J.ok.mod.kin O (PySem.W.Looks.of_pure rfl) (by simp [PySem.W.notFirst, hz]) hs hf run
end
theorem kit_no {K : PySem.W.Frag} {n : String} {D : Addr} (hd : PySem.W.hasDictIn K D = true) (ht : PySem.W.typeIn K (.ref D) = some (.type "type")) (hs : PySem.W.subIn K (.type n) (.ref D) = some false) : PySem.W.kitOne K (.type n) (.ref D) = some false := by
  obtain ⟨cd, hc, _⟩ := PySem.W.any_some hd
  have e : ((PySem.W.clsIn K D).isSome && PySem.W.typeIn K (.ref D) == some (.type "type")) = true := by
    rw [hc, ht]
    rfl
  unfold PySem.W.kitOne PySem.W.kitCls
  rw [if_neg (by simp)]
  show (if ((PySem.W.clsIn K D).isSome && PySem.W.typeIn K (.ref D) == some (.type "type")) = true then PySem.W.subIn K (.type n) (.ref D) else none) = some false
  rw [if_pos e]
  exact hs
section
variable {X : Cx} {K : PySem.W.Frag}
theorem pi_zipMK {e e2 : Expr} {ta : TA} {p pos tpos : Pos} {elts : List Expr} {kk : Nat} (hK : X.K = K) (hg : Gl X "zip") (hm : X.mg "zip" = none) (ha : PA X [e, e2] ta)
    (hs : starEach [e, e2] X.env = (false, eval e X.env) :: starEach [e2] X.env := by rfl) (hp : (backTo pos (starEach [e2] X.env)).any (·.1) = false := by rfl) : PI X (.Tuple elts kk tpos) (.Call (.Name "zip" p) [e, e2] [] pos) (iZipM K ta) := by
  subst hK
  exact pi_zipM hg hm ha hs hp
theorem pe_fldK {e : Expr} {f : Str} {pos : Pos} {ta : TE} (hK : X.K = K) (he : PE X e ta) (hb : attributeBase e f X.env (eval e X.env) = eval e X.env) : PE X (.Attribute e f pos) (tFld K ta f) := by
  subst hK
  exact pe_fld he hb
end
section
variable {X : Cx}
/-- a, b = x, y with plain local names: stored from the right -/
def tPar2 (i j : Nat) (ta : TA) : TS := fun D σ H => ta σ H fun vs H1 => ∃ u v, vs = [u, v] ∧ D.nx ((σ.set i (some u)).set j (some v)) H1
theorem ps_par2 {i j : Nat} {x y : Str} {a b : Expr} {ta : TA} {px py pt pos : Pos} {kt k2 pt2} (hc : X.calm = true) (hN : X.N.Nodup) (hi : X.N[i]? = some x) (hj : X.N[j]? = some y) (hij : i ≠ j) (hx : X.env.scope.names.lookup x = some .local) (hy : X.env.scope.names.lookup y = some .local)
    (ha : PA X [a, b] ta) (hw : swappedStores [.Tuple [.Name x px, .Name y py] kt pt] (.Tuple [a, b] k2 pt2) X.env = pure (some [x, y])) (hs : swapsWithSole [.Tuple [.Name x px, .Name y py] kt pt] (.Tuple [a, b] k2 pt2) pos.line X.env = pure false := by rfl) :
    PS X (.Assign [.Tuple [.Name x px, .Name y py] kt pt] (.Tuple [a, b] k2 pt2) pos) (tPar2 i j ta) := by
  refine ⟨fun pins s σ H D J h => ?_⟩
  rw [exec_Assign_arm]
  refine wpAny_bind (wpAny_standAt ?_)
  rw [hs]
  refine wpAny_bind (wpAny_pure ?_)
  rw [if_neg (by decide)]
  refine wpAny_bind (Tuple_ (thn (ha.run _ pins s σ H _ J h) fun us s1 ⟨vs, H1, J1, r1, q1⟩ => ?_))
  obtain ⟨v1, v2, rfl, q1⟩ := q1
  obtain ⟨u1, u2, rfl, ra, rb⟩ := vals2 r1
  refine wpAny_newObj_type ?_ (by show 2 ≤ sizeLine; decide)
  have J2 : Inv X pins σ H1 { s1 with heap := s1.heap.push { cls := .type "tuple", data := .seq [u1, u2].toArray } } := J1.kept (t' := s1.toks) fun b o e => Heap.get?_push_of_some _ e
  rw [hw]
  refine wpAny_bind (wpAny_pure ?_)
  show wpAny (model X.prog X.w) X.A (do rule "assign.swapped-stores"; let items ← unpackItems (.ref s1.heap.objs.size) 2 none; assignInOrder [fun v => bindName X.env y v, fun v => bindName X.env x v] items.reverse; pure Flow.next) _ _ _
  refine wpAny_bind (wpAny_rule (wpAny_bind (unpackItems_tuple (items := #[u1, u2]) (J.ok.hd hc) (IsTup.new s1.heap _) fun h' hx' => ?_)))
  have J3 := J2.kept (h' := h') (t' := s1.toks) fun b o e => hx' b o (Nat.ne_of_lt (Heap.lt_size e)) e
  show wpAny _ _ (assignInOrder [fun v => bindName X.env y v, fun v => bindName X.env x v] [u2, u1] >>= fun _ => pure Flow.next) _ _ _
  refine wpAny_bind (assignInOrder_cons (wpAny_bindName (store_ok J3 hN hj (.inl hy) rb (fun s2 J4 => ?_) (.inr hy))))
  refine assignInOrder_cons (wpAny_bindName (store_ok J4 hN hi (.inl hx) ra (fun s3 J5 => assignInOrder_nil (wpAny_pure ?_)) (.inr hx)))
  rw [List.set_comm _ _ (Ne.symm hij)] at J5
  exact ⟨_, H1, J5, q1⟩
end
end L2
namespace Pt
open PySem PySem.Spec PyProof.Rows L2
open SX (S S_len S_cat)
def top (i : Nat) : Stmt := PySem.Challenge.pw_partlabels_k21_labels.main.body.getD i (.Pass ⟨0, 0, 0, 0⟩)
structure Cs where
  CN : Addr
  CT : Addr
  fN : Addr
  fdN : FuncData
  TF : Addr
  TJ : Addr
  CL : Addr
  pHd : Addr
  mHd : Addr
  fdHd : FuncData
  pSh : Addr
  mSh : Addr
  fdSh : FuncData
  pJn : Addr
  mJn : Addr
  fdJn : FuncData
  mEq : Addr
  fdEq : FuncData
  mSf : Addr
  fdSf : FuncData
  mOf : Addr
  fdOf : FuncData
  mRd : Addr
  fdRd : FuncData
  mTx : Addr
  fdTx : FuncData
  iL : Addr
  fdIL : FuncData
  dL : Addr
structure Txt (K : PySem.W.Frag) (mg : Str → Option Value) (c : Cs) : Prop where
  z_abs : mg "abs" = none
  z_all : mg "all" = none
  z_bool : mg "bool" = none
  z_divmod : mg "divmod" = none
  z_enumerate : mg "enumerate" = none
  z_int : mg "int" = none
  z_isinstance : mg "isinstance" = none
  z_len : mg "len" = none
  z_list : mg "list" = none
  z_ord : mg "ord" = none
  z_range : mg "range" = none
  z_str : mg "str" = none
  z_tuple : mg "tuple" = none
  z_zip : mg "zip" = none
  g_ALPHABET : ∃ u, mg "ALPHABET" = some u ∧ RelV (.str (S [97, 98, 99, 100, 101, 102, 103, 104, 105, 106, 107, 108, 109, 110, 111, 112, 113, 114, 115, 116, 117, 118, 119, 120, 121, 122])) u
  g_LONGEST : ∃ u, mg "LONGEST" = some u ∧ RelV (.int 8) u
  g_LONGEST_HEAD : ∃ u, mg "LONGEST_HEAD" = some u ∧ RelV (.int 30) u
  g_MOST_SHOWN : ∃ u, mg "MOST_SHOWN" = some u ∧ RelV (.int 4) u
  xN : XC K mg "BadNumber" c.CN
  xT : XC K mg "BadText" c.CT
  noN : PySem.W.findIn K (.ref c.CN) "number" = some none
  iN : PySem.W.findIn K (.ref c.CN) "__init__" = some (some (.ref c.fN))
  tN : PySem.W.typeIn K (.ref c.fN) = some (.type "function")
  fnN : Fun K "__init__" "BadNumber.__init__" (inClass (top 4) 0) c.fN c.fdN
  bN : Binds K c.fdN ["self", "number"] []
  qT : PySem.W.excIn K c.CT [.type "ValueError", .type "Exception", .type "BaseException", .type "object"] "ValueError.__new__" = true
  gt_FORMATS : mg "FORMATS" = some (.ref c.TF)
  tt_FORMATS : ∀ H : Hp, SqT K H c.TF [(.str (S [102, 105, 103, 117, 114, 101, 115])), (.str (S [108, 101, 116, 116, 101, 114, 115]))]
  gt_JOINTS : mg "JOINTS" = some (.ref c.TJ)
  tt_JOINTS : ∀ H : Hp, SqT K H c.TJ [(.str (S [46])), (.str (S [58])), (.str (S [47]))]
  gCL : mg "Label" = some (.ref c.CL)
  clL : Cls K c.CL
  tyL : ∀ {H : Hp} {a dx : Addr} {fs : List (Str × V)}, H a = some (.ins c.CL dx fs) → TyX K H (.ref a) (.ref c.CL)
  kkL : PySem.W.kitOne K (.ref c.CL) (.ref c.CL) = some true
  ksL : PySem.W.kitOne K (.type "str") (.ref c.CL) = some false
  suL : PySem.W.subIn K (.type "str") (.ref c.CL) = some false
  naL__head : NoAttr K c.CL "_head"
  naL__shown : NoAttr K c.CL "_shown"
  naL__joints : NoAttr K c.CL "_joints"
  d_is_number : DefAt K mg "is_number" (top 9) ["value"]
  d_is_natural : DefAt K mg "is_natural" (top 10) ["value"]
  d_figures : DefAt K mg "figures" (top 13) ["number"]
  d_letters : DefAt K mg "letters" (top 14) ["number"]
  d_read_figures : DefAt K mg "read_figures" (top 15) ["text"]
  d_read_letters : DefAt K mg "read_letters" (top 16) ["text"]
  d_is_name : DefAt K mg "is_name" (top 19) ["text"]
  d_read_label : DefAt K mg "read_label" (top 26) ["text"]
  d_is_head : DefAt K mg "is_head" (top 27) ["value"]
  d_wrong_item : DefAt K mg "wrong_item" (top 28) ["shown"]
  d_is_shown : DefAt K mg "is_shown" (top 29) ["item"]
  d_fit_between : DefAt K mg "fit_between" (top 30) ["joints", "shown"]
  d_number_text : DefAt K mg "number_text" (top 31) ["form", "number"]
  d_read_number : DefAt K mg "read_number" (top 32) ["form", "text"]
  d_shown_text : DefAt K mg "shown_text" (top 33) ["counter", "form"]
  d_read_shown : DefAt K mg "read_shown" (top 34) ["piece"]
  d_joined : DefAt K mg "joined" (top 35) ["texts", "joints"]
  d_parted : DefAt K mg "parted" (top 36) ["text", "joints"]
  d__law_tape : DefAt K mg "_law_tape" (top 38) ["_law_script", "_law_k"]
  d__law_pick : DefAt K mg "_law_pick" (top 39) ["_law_tape_here", "_law_many"]
  d__law_shuffled : DefAt K mg "_law_shuffled" (top 40) ["_law_tape_here", "_law_items"]
  d__law_word : DefAt K mg "_law_word" (top 41) ["_law_number_here"]
  d__law_figure : DefAt K mg "_law_figure" (top 42) ["_law_form", "_law_number_here"]
  d__law_head : DefAt K mg "_law_head" (top 43) ["_law_tape_here"]
  d__law_plan : DefAt K mg "_law_plan" (top 44) ["_law_tape_here"]
  d__law_twin : DefAt K mg "_law_twin" (top 45) ["_law_tape_here", "_law_plan_here"]
  d__law_joined : DefAt K mg "_law_joined" (top 46) ["_law_plan_here", "_law_words"]
  d__law_due : DefAt K mg "_law_due" (top 47) ["_law_plan_here", "_law_numbers_here"]
  d__law_face : DefAt K mg "_law_face" (top 48) ["_law_plan_here"]
  d__law_number : DefAt K mg "_law_number" (top 49) ["_law_form", "_law_word_here"]
  d__law_read : DefAt K mg "_law_read" (top 50) ["_law_plan_here", "_law_line"]
  d__law_bent : DefAt K mg "_law_bent" (top 51) ["_law_tape_here", "_law_line"]
  d__law_numbers : DefAt K mg "_law_numbers" (top 52) ["_law_tape_here", "_law_plans", "_law_most"]
  d__law_right : DefAt K mg "_law_right" (top 53) ["_law_plan_here", "_law_made_here"]
  d__law_made : DefAt K mg "_law_made" (top 54) ["_law_plan_here", "_law_choice"]
  FHd : Fun K "head" "Label.head" (inClass (top 25) 1) c.mHd c.fdHd
  bHd : Binds K c.fdHd ["self"] []
  PHd : PropOf K c.CL "head" c.pHd c.mHd
  FSh : Fun K "shown" "Label.shown" (inClass (top 25) 2) c.mSh c.fdSh
  bSh : Binds K c.fdSh ["self"] []
  PSh : PropOf K c.CL "shown" c.pSh c.mSh
  FJn : Fun K "joints" "Label.joints" (inClass (top 25) 3) c.mJn c.fdJn
  bJn : Binds K c.fdJn ["self"] []
  PJn : PropOf K c.CL "joints" c.pJn c.mJn
  FEq : Fun K "__eq__" "Label.__eq__" (inClass (top 25) 4) c.mEq c.fdEq
  bEq : Binds K c.fdEq ["self", "other"] []
  MEq : Meth K c.CL "__eq__" c.mEq
  FSf : Fun K "same_form" "Label.same_form" (inClass (top 25) 5) c.mSf c.fdSf
  bSf : Binds K c.fdSf ["self", "other"] []
  MSf : Meth K c.CL "same_form" c.mSf
  FOf : Fun K "of" "Label.of" (inClass (top 25) 6) c.mOf c.fdOf
  bOf : Binds K c.fdOf ["self", "values"] []
  MOf : Meth K c.CL "of" c.mOf
  FRd : Fun K "read" "Label.read" (inClass (top 25) 7) c.mRd c.fdRd
  bRd : Binds K c.fdRd ["self", "text"] []
  MRd : Meth K c.CL "read" c.mRd
  FTx : Fun K "text" "Label.text" (inClass (top 25) 8) c.mTx c.fdTx
  bTx : Binds K c.fdTx ["self"] []
  MTx : Meth K c.CL "text" c.mTx
  FIL : FunD K "__init__" "Label.__init__" (defArgs (inClass (top 25) 0)) (defBody (inClass (top 25) 0)) (defScope (inClass (top 25) 0)) [.ref c.dL] [] c.iL c.fdIL
  mkL : Mk K c.CL c.iL
  tdL : ∀ H : Hp, SqT K H c.dL []
theorem txt_of {K : PySem.W.Frag} {h : Heap} {mg : Str → Option Value} {CN : Addr} {CT : Addr} {fN : Addr} {TF : Addr} {TJ : Addr} {CL : Addr} {pHd : Addr} {mHd : Addr} {pSh : Addr} {mSh : Addr} {pJn : Addr} {mJn : Addr} {mEq : Addr} {mSf : Addr} {mOf : Addr} {mRd : Addr} {mTx : Addr} {iL : Addr} {dL : Addr} {u_ALPHABET : Value} {u_LONGEST : Value} {u_LONGEST_HEAD : Value} {u_MOST_SHOWN : Value} {nmN qN : Str} {NN : Addr} {bsN bmN : List Value} {snN : List Str} {subN : List Value} {abN : Bool} {colN : Option Bool} {ddN : Option Addr} {k0N k1N k2N k3N k5N : Option Value} {nmT qT : Str} {NT : Addr} {bsT bmT : List Value} {snT : List Str} {subT : List Value} {abT : Bool} {colT : Option Bool} {ddT : Option Addr} {k0T k1T k2T k3T k5T : Option Value} {kVN dcN pmN cdN ctN ocN : Value} {anN odN : Option Addr} {slN : Array (Option Value)} {od_FORMATS : Option Addr} {it_FORMATS : Array Value} {nn_FORMATS : Nat} {sl_FORMATS : Array (Option Value)} {od_JOINTS : Option Addr} {it_JOINTS : Array Value} {nn_JOINTS : Nat} {sl_JOINTS : Array (Option Value)} {f_is_number : Addr} {kVis_number dcis_number pmis_number cdis_number ctis_number ocis_number : Value} {anis_number odis_number : Option Addr} {slis_number : Array (Option Value)} {f_is_natural : Addr} {kVis_natural dcis_natural pmis_natural cdis_natural ctis_natural ocis_natural : Value} {anis_natural odis_natural : Option Addr} {slis_natural : Array (Option Value)} {f_figures : Addr} {kVfigures dcfigures pmfigures cdfigures ctfigures ocfigures : Value} {anfigures odfigures : Option Addr} {slfigures : Array (Option Value)} {f_letters : Addr} {kVletters dcletters pmletters cdletters ctletters ocletters : Value} {anletters odletters : Option Addr} {slletters : Array (Option Value)} {f_read_figures : Addr} {kVread_figures dcread_figures pmread_figures cdread_figures ctread_figures ocread_figures : Value} {anread_figures odread_figures : Option Addr} {slread_figures : Array (Option Value)} {f_read_letters : Addr} {kVread_letters dcread_letters pmread_letters cdread_letters ctread_letters ocread_letters : Value} {anread_letters odread_letters : Option Addr} {slread_letters : Array (Option Value)} {f_is_name : Addr} {kVis_name dcis_name pmis_name cdis_name ctis_name ocis_name : Value} {anis_name odis_name : Option Addr} {slis_name : Array (Option Value)} {f_read_label : Addr} {kVread_label dcread_label pmread_label cdread_label ctread_label ocread_label : Value} {anread_label odread_label : Option Addr} {slread_label : Array (Option Value)} {f_is_head : Addr} {kVis_head dcis_head pmis_head cdis_head ctis_head ocis_head : Value} {anis_head odis_head : Option Addr} {slis_head : Array (Option Value)} {f_wrong_item : Addr} {kVwrong_item dcwrong_item pmwrong_item cdwrong_item ctwrong_item ocwrong_item : Value} {anwrong_item odwrong_item : Option Addr} {slwrong_item : Array (Option Value)} {f_is_shown : Addr} {kVis_shown dcis_shown pmis_shown cdis_shown ctis_shown ocis_shown : Value} {anis_shown odis_shown : Option Addr} {slis_shown : Array (Option Value)} {f_fit_between : Addr} {kVfit_between dcfit_between pmfit_between cdfit_between ctfit_between ocfit_between : Value} {anfit_between odfit_between : Option Addr} {slfit_between : Array (Option Value)} {f_number_text : Addr} {kVnumber_text dcnumber_text pmnumber_text cdnumber_text ctnumber_text ocnumber_text : Value} {annumber_text odnumber_text : Option Addr} {slnumber_text : Array (Option Value)} {f_read_number : Addr} {kVread_number dcread_number pmread_number cdread_number ctread_number ocread_number : Value} {anread_number odread_number : Option Addr} {slread_number : Array (Option Value)} {f_shown_text : Addr} {kVshown_text dcshown_text pmshown_text cdshown_text ctshown_text ocshown_text : Value} {anshown_text odshown_text : Option Addr} {slshown_text : Array (Option Value)} {f_read_shown : Addr} {kVread_shown dcread_shown pmread_shown cdread_shown ctread_shown ocread_shown : Value} {anread_shown odread_shown : Option Addr} {slread_shown : Array (Option Value)} {f_joined : Addr} {kVjoined dcjoined pmjoined cdjoined ctjoined ocjoined : Value} {anjoined odjoined : Option Addr} {sljoined : Array (Option Value)} {f_parted : Addr} {kVparted dcparted pmparted cdparted ctparted ocparted : Value} {anparted odparted : Option Addr} {slparted : Array (Option Value)} {f__law_tape : Addr} {kV_law_tape dc_law_tape pm_law_tape cd_law_tape ct_law_tape oc_law_tape : Value} {an_law_tape od_law_tape : Option Addr} {sl_law_tape : Array (Option Value)} {f__law_pick : Addr} {kV_law_pick dc_law_pick pm_law_pick cd_law_pick ct_law_pick oc_law_pick : Value} {an_law_pick od_law_pick : Option Addr} {sl_law_pick : Array (Option Value)} {f__law_shuffled : Addr} {kV_law_shuffled dc_law_shuffled pm_law_shuffled cd_law_shuffled ct_law_shuffled oc_law_shuffled : Value} {an_law_shuffled od_law_shuffled : Option Addr} {sl_law_shuffled : Array (Option Value)} {f__law_word : Addr} {kV_law_word dc_law_word pm_law_word cd_law_word ct_law_word oc_law_word : Value} {an_law_word od_law_word : Option Addr} {sl_law_word : Array (Option Value)} {f__law_figure : Addr} {kV_law_figure dc_law_figure pm_law_figure cd_law_figure ct_law_figure oc_law_figure : Value} {an_law_figure od_law_figure : Option Addr} {sl_law_figure : Array (Option Value)} {f__law_head : Addr} {kV_law_head dc_law_head pm_law_head cd_law_head ct_law_head oc_law_head : Value} {an_law_head od_law_head : Option Addr} {sl_law_head : Array (Option Value)} {f__law_plan : Addr} {kV_law_plan dc_law_plan pm_law_plan cd_law_plan ct_law_plan oc_law_plan : Value} {an_law_plan od_law_plan : Option Addr} {sl_law_plan : Array (Option Value)} {f__law_twin : Addr} {kV_law_twin dc_law_twin pm_law_twin cd_law_twin ct_law_twin oc_law_twin : Value} {an_law_twin od_law_twin : Option Addr} {sl_law_twin : Array (Option Value)} {f__law_joined : Addr} {kV_law_joined dc_law_joined pm_law_joined cd_law_joined ct_law_joined oc_law_joined : Value} {an_law_joined od_law_joined : Option Addr} {sl_law_joined : Array (Option Value)} {f__law_due : Addr} {kV_law_due dc_law_due pm_law_due cd_law_due ct_law_due oc_law_due : Value} {an_law_due od_law_due : Option Addr} {sl_law_due : Array (Option Value)} {f__law_face : Addr} {kV_law_face dc_law_face pm_law_face cd_law_face ct_law_face oc_law_face : Value} {an_law_face od_law_face : Option Addr} {sl_law_face : Array (Option Value)} {f__law_number : Addr} {kV_law_number dc_law_number pm_law_number cd_law_number ct_law_number oc_law_number : Value} {an_law_number od_law_number : Option Addr} {sl_law_number : Array (Option Value)} {f__law_read : Addr} {kV_law_read dc_law_read pm_law_read cd_law_read ct_law_read oc_law_read : Value} {an_law_read od_law_read : Option Addr} {sl_law_read : Array (Option Value)} {f__law_bent : Addr} {kV_law_bent dc_law_bent pm_law_bent cd_law_bent ct_law_bent oc_law_bent : Value} {an_law_bent od_law_bent : Option Addr} {sl_law_bent : Array (Option Value)} {f__law_numbers : Addr} {kV_law_numbers dc_law_numbers pm_law_numbers cd_law_numbers ct_law_numbers oc_law_numbers : Value} {an_law_numbers od_law_numbers : Option Addr} {sl_law_numbers : Array (Option Value)} {f__law_right : Addr} {kV_law_right dc_law_right pm_law_right cd_law_right ct_law_right oc_law_right : Value} {an_law_right od_law_right : Option Addr} {sl_law_right : Array (Option Value)} {f__law_made : Addr} {kV_law_made dc_law_made pm_law_made cd_law_made ct_law_made oc_law_made : Value} {an_law_made od_law_made : Option Addr} {sl_law_made : Array (Option Value)} {kVHd dcHd pmHd cdHd ctHd ocHd : Value} {anHd odHd : Option Addr} {slHd : Array (Option Value)} {reHd : List Value} {kVSh dcSh pmSh cdSh ctSh ocSh : Value} {anSh odSh : Option Addr} {slSh : Array (Option Value)} {reSh : List Value} {kVJn dcJn pmJn cdJn ctJn ocJn : Value} {anJn odJn : Option Addr} {slJn : Array (Option Value)} {reJn : List Value} {kVEq dcEq pmEq cdEq ctEq ocEq : Value} {anEq odEq : Option Addr} {slEq : Array (Option Value)} {kVSf dcSf pmSf cdSf ctSf ocSf : Value} {anSf odSf : Option Addr} {slSf : Array (Option Value)} {kVOf dcOf pmOf cdOf ctOf ocOf : Value} {anOf odOf : Option Addr} {slOf : Array (Option Value)} {kVRd dcRd pmRd cdRd ctRd ocRd : Value} {anRd odRd : Option Addr} {slRd : Array (Option Value)} {kVTx dcTx pmTx cdTx ctTx ocTx : Value} {anTx odTx : Option Addr} {slTx : Array (Option Value)} {kVIL dcIL pmIL cdIL ctIL ocIL : Value} {anIL odIL : Option Addr} {slIL : Array (Option Value)} {TIL : Addr} {oTIL : Option Addr} {cTIL : Value} {iTIL : List Value} {nTIL : Nat} {sTIL : Array (Option Value)} {oDIL : Option Addr} {nDIL : Nat} {sDIL : Array (Option Value)} (X : K.In h) (G : h.Ns mainGlobals mg)
    (z_abs : PySem.W.nsIn K mainGlobals "abs" = some none)
    (z_all : PySem.W.nsIn K mainGlobals "all" = some none)
    (z_bool : PySem.W.nsIn K mainGlobals "bool" = some none)
    (z_divmod : PySem.W.nsIn K mainGlobals "divmod" = some none)
    (z_enumerate : PySem.W.nsIn K mainGlobals "enumerate" = some none)
    (z_int : PySem.W.nsIn K mainGlobals "int" = some none)
    (z_isinstance : PySem.W.nsIn K mainGlobals "isinstance" = some none)
    (z_len : PySem.W.nsIn K mainGlobals "len" = some none)
    (z_list : PySem.W.nsIn K mainGlobals "list" = some none)
    (z_ord : PySem.W.nsIn K mainGlobals "ord" = some none)
    (z_range : PySem.W.nsIn K mainGlobals "range" = some none)
    (z_str : PySem.W.nsIn K mainGlobals "str" = some none)
    (z_tuple : PySem.W.nsIn K mainGlobals "tuple" = some none)
    (z_zip : PySem.W.nsIn K mainGlobals "zip" = some none)
    (g_ALPHABET : PySem.W.nsIn K mainGlobals "ALPHABET" = some (some u_ALPHABET))
    (r_ALPHABET : RelV (.str (S [97, 98, 99, 100, 101, 102, 103, 104, 105, 106, 107, 108, 109, 110, 111, 112, 113, 114, 115, 116, 117, 118, 119, 120, 121, 122])) u_ALPHABET)
    (g_LONGEST : PySem.W.nsIn K mainGlobals "LONGEST" = some (some u_LONGEST))
    (r_LONGEST : RelV (.int 8) u_LONGEST)
    (g_LONGEST_HEAD : PySem.W.nsIn K mainGlobals "LONGEST_HEAD" = some (some u_LONGEST_HEAD))
    (r_LONGEST_HEAD : RelV (.int 30) u_LONGEST_HEAD)
    (g_MOST_SHOWN : PySem.W.nsIn K mainGlobals "MOST_SHOWN" = some (some u_MOST_SHOWN))
    (r_MOST_SHOWN : RelV (.int 4) u_MOST_SHOWN)
    (mg_N : PySem.W.nsIn K mainGlobals "BadNumber" = some (some (.ref CN)))
    (l_N : K.lookup CN = some (excClassObj nmN qN CN NN bsN bmN true snN subN abN colN ddN k0N k1N k2N k3N k5N "ValueError.__new__"))
    (b_N : PySem.HandSPX.refsVE bmN = true)
    (sa_N : PySem.W.findIn K (.ref CN) "__setattr__" = some (some (.builtin "object.__setattr__")))
    (ty_N : PySem.W.typeIn K (.ref CN) = some (.type "type"))
    (kc_N : PySem.W.keepIn K (.ref CN) = true)
    (hg_N : PySem.W.findIn K (.ref CN) "__getattribute__" = some (some (.builtin "BaseException.__getattribute__")))
    (hk_N : PySem.W.findIn K (.ref CN) "__getattr__" = some none)
    (hs_N : PySem.W.subIn K (.ref CN) (.type "BaseException") = some true)
    (hd_N : PySem.W.hasDictIn K CN = true)
    (ha_N : PySem.W.findIn K (.ref CN) "__class__" = some (some (.builtin "object.__class__")))
    (hn_N : PySem.W.specialIn K (.builtin "object.__class__") "__get__" = some (some (.builtin "getset_descriptor.__get__")))
    (ht_N : PySem.W.takesIn K (.builtin "object.__class__") = some true)
    (hm_N : PySem.W.mroIn K CN (.type "object") = some true)
    (ss_N : PySem.W.subIn K (.ref CN) (.ref CN) = some true)
    (mg_T : PySem.W.nsIn K mainGlobals "BadText" = some (some (.ref CT)))
    (l_T : K.lookup CT = some (excClassObj nmT qT CT NT bsT bmT true snT subT abT colT ddT k0T k1T k2T k3T k5T "ValueError.__new__"))
    (b_T : PySem.HandSPX.refsVE bmT = true)
    (sa_T : PySem.W.findIn K (.ref CT) "__setattr__" = some (some (.builtin "object.__setattr__")))
    (ty_T : PySem.W.typeIn K (.ref CT) = some (.type "type"))
    (kc_T : PySem.W.keepIn K (.ref CT) = true)
    (hg_T : PySem.W.findIn K (.ref CT) "__getattribute__" = some (some (.builtin "BaseException.__getattribute__")))
    (hk_T : PySem.W.findIn K (.ref CT) "__getattr__" = some none)
    (hs_T : PySem.W.subIn K (.ref CT) (.type "BaseException") = some true)
    (hd_T : PySem.W.hasDictIn K CT = true)
    (ha_T : PySem.W.findIn K (.ref CT) "__class__" = some (some (.builtin "object.__class__")))
    (hn_T : PySem.W.specialIn K (.builtin "object.__class__") "__get__" = some (some (.builtin "getset_descriptor.__get__")))
    (ht_T : PySem.W.takesIn K (.builtin "object.__class__") = some true)
    (hm_T : PySem.W.mroIn K CT (.type "object") = some true)
    (ss_T : PySem.W.subIn K (.ref CT) (.ref CT) = some true)
    (noN : PySem.W.findIn K (.ref CN) "number" = some none)
    (iN : PySem.W.findIn K (.ref CN) "__init__" = some (some (.ref fN)))
    (tN : PySem.W.typeIn K (.ref fN) = some (.type "function"))
    (lfN : K.lookup fN = some ⟨ocN, odN, .func (PySem.W.fnOf "__init__" "BadNumber.__init__" (defArgs (inClass (top 4) 0)) (defBody (inClass (top 4) 0)) (defScope (inClass (top 4) 0)) .none kVN dcN pmN anN cdN ctN), slN⟩)
    (cfN : PySem.W.codeIn K cdN "BadNumber.__init__" = true)
    (kfN : PySem.W.keepIn K (.ref fN) = true)
    (qT : PySem.W.excIn K CT [.type "ValueError", .type "Exception", .type "BaseException", .type "object"] "ValueError.__new__" = true)
    (gt_FORMATS : PySem.W.nsIn K mainGlobals "FORMATS" = some (some (.ref TF)))
    (lt_FORMATS : K.lookup TF = some ⟨.type "tuple", od_FORMATS, .seq it_FORMATS nn_FORMATS, sl_FORMATS⟩)
    (vt_FORMATS : Vals [(.str (S [102, 105, 103, 117, 114, 101, 115])), (.str (S [108, 101, 116, 116, 101, 114, 115]))] it_FORMATS.toList)
    (zt_FORMATS : it_FORMATS.size ≤ sizeLine)
    (gt_JOINTS : PySem.W.nsIn K mainGlobals "JOINTS" = some (some (.ref TJ)))
    (lt_JOINTS : K.lookup TJ = some ⟨.type "tuple", od_JOINTS, .seq it_JOINTS nn_JOINTS, sl_JOINTS⟩)
    (vt_JOINTS : Vals [(.str (S [46])), (.str (S [58])), (.str (S [47]))] it_JOINTS.toList)
    (zt_JOINTS : it_JOINTS.size ≤ sizeLine)
    (gCL : PySem.W.nsIn K mainGlobals "Label" = some (some (.ref CL)))
    (pgL : PySem.W.plainGet K CL Str.empty = true)
    (hdL : PySem.W.hasDictIn K CL = true)
    (poL : PySem.W.plainOver K CL = true)
    (saL : PySem.W.findIn K (.ref CL) "__setattr__" = some (some (.builtin "object.__setattr__")))
    (haL : PySem.W.findIn K (.ref CL) "__class__" = some (some (.builtin "object.__class__")))
    (hnL : PySem.W.specialIn K (.builtin "object.__class__") "__get__" = some (some (.builtin "getset_descriptor.__get__")))
    (htL : PySem.W.takesIn K (.builtin "object.__class__") = some true)
    (hmL : PySem.W.mroIn K CL (.type "object") = some true)
    (ttL : PySem.W.typeIn K (.ref CL) = some (.type "type"))
    (ssL : PySem.W.subIn K (.ref CL) (.ref CL) = some true)
    (snL : PySem.W.subIn K (.type "str") (.ref CL) = some false)
    (naL__head : PySem.W.findIn K (.ref CL) "_head" = some none)
    (naL__shown : PySem.W.findIn K (.ref CL) "_shown" = some none)
    (naL__joints : PySem.W.findIn K (.ref CL) "_joints" = some none)
    (a_is_number : PySem.W.nsIn K mainGlobals "is_number" = some (some (.ref f_is_number)))
    (l_is_number : K.lookup f_is_number = some ⟨ocis_number, odis_number, .func (PySem.W.fnOf "is_number" "is_number" (defArgs (top 9)) (defBody (top 9)) (defScope (top 9)) .none kVis_number dcis_number pmis_number anis_number cdis_number ctis_number), slis_number⟩)
    (c_is_number : PySem.W.codeIn K cdis_number "is_number" = true)
    (k_is_number : PySem.W.keepIn K (.ref f_is_number) = true)
    (a_is_natural : PySem.W.nsIn K mainGlobals "is_natural" = some (some (.ref f_is_natural)))
    (l_is_natural : K.lookup f_is_natural = some ⟨ocis_natural, odis_natural, .func (PySem.W.fnOf "is_natural" "is_natural" (defArgs (top 10)) (defBody (top 10)) (defScope (top 10)) .none kVis_natural dcis_natural pmis_natural anis_natural cdis_natural ctis_natural), slis_natural⟩)
    (c_is_natural : PySem.W.codeIn K cdis_natural "is_natural" = true)
    (k_is_natural : PySem.W.keepIn K (.ref f_is_natural) = true)
    (a_figures : PySem.W.nsIn K mainGlobals "figures" = some (some (.ref f_figures)))
    (l_figures : K.lookup f_figures = some ⟨ocfigures, odfigures, .func (PySem.W.fnOf "figures" "figures" (defArgs (top 13)) (defBody (top 13)) (defScope (top 13)) .none kVfigures dcfigures pmfigures anfigures cdfigures ctfigures), slfigures⟩)
    (c_figures : PySem.W.codeIn K cdfigures "figures" = true)
    (k_figures : PySem.W.keepIn K (.ref f_figures) = true)
    (a_letters : PySem.W.nsIn K mainGlobals "letters" = some (some (.ref f_letters)))
    (l_letters : K.lookup f_letters = some ⟨ocletters, odletters, .func (PySem.W.fnOf "letters" "letters" (defArgs (top 14)) (defBody (top 14)) (defScope (top 14)) .none kVletters dcletters pmletters anletters cdletters ctletters), slletters⟩)
    (c_letters : PySem.W.codeIn K cdletters "letters" = true)
    (k_letters : PySem.W.keepIn K (.ref f_letters) = true)
    (a_read_figures : PySem.W.nsIn K mainGlobals "read_figures" = some (some (.ref f_read_figures)))
    (l_read_figures : K.lookup f_read_figures = some ⟨ocread_figures, odread_figures, .func (PySem.W.fnOf "read_figures" "read_figures" (defArgs (top 15)) (defBody (top 15)) (defScope (top 15)) .none kVread_figures dcread_figures pmread_figures anread_figures cdread_figures ctread_figures), slread_figures⟩)
    (c_read_figures : PySem.W.codeIn K cdread_figures "read_figures" = true)
    (k_read_figures : PySem.W.keepIn K (.ref f_read_figures) = true)
    (a_read_letters : PySem.W.nsIn K mainGlobals "read_letters" = some (some (.ref f_read_letters)))
    (l_read_letters : K.lookup f_read_letters = some ⟨ocread_letters, odread_letters, .func (PySem.W.fnOf "read_letters" "read_letters" (defArgs (top 16)) (defBody (top 16)) (defScope (top 16)) .none kVread_letters dcread_letters pmread_letters anread_letters cdread_letters ctread_letters), slread_letters⟩)
    (c_read_letters : PySem.W.codeIn K cdread_letters "read_letters" = true)
    (k_read_letters : PySem.W.keepIn K (.ref f_read_letters) = true)
    (a_is_name : PySem.W.nsIn K mainGlobals "is_name" = some (some (.ref f_is_name)))
    (l_is_name : K.lookup f_is_name = some ⟨ocis_name, odis_name, .func (PySem.W.fnOf "is_name" "is_name" (defArgs (top 19)) (defBody (top 19)) (defScope (top 19)) .none kVis_name dcis_name pmis_name anis_name cdis_name ctis_name), slis_name⟩)
    (c_is_name : PySem.W.codeIn K cdis_name "is_name" = true)
    (k_is_name : PySem.W.keepIn K (.ref f_is_name) = true)
    (a_read_label : PySem.W.nsIn K mainGlobals "read_label" = some (some (.ref f_read_label)))
    (l_read_label : K.lookup f_read_label = some ⟨ocread_label, odread_label, .func (PySem.W.fnOf "read_label" "read_label" (defArgs (top 26)) (defBody (top 26)) (defScope (top 26)) .none kVread_label dcread_label pmread_label anread_label cdread_label ctread_label), slread_label⟩)
    (c_read_label : PySem.W.codeIn K cdread_label "read_label" = true)
    (k_read_label : PySem.W.keepIn K (.ref f_read_label) = true)
    (a_is_head : PySem.W.nsIn K mainGlobals "is_head" = some (some (.ref f_is_head)))
    (l_is_head : K.lookup f_is_head = some ⟨ocis_head, odis_head, .func (PySem.W.fnOf "is_head" "is_head" (defArgs (top 27)) (defBody (top 27)) (defScope (top 27)) .none kVis_head dcis_head pmis_head anis_head cdis_head ctis_head), slis_head⟩)
    (c_is_head : PySem.W.codeIn K cdis_head "is_head" = true)
    (k_is_head : PySem.W.keepIn K (.ref f_is_head) = true)
    (a_wrong_item : PySem.W.nsIn K mainGlobals "wrong_item" = some (some (.ref f_wrong_item)))
    (l_wrong_item : K.lookup f_wrong_item = some ⟨ocwrong_item, odwrong_item, .func (PySem.W.fnOf "wrong_item" "wrong_item" (defArgs (top 28)) (defBody (top 28)) (defScope (top 28)) .none kVwrong_item dcwrong_item pmwrong_item anwrong_item cdwrong_item ctwrong_item), slwrong_item⟩)
    (c_wrong_item : PySem.W.codeIn K cdwrong_item "wrong_item" = true)
    (k_wrong_item : PySem.W.keepIn K (.ref f_wrong_item) = true)
    (a_is_shown : PySem.W.nsIn K mainGlobals "is_shown" = some (some (.ref f_is_shown)))
    (l_is_shown : K.lookup f_is_shown = some ⟨ocis_shown, odis_shown, .func (PySem.W.fnOf "is_shown" "is_shown" (defArgs (top 29)) (defBody (top 29)) (defScope (top 29)) .none kVis_shown dcis_shown pmis_shown anis_shown cdis_shown ctis_shown), slis_shown⟩)
    (c_is_shown : PySem.W.codeIn K cdis_shown "is_shown" = true)
    (k_is_shown : PySem.W.keepIn K (.ref f_is_shown) = true)
    (a_fit_between : PySem.W.nsIn K mainGlobals "fit_between" = some (some (.ref f_fit_between)))
    (l_fit_between : K.lookup f_fit_between = some ⟨ocfit_between, odfit_between, .func (PySem.W.fnOf "fit_between" "fit_between" (defArgs (top 30)) (defBody (top 30)) (defScope (top 30)) .none kVfit_between dcfit_between pmfit_between anfit_between cdfit_between ctfit_between), slfit_between⟩)
    (c_fit_between : PySem.W.codeIn K cdfit_between "fit_between" = true)
    (k_fit_between : PySem.W.keepIn K (.ref f_fit_between) = true)
    (a_number_text : PySem.W.nsIn K mainGlobals "number_text" = some (some (.ref f_number_text)))
    (l_number_text : K.lookup f_number_text = some ⟨ocnumber_text, odnumber_text, .func (PySem.W.fnOf "number_text" "number_text" (defArgs (top 31)) (defBody (top 31)) (defScope (top 31)) .none kVnumber_text dcnumber_text pmnumber_text annumber_text cdnumber_text ctnumber_text), slnumber_text⟩)
    (c_number_text : PySem.W.codeIn K cdnumber_text "number_text" = true)
    (k_number_text : PySem.W.keepIn K (.ref f_number_text) = true)
    (a_read_number : PySem.W.nsIn K mainGlobals "read_number" = some (some (.ref f_read_number)))
    (l_read_number : K.lookup f_read_number = some ⟨ocread_number, odread_number, .func (PySem.W.fnOf "read_number" "read_number" (defArgs (top 32)) (defBody (top 32)) (defScope (top 32)) .none kVread_number dcread_number pmread_number anread_number cdread_number ctread_number), slread_number⟩)
    (c_read_number : PySem.W.codeIn K cdread_number "read_number" = true)
    (k_read_number : PySem.W.keepIn K (.ref f_read_number) = true)
    (a_shown_text : PySem.W.nsIn K mainGlobals "shown_text" = some (some (.ref f_shown_text)))
    (l_shown_text : K.lookup f_shown_text = some ⟨ocshown_text, odshown_text, .func (PySem.W.fnOf "shown_text" "shown_text" (defArgs (top 33)) (defBody (top 33)) (defScope (top 33)) .none kVshown_text dcshown_text pmshown_text anshown_text cdshown_text ctshown_text), slshown_text⟩)
    (c_shown_text : PySem.W.codeIn K cdshown_text "shown_text" = true)
    (k_shown_text : PySem.W.keepIn K (.ref f_shown_text) = true)
    (a_read_shown : PySem.W.nsIn K mainGlobals "read_shown" = some (some (.ref f_read_shown)))
    (l_read_shown : K.lookup f_read_shown = some ⟨ocread_shown, odread_shown, .func (PySem.W.fnOf "read_shown" "read_shown" (defArgs (top 34)) (defBody (top 34)) (defScope (top 34)) .none kVread_shown dcread_shown pmread_shown anread_shown cdread_shown ctread_shown), slread_shown⟩)
    (c_read_shown : PySem.W.codeIn K cdread_shown "read_shown" = true)
    (k_read_shown : PySem.W.keepIn K (.ref f_read_shown) = true)
    (a_joined : PySem.W.nsIn K mainGlobals "joined" = some (some (.ref f_joined)))
    (l_joined : K.lookup f_joined = some ⟨ocjoined, odjoined, .func (PySem.W.fnOf "joined" "joined" (defArgs (top 35)) (defBody (top 35)) (defScope (top 35)) .none kVjoined dcjoined pmjoined anjoined cdjoined ctjoined), sljoined⟩)
    (c_joined : PySem.W.codeIn K cdjoined "joined" = true)
    (k_joined : PySem.W.keepIn K (.ref f_joined) = true)
    (a_parted : PySem.W.nsIn K mainGlobals "parted" = some (some (.ref f_parted)))
    (l_parted : K.lookup f_parted = some ⟨ocparted, odparted, .func (PySem.W.fnOf "parted" "parted" (defArgs (top 36)) (defBody (top 36)) (defScope (top 36)) .none kVparted dcparted pmparted anparted cdparted ctparted), slparted⟩)
    (c_parted : PySem.W.codeIn K cdparted "parted" = true)
    (k_parted : PySem.W.keepIn K (.ref f_parted) = true)
    (a__law_tape : PySem.W.nsIn K mainGlobals "_law_tape" = some (some (.ref f__law_tape)))
    (l__law_tape : K.lookup f__law_tape = some ⟨oc_law_tape, od_law_tape, .func (PySem.W.fnOf "_law_tape" "_law_tape" (defArgs (top 38)) (defBody (top 38)) (defScope (top 38)) .none kV_law_tape dc_law_tape pm_law_tape an_law_tape cd_law_tape ct_law_tape), sl_law_tape⟩)
    (c__law_tape : PySem.W.codeIn K cd_law_tape "_law_tape" = true)
    (k__law_tape : PySem.W.keepIn K (.ref f__law_tape) = true)
    (a__law_pick : PySem.W.nsIn K mainGlobals "_law_pick" = some (some (.ref f__law_pick)))
    (l__law_pick : K.lookup f__law_pick = some ⟨oc_law_pick, od_law_pick, .func (PySem.W.fnOf "_law_pick" "_law_pick" (defArgs (top 39)) (defBody (top 39)) (defScope (top 39)) .none kV_law_pick dc_law_pick pm_law_pick an_law_pick cd_law_pick ct_law_pick), sl_law_pick⟩)
    (c__law_pick : PySem.W.codeIn K cd_law_pick "_law_pick" = true)
    (k__law_pick : PySem.W.keepIn K (.ref f__law_pick) = true)
    (a__law_shuffled : PySem.W.nsIn K mainGlobals "_law_shuffled" = some (some (.ref f__law_shuffled)))
    (l__law_shuffled : K.lookup f__law_shuffled = some ⟨oc_law_shuffled, od_law_shuffled, .func (PySem.W.fnOf "_law_shuffled" "_law_shuffled" (defArgs (top 40)) (defBody (top 40)) (defScope (top 40)) .none kV_law_shuffled dc_law_shuffled pm_law_shuffled an_law_shuffled cd_law_shuffled ct_law_shuffled), sl_law_shuffled⟩)
    (c__law_shuffled : PySem.W.codeIn K cd_law_shuffled "_law_shuffled" = true)
    (k__law_shuffled : PySem.W.keepIn K (.ref f__law_shuffled) = true)
    (a__law_word : PySem.W.nsIn K mainGlobals "_law_word" = some (some (.ref f__law_word)))
    (l__law_word : K.lookup f__law_word = some ⟨oc_law_word, od_law_word, .func (PySem.W.fnOf "_law_word" "_law_word" (defArgs (top 41)) (defBody (top 41)) (defScope (top 41)) .none kV_law_word dc_law_word pm_law_word an_law_word cd_law_word ct_law_word), sl_law_word⟩)
    (c__law_word : PySem.W.codeIn K cd_law_word "_law_word" = true)
    (k__law_word : PySem.W.keepIn K (.ref f__law_word) = true)
    (a__law_figure : PySem.W.nsIn K mainGlobals "_law_figure" = some (some (.ref f__law_figure)))
    (l__law_figure : K.lookup f__law_figure = some ⟨oc_law_figure, od_law_figure, .func (PySem.W.fnOf "_law_figure" "_law_figure" (defArgs (top 42)) (defBody (top 42)) (defScope (top 42)) .none kV_law_figure dc_law_figure pm_law_figure an_law_figure cd_law_figure ct_law_figure), sl_law_figure⟩)
    (c__law_figure : PySem.W.codeIn K cd_law_figure "_law_figure" = true)
    (k__law_figure : PySem.W.keepIn K (.ref f__law_figure) = true)
    (a__law_head : PySem.W.nsIn K mainGlobals "_law_head" = some (some (.ref f__law_head)))
    (l__law_head : K.lookup f__law_head = some ⟨oc_law_head, od_law_head, .func (PySem.W.fnOf "_law_head" "_law_head" (defArgs (top 43)) (defBody (top 43)) (defScope (top 43)) .none kV_law_head dc_law_head pm_law_head an_law_head cd_law_head ct_law_head), sl_law_head⟩)
    (c__law_head : PySem.W.codeIn K cd_law_head "_law_head" = true)
    (k__law_head : PySem.W.keepIn K (.ref f__law_head) = true)
    (a__law_plan : PySem.W.nsIn K mainGlobals "_law_plan" = some (some (.ref f__law_plan)))
    (l__law_plan : K.lookup f__law_plan = some ⟨oc_law_plan, od_law_plan, .func (PySem.W.fnOf "_law_plan" "_law_plan" (defArgs (top 44)) (defBody (top 44)) (defScope (top 44)) .none kV_law_plan dc_law_plan pm_law_plan an_law_plan cd_law_plan ct_law_plan), sl_law_plan⟩)
    (c__law_plan : PySem.W.codeIn K cd_law_plan "_law_plan" = true)
    (k__law_plan : PySem.W.keepIn K (.ref f__law_plan) = true)
    (a__law_twin : PySem.W.nsIn K mainGlobals "_law_twin" = some (some (.ref f__law_twin)))
    (l__law_twin : K.lookup f__law_twin = some ⟨oc_law_twin, od_law_twin, .func (PySem.W.fnOf "_law_twin" "_law_twin" (defArgs (top 45)) (defBody (top 45)) (defScope (top 45)) .none kV_law_twin dc_law_twin pm_law_twin an_law_twin cd_law_twin ct_law_twin), sl_law_twin⟩)
    (c__law_twin : PySem.W.codeIn K cd_law_twin "_law_twin" = true)
    (k__law_twin : PySem.W.keepIn K (.ref f__law_twin) = true)
    (a__law_joined : PySem.W.nsIn K mainGlobals "_law_joined" = some (some (.ref f__law_joined)))
    (l__law_joined : K.lookup f__law_joined = some ⟨oc_law_joined, od_law_joined, .func (PySem.W.fnOf "_law_joined" "_law_joined" (defArgs (top 46)) (defBody (top 46)) (defScope (top 46)) .none kV_law_joined dc_law_joined pm_law_joined an_law_joined cd_law_joined ct_law_joined), sl_law_joined⟩)
    (c__law_joined : PySem.W.codeIn K cd_law_joined "_law_joined" = true)
    (k__law_joined : PySem.W.keepIn K (.ref f__law_joined) = true)
    (a__law_due : PySem.W.nsIn K mainGlobals "_law_due" = some (some (.ref f__law_due)))
    (l__law_due : K.lookup f__law_due = some ⟨oc_law_due, od_law_due, .func (PySem.W.fnOf "_law_due" "_law_due" (defArgs (top 47)) (defBody (top 47)) (defScope (top 47)) .none kV_law_due dc_law_due pm_law_due an_law_due cd_law_due ct_law_due), sl_law_due⟩)
    (c__law_due : PySem.W.codeIn K cd_law_due "_law_due" = true)
    (k__law_due : PySem.W.keepIn K (.ref f__law_due) = true)
    (a__law_face : PySem.W.nsIn K mainGlobals "_law_face" = some (some (.ref f__law_face)))
    (l__law_face : K.lookup f__law_face = some ⟨oc_law_face, od_law_face, .func (PySem.W.fnOf "_law_face" "_law_face" (defArgs (top 48)) (defBody (top 48)) (defScope (top 48)) .none kV_law_face dc_law_face pm_law_face an_law_face cd_law_face ct_law_face), sl_law_face⟩)
    (c__law_face : PySem.W.codeIn K cd_law_face "_law_face" = true)
    (k__law_face : PySem.W.keepIn K (.ref f__law_face) = true)
    (a__law_number : PySem.W.nsIn K mainGlobals "_law_number" = some (some (.ref f__law_number)))
    (l__law_number : K.lookup f__law_number = some ⟨oc_law_number, od_law_number, .func (PySem.W.fnOf "_law_number" "_law_number" (defArgs (top 49)) (defBody (top 49)) (defScope (top 49)) .none kV_law_number dc_law_number pm_law_number an_law_number cd_law_number ct_law_number), sl_law_number⟩)
    (c__law_number : PySem.W.codeIn K cd_law_number "_law_number" = true)
    (k__law_number : PySem.W.keepIn K (.ref f__law_number) = true)
    (a__law_read : PySem.W.nsIn K mainGlobals "_law_read" = some (some (.ref f__law_read)))
    (l__law_read : K.lookup f__law_read = some ⟨oc_law_read, od_law_read, .func (PySem.W.fnOf "_law_read" "_law_read" (defArgs (top 50)) (defBody (top 50)) (defScope (top 50)) .none kV_law_read dc_law_read pm_law_read an_law_read cd_law_read ct_law_read), sl_law_read⟩)
    (c__law_read : PySem.W.codeIn K cd_law_read "_law_read" = true)
    (k__law_read : PySem.W.keepIn K (.ref f__law_read) = true)
    (a__law_bent : PySem.W.nsIn K mainGlobals "_law_bent" = some (some (.ref f__law_bent)))
    (l__law_bent : K.lookup f__law_bent = some ⟨oc_law_bent, od_law_bent, .func (PySem.W.fnOf "_law_bent" "_law_bent" (defArgs (top 51)) (defBody (top 51)) (defScope (top 51)) .none kV_law_bent dc_law_bent pm_law_bent an_law_bent cd_law_bent ct_law_bent), sl_law_bent⟩)
    (c__law_bent : PySem.W.codeIn K cd_law_bent "_law_bent" = true)
    (k__law_bent : PySem.W.keepIn K (.ref f__law_bent) = true)
    (a__law_numbers : PySem.W.nsIn K mainGlobals "_law_numbers" = some (some (.ref f__law_numbers)))
    (l__law_numbers : K.lookup f__law_numbers = some ⟨oc_law_numbers, od_law_numbers, .func (PySem.W.fnOf "_law_numbers" "_law_numbers" (defArgs (top 52)) (defBody (top 52)) (defScope (top 52)) .none kV_law_numbers dc_law_numbers pm_law_numbers an_law_numbers cd_law_numbers ct_law_numbers), sl_law_numbers⟩)
    (c__law_numbers : PySem.W.codeIn K cd_law_numbers "_law_numbers" = true)
    (k__law_numbers : PySem.W.keepIn K (.ref f__law_numbers) = true)
    (a__law_right : PySem.W.nsIn K mainGlobals "_law_right" = some (some (.ref f__law_right)))
    (l__law_right : K.lookup f__law_right = some ⟨oc_law_right, od_law_right, .func (PySem.W.fnOf "_law_right" "_law_right" (defArgs (top 53)) (defBody (top 53)) (defScope (top 53)) .none kV_law_right dc_law_right pm_law_right an_law_right cd_law_right ct_law_right), sl_law_right⟩)
    (c__law_right : PySem.W.codeIn K cd_law_right "_law_right" = true)
    (k__law_right : PySem.W.keepIn K (.ref f__law_right) = true)
    (a__law_made : PySem.W.nsIn K mainGlobals "_law_made" = some (some (.ref f__law_made)))
    (l__law_made : K.lookup f__law_made = some ⟨oc_law_made, od_law_made, .func (PySem.W.fnOf "_law_made" "_law_made" (defArgs (top 54)) (defBody (top 54)) (defScope (top 54)) .none kV_law_made dc_law_made pm_law_made an_law_made cd_law_made ct_law_made), sl_law_made⟩)
    (c__law_made : PySem.W.codeIn K cd_law_made "_law_made" = true)
    (k__law_made : PySem.W.keepIn K (.ref f__law_made) = true)
    (paHd : PySem.W.findIn K (.ref CL) "head" = some (some (.ref pHd)))
    (pbHd : PySem.W.specialIn K (.ref pHd) "__get__" = some (some (.builtin "property.__get__")))
    (pcHd : PySem.W.takesIn K (.ref pHd) = some true)
    (pdHd : PySem.W.recIn K pHd "property" = some (.ref mHd :: reHd))
    (lfHd : K.lookup mHd = some ⟨ocHd, odHd, .func (PySem.W.fnOf "head" "Label.head" (defArgs (inClass (top 25) 1)) (defBody (inClass (top 25) 1)) (defScope (inClass (top 25) 1)) .none kVHd dcHd pmHd anHd cdHd ctHd), slHd⟩)
    (cfHd : PySem.W.codeIn K cdHd "Label.head" = true)
    (kfHd : PySem.W.keepIn K (.ref mHd) = true)
    (paSh : PySem.W.findIn K (.ref CL) "shown" = some (some (.ref pSh)))
    (pbSh : PySem.W.specialIn K (.ref pSh) "__get__" = some (some (.builtin "property.__get__")))
    (pcSh : PySem.W.takesIn K (.ref pSh) = some true)
    (pdSh : PySem.W.recIn K pSh "property" = some (.ref mSh :: reSh))
    (lfSh : K.lookup mSh = some ⟨ocSh, odSh, .func (PySem.W.fnOf "shown" "Label.shown" (defArgs (inClass (top 25) 2)) (defBody (inClass (top 25) 2)) (defScope (inClass (top 25) 2)) .none kVSh dcSh pmSh anSh cdSh ctSh), slSh⟩)
    (cfSh : PySem.W.codeIn K cdSh "Label.shown" = true)
    (kfSh : PySem.W.keepIn K (.ref mSh) = true)
    (paJn : PySem.W.findIn K (.ref CL) "joints" = some (some (.ref pJn)))
    (pbJn : PySem.W.specialIn K (.ref pJn) "__get__" = some (some (.builtin "property.__get__")))
    (pcJn : PySem.W.takesIn K (.ref pJn) = some true)
    (pdJn : PySem.W.recIn K pJn "property" = some (.ref mJn :: reJn))
    (lfJn : K.lookup mJn = some ⟨ocJn, odJn, .func (PySem.W.fnOf "joints" "Label.joints" (defArgs (inClass (top 25) 3)) (defBody (inClass (top 25) 3)) (defScope (inClass (top 25) 3)) .none kVJn dcJn pmJn anJn cdJn ctJn), slJn⟩)
    (cfJn : PySem.W.codeIn K cdJn "Label.joints" = true)
    (kfJn : PySem.W.keepIn K (.ref mJn) = true)
    (atEq : PySem.W.findIn K (.ref CL) "__eq__" = some (some (.ref mEq)))
    (isEq : PySem.W.isFn K (.ref mEq) = true)
    (lfEq : K.lookup mEq = some ⟨ocEq, odEq, .func (PySem.W.fnOf "__eq__" "Label.__eq__" (defArgs (inClass (top 25) 4)) (defBody (inClass (top 25) 4)) (defScope (inClass (top 25) 4)) .none kVEq dcEq pmEq anEq cdEq ctEq), slEq⟩)
    (cfEq : PySem.W.codeIn K cdEq "Label.__eq__" = true)
    (kfEq : PySem.W.keepIn K (.ref mEq) = true)
    (atSf : PySem.W.findIn K (.ref CL) "same_form" = some (some (.ref mSf)))
    (isSf : PySem.W.isFn K (.ref mSf) = true)
    (lfSf : K.lookup mSf = some ⟨ocSf, odSf, .func (PySem.W.fnOf "same_form" "Label.same_form" (defArgs (inClass (top 25) 5)) (defBody (inClass (top 25) 5)) (defScope (inClass (top 25) 5)) .none kVSf dcSf pmSf anSf cdSf ctSf), slSf⟩)
    (cfSf : PySem.W.codeIn K cdSf "Label.same_form" = true)
    (kfSf : PySem.W.keepIn K (.ref mSf) = true)
    (atOf : PySem.W.findIn K (.ref CL) "of" = some (some (.ref mOf)))
    (isOf : PySem.W.isFn K (.ref mOf) = true)
    (lfOf : K.lookup mOf = some ⟨ocOf, odOf, .func (PySem.W.fnOf "of" "Label.of" (defArgs (inClass (top 25) 6)) (defBody (inClass (top 25) 6)) (defScope (inClass (top 25) 6)) .none kVOf dcOf pmOf anOf cdOf ctOf), slOf⟩)
    (cfOf : PySem.W.codeIn K cdOf "Label.of" = true)
    (kfOf : PySem.W.keepIn K (.ref mOf) = true)
    (atRd : PySem.W.findIn K (.ref CL) "read" = some (some (.ref mRd)))
    (isRd : PySem.W.isFn K (.ref mRd) = true)
    (lfRd : K.lookup mRd = some ⟨ocRd, odRd, .func (PySem.W.fnOf "read" "Label.read" (defArgs (inClass (top 25) 7)) (defBody (inClass (top 25) 7)) (defScope (inClass (top 25) 7)) .none kVRd dcRd pmRd anRd cdRd ctRd), slRd⟩)
    (cfRd : PySem.W.codeIn K cdRd "Label.read" = true)
    (kfRd : PySem.W.keepIn K (.ref mRd) = true)
    (atTx : PySem.W.findIn K (.ref CL) "text" = some (some (.ref mTx)))
    (isTx : PySem.W.isFn K (.ref mTx) = true)
    (lfTx : K.lookup mTx = some ⟨ocTx, odTx, .func (PySem.W.fnOf "text" "Label.text" (defArgs (inClass (top 25) 8)) (defBody (inClass (top 25) 8)) (defScope (inClass (top 25) 8)) .none kVTx dcTx pmTx anTx cdTx ctTx), slTx⟩)
    (cfTx : PySem.W.codeIn K cdTx "Label.text" = true)
    (kfTx : PySem.W.keepIn K (.ref mTx) = true)
    (atIL : PySem.W.findIn K (.ref CL) "__init__" = some (some (.ref iL)))
    (isIL : PySem.W.isFn K (.ref iL) = true)
    (msIL : PySem.W.makesIn K CL = true)
    (kpIL : PySem.W.keepIn K (.ref CL) = true)
    (lfIL : K.lookup iL = some ⟨ocIL, odIL, .func (PySem.W.fnOf "__init__" "Label.__init__" (defArgs (inClass (top 25) 0)) (defBody (inClass (top 25) 0)) (defScope (inClass (top 25) 0)) (.ref TIL) kVIL dcIL pmIL anIL cdIL ctIL), slIL⟩)
    (cfIL : PySem.W.codeIn K cdIL "Label.__init__" = true)
    (kfIL : PySem.W.keepIn K (.ref iL) = true)
    (lTIL : K.lookup TIL = some ⟨cTIL, oTIL, .seq iTIL.toArray nTIL, sTIL⟩)
    (vTIL : Vals [.ref dL] iTIL)
    (lDIL : K.lookup dL = some ⟨.type "tuple", oDIL, .seq #[] nDIL, sDIL⟩)
    : Txt K mg ⟨CN, CT, fN, PySem.W.fnOf "__init__" "BadNumber.__init__" (defArgs (inClass (top 4) 0)) (defBody (inClass (top 4) 0)) (defScope (inClass (top 4) 0)) .none kVN dcN pmN anN cdN ctN, TF, TJ, CL, pHd, mHd, PySem.W.fnOf "head" "Label.head" (defArgs (inClass (top 25) 1)) (defBody (inClass (top 25) 1)) (defScope (inClass (top 25) 1)) .none kVHd dcHd pmHd anHd cdHd ctHd, pSh, mSh, PySem.W.fnOf "shown" "Label.shown" (defArgs (inClass (top 25) 2)) (defBody (inClass (top 25) 2)) (defScope (inClass (top 25) 2)) .none kVSh dcSh pmSh anSh cdSh ctSh, pJn, mJn, PySem.W.fnOf "joints" "Label.joints" (defArgs (inClass (top 25) 3)) (defBody (inClass (top 25) 3)) (defScope (inClass (top 25) 3)) .none kVJn dcJn pmJn anJn cdJn ctJn, mEq, PySem.W.fnOf "__eq__" "Label.__eq__" (defArgs (inClass (top 25) 4)) (defBody (inClass (top 25) 4)) (defScope (inClass (top 25) 4)) .none kVEq dcEq pmEq anEq cdEq ctEq, mSf, PySem.W.fnOf "same_form" "Label.same_form" (defArgs (inClass (top 25) 5)) (defBody (inClass (top 25) 5)) (defScope (inClass (top 25) 5)) .none kVSf dcSf pmSf anSf cdSf ctSf, mOf, PySem.W.fnOf "of" "Label.of" (defArgs (inClass (top 25) 6)) (defBody (inClass (top 25) 6)) (defScope (inClass (top 25) 6)) .none kVOf dcOf pmOf anOf cdOf ctOf, mRd, PySem.W.fnOf "read" "Label.read" (defArgs (inClass (top 25) 7)) (defBody (inClass (top 25) 7)) (defScope (inClass (top 25) 7)) .none kVRd dcRd pmRd anRd cdRd ctRd, mTx, PySem.W.fnOf "text" "Label.text" (defArgs (inClass (top 25) 8)) (defBody (inClass (top 25) 8)) (defScope (inClass (top 25) 8)) .none kVTx dcTx pmTx anTx cdTx ctTx, iL, PySem.W.fnOf "__init__" "Label.__init__" (defArgs (inClass (top 25) 0)) (defBody (inClass (top 25) 0)) (defScope (inClass (top 25) 0)) (.ref TIL) kVIL dcIL pmIL anIL cdIL ctIL, dL⟩ :=
  ⟨PySem.W.mg_none_of X G z_abs,
   PySem.W.mg_none_of X G z_all,
   PySem.W.mg_none_of X G z_bool,
   PySem.W.mg_none_of X G z_divmod,
   PySem.W.mg_none_of X G z_enumerate,
   PySem.W.mg_none_of X G z_int,
   PySem.W.mg_none_of X G z_isinstance,
   PySem.W.mg_none_of X G z_len,
   PySem.W.mg_none_of X G z_list,
   PySem.W.mg_none_of X G z_ord,
   PySem.W.mg_none_of X G z_range,
   PySem.W.mg_none_of X G z_str,
   PySem.W.mg_none_of X G z_tuple,
   PySem.W.mg_none_of X G z_zip,
   ⟨_, PySem.W.mg_of X G g_ALPHABET, r_ALPHABET⟩,
   ⟨_, PySem.W.mg_of X G g_LONGEST, r_LONGEST⟩,
   ⟨_, PySem.W.mg_of X G g_LONGEST_HEAD, r_LONGEST_HEAD⟩,
   ⟨_, PySem.W.mg_of X G g_MOST_SHOWN, r_MOST_SHOWN⟩,
   XC.mk' (PySem.W.mg_of X G mg_N) l_N b_N sa_N ty_N kc_N hg_N hk_N hs_N hd_N ha_N hn_N ht_N hm_N ss_N,
   XC.mk' (PySem.W.mg_of X G mg_T) l_T b_T sa_T ty_T kc_T hg_T hk_T hs_T hd_T ha_T hn_T ht_T hm_T ss_T,
   noN,
   iN,
   tN,
   fun_mk (st := inClass (top 4) 0) lfN cfN kfN,
   Fun.binds (fun_mk (st := inClass (top 4) 0) lfN cfN kfN) (fun _ _ _ _ _ _ us hl => match us, hl with | [_, _], _ => rfl),
   qT,
   PySem.W.mg_of X G gt_FORMATS,
   fun H => .inr ⟨_, it_FORMATS, nn_FORMATS, lt_FORMATS, rfl, rfl, zt_FORMATS, vt_FORMATS⟩,
   PySem.W.mg_of X G gt_JOINTS,
   fun H => .inr ⟨_, it_JOINTS, nn_JOINTS, lt_JOINTS, rfl, rfl, zt_JOINTS, vt_JOINTS⟩,
   PySem.W.mg_of X G gCL,
   ⟨pgL, hdL, poL, saL⟩,
   fun e => .base (.ins e ⟨pgL, hdL, poL, saL⟩ haL hnL htL hmL),
   kit_own hdL ttL ssL,
   kit_no hdL ttL snL,
   snL,
   naL__head,
   naL__shown,
   naL__joints,
   defAt_mk (x := "is_number") (st := top 9) (ps := ["value"]) X G a_is_number l_is_number c_is_number k_is_number (fun _ _ _ _ _ _ us hl => match us, hl with | [_], _ => rfl),
   defAt_mk (x := "is_natural") (st := top 10) (ps := ["value"]) X G a_is_natural l_is_natural c_is_natural k_is_natural (fun _ _ _ _ _ _ us hl => match us, hl with | [_], _ => rfl),
   defAt_mk (x := "figures") (st := top 13) (ps := ["number"]) X G a_figures l_figures c_figures k_figures (fun _ _ _ _ _ _ us hl => match us, hl with | [_], _ => rfl),
   defAt_mk (x := "letters") (st := top 14) (ps := ["number"]) X G a_letters l_letters c_letters k_letters (fun _ _ _ _ _ _ us hl => match us, hl with | [_], _ => rfl),
   defAt_mk (x := "read_figures") (st := top 15) (ps := ["text"]) X G a_read_figures l_read_figures c_read_figures k_read_figures (fun _ _ _ _ _ _ us hl => match us, hl with | [_], _ => rfl),
   defAt_mk (x := "read_letters") (st := top 16) (ps := ["text"]) X G a_read_letters l_read_letters c_read_letters k_read_letters (fun _ _ _ _ _ _ us hl => match us, hl with | [_], _ => rfl),
   defAt_mk (x := "is_name") (st := top 19) (ps := ["text"]) X G a_is_name l_is_name c_is_name k_is_name (fun _ _ _ _ _ _ us hl => match us, hl with | [_], _ => rfl),
   defAt_mk (x := "read_label") (st := top 26) (ps := ["text"]) X G a_read_label l_read_label c_read_label k_read_label (fun _ _ _ _ _ _ us hl => match us, hl with | [_], _ => rfl),
   defAt_mk (x := "is_head") (st := top 27) (ps := ["value"]) X G a_is_head l_is_head c_is_head k_is_head (fun _ _ _ _ _ _ us hl => match us, hl with | [_], _ => rfl),
   defAt_mk (x := "wrong_item") (st := top 28) (ps := ["shown"]) X G a_wrong_item l_wrong_item c_wrong_item k_wrong_item (fun _ _ _ _ _ _ us hl => match us, hl with | [_], _ => rfl),
   defAt_mk (x := "is_shown") (st := top 29) (ps := ["item"]) X G a_is_shown l_is_shown c_is_shown k_is_shown (fun _ _ _ _ _ _ us hl => match us, hl with | [_], _ => rfl),
   defAt_mk (x := "fit_between") (st := top 30) (ps := ["joints", "shown"]) X G a_fit_between l_fit_between c_fit_between k_fit_between (fun _ _ _ _ _ _ us hl => match us, hl with | [_, _], _ => rfl),
   defAt_mk (x := "number_text") (st := top 31) (ps := ["form", "number"]) X G a_number_text l_number_text c_number_text k_number_text (fun _ _ _ _ _ _ us hl => match us, hl with | [_, _], _ => rfl),
   defAt_mk (x := "read_number") (st := top 32) (ps := ["form", "text"]) X G a_read_number l_read_number c_read_number k_read_number (fun _ _ _ _ _ _ us hl => match us, hl with | [_, _], _ => rfl),
   defAt_mk (x := "shown_text") (st := top 33) (ps := ["counter", "form"]) X G a_shown_text l_shown_text c_shown_text k_shown_text (fun _ _ _ _ _ _ us hl => match us, hl with | [_, _], _ => rfl),
   defAt_mk (x := "read_shown") (st := top 34) (ps := ["piece"]) X G a_read_shown l_read_shown c_read_shown k_read_shown (fun _ _ _ _ _ _ us hl => match us, hl with | [_], _ => rfl),
   defAt_mk (x := "joined") (st := top 35) (ps := ["texts", "joints"]) X G a_joined l_joined c_joined k_joined (fun _ _ _ _ _ _ us hl => match us, hl with | [_, _], _ => rfl),
   defAt_mk (x := "parted") (st := top 36) (ps := ["text", "joints"]) X G a_parted l_parted c_parted k_parted (fun _ _ _ _ _ _ us hl => match us, hl with | [_, _], _ => rfl),
   defAt_mk (x := "_law_tape") (st := top 38) (ps := ["_law_script", "_law_k"]) X G a__law_tape l__law_tape c__law_tape k__law_tape (fun _ _ _ _ _ _ us hl => match us, hl with | [_, _], _ => rfl),
   defAt_mk (x := "_law_pick") (st := top 39) (ps := ["_law_tape_here", "_law_many"]) X G a__law_pick l__law_pick c__law_pick k__law_pick (fun _ _ _ _ _ _ us hl => match us, hl with | [_, _], _ => rfl),
   defAt_mk (x := "_law_shuffled") (st := top 40) (ps := ["_law_tape_here", "_law_items"]) X G a__law_shuffled l__law_shuffled c__law_shuffled k__law_shuffled (fun _ _ _ _ _ _ us hl => match us, hl with | [_, _], _ => rfl),
   defAt_mk (x := "_law_word") (st := top 41) (ps := ["_law_number_here"]) X G a__law_word l__law_word c__law_word k__law_word (fun _ _ _ _ _ _ us hl => match us, hl with | [_], _ => rfl),
   defAt_mk (x := "_law_figure") (st := top 42) (ps := ["_law_form", "_law_number_here"]) X G a__law_figure l__law_figure c__law_figure k__law_figure (fun _ _ _ _ _ _ us hl => match us, hl with | [_, _], _ => rfl),
   defAt_mk (x := "_law_head") (st := top 43) (ps := ["_law_tape_here"]) X G a__law_head l__law_head c__law_head k__law_head (fun _ _ _ _ _ _ us hl => match us, hl with | [_], _ => rfl),
   defAt_mk (x := "_law_plan") (st := top 44) (ps := ["_law_tape_here"]) X G a__law_plan l__law_plan c__law_plan k__law_plan (fun _ _ _ _ _ _ us hl => match us, hl with | [_], _ => rfl),
   defAt_mk (x := "_law_twin") (st := top 45) (ps := ["_law_tape_here", "_law_plan_here"]) X G a__law_twin l__law_twin c__law_twin k__law_twin (fun _ _ _ _ _ _ us hl => match us, hl with | [_, _], _ => rfl),
   defAt_mk (x := "_law_joined") (st := top 46) (ps := ["_law_plan_here", "_law_words"]) X G a__law_joined l__law_joined c__law_joined k__law_joined (fun _ _ _ _ _ _ us hl => match us, hl with | [_, _], _ => rfl),
   defAt_mk (x := "_law_due") (st := top 47) (ps := ["_law_plan_here", "_law_numbers_here"]) X G a__law_due l__law_due c__law_due k__law_due (fun _ _ _ _ _ _ us hl => match us, hl with | [_, _], _ => rfl),
   defAt_mk (x := "_law_face") (st := top 48) (ps := ["_law_plan_here"]) X G a__law_face l__law_face c__law_face k__law_face (fun _ _ _ _ _ _ us hl => match us, hl with | [_], _ => rfl),
   defAt_mk (x := "_law_number") (st := top 49) (ps := ["_law_form", "_law_word_here"]) X G a__law_number l__law_number c__law_number k__law_number (fun _ _ _ _ _ _ us hl => match us, hl with | [_, _], _ => rfl),
   defAt_mk (x := "_law_read") (st := top 50) (ps := ["_law_plan_here", "_law_line"]) X G a__law_read l__law_read c__law_read k__law_read (fun _ _ _ _ _ _ us hl => match us, hl with | [_, _], _ => rfl),
   defAt_mk (x := "_law_bent") (st := top 51) (ps := ["_law_tape_here", "_law_line"]) X G a__law_bent l__law_bent c__law_bent k__law_bent (fun _ _ _ _ _ _ us hl => match us, hl with | [_, _], _ => rfl),
   defAt_mk (x := "_law_numbers") (st := top 52) (ps := ["_law_tape_here", "_law_plans", "_law_most"]) X G a__law_numbers l__law_numbers c__law_numbers k__law_numbers (fun _ _ _ _ _ _ us hl => match us, hl with | [_, _, _], _ => rfl),
   defAt_mk (x := "_law_right") (st := top 53) (ps := ["_law_plan_here", "_law_made_here"]) X G a__law_right l__law_right c__law_right k__law_right (fun _ _ _ _ _ _ us hl => match us, hl with | [_, _], _ => rfl),
   defAt_mk (x := "_law_made") (st := top 54) (ps := ["_law_plan_here", "_law_choice"]) X G a__law_made l__law_made c__law_made k__law_made (fun _ _ _ _ _ _ us hl => match us, hl with | [_, _], _ => rfl),
   fun_mk (st := (inClass (top 25) 1)) lfHd cfHd kfHd,
   Fun.binds (fun_mk (st := (inClass (top 25) 1)) lfHd cfHd kfHd) (fun _ _ _ _ _ _ us hl => match us, hl with | [_], _ => rfl),
   ⟨paHd, pbHd, pcHd, _, pdHd⟩,
   fun_mk (st := (inClass (top 25) 2)) lfSh cfSh kfSh,
   Fun.binds (fun_mk (st := (inClass (top 25) 2)) lfSh cfSh kfSh) (fun _ _ _ _ _ _ us hl => match us, hl with | [_], _ => rfl),
   ⟨paSh, pbSh, pcSh, _, pdSh⟩,
   fun_mk (st := (inClass (top 25) 3)) lfJn cfJn kfJn,
   Fun.binds (fun_mk (st := (inClass (top 25) 3)) lfJn cfJn kfJn) (fun _ _ _ _ _ _ us hl => match us, hl with | [_], _ => rfl),
   ⟨paJn, pbJn, pcJn, _, pdJn⟩,
   fun_mk (st := (inClass (top 25) 4)) lfEq cfEq kfEq,
   Fun.binds (fun_mk (st := (inClass (top 25) 4)) lfEq cfEq kfEq) (fun _ _ _ _ _ _ us hl => match us, hl with | [_, _], _ => rfl),
   ⟨atEq, isEq, kfEq⟩,
   fun_mk (st := (inClass (top 25) 5)) lfSf cfSf kfSf,
   Fun.binds (fun_mk (st := (inClass (top 25) 5)) lfSf cfSf kfSf) (fun _ _ _ _ _ _ us hl => match us, hl with | [_, _], _ => rfl),
   ⟨atSf, isSf, kfSf⟩,
   fun_mk (st := (inClass (top 25) 6)) lfOf cfOf kfOf,
   Fun.binds (fun_mk (st := (inClass (top 25) 6)) lfOf cfOf kfOf) (fun _ _ _ _ _ _ us hl => match us, hl with | [_, _], _ => rfl),
   ⟨atOf, isOf, kfOf⟩,
   fun_mk (st := (inClass (top 25) 7)) lfRd cfRd kfRd,
   Fun.binds (fun_mk (st := (inClass (top 25) 7)) lfRd cfRd kfRd) (fun _ _ _ _ _ _ us hl => match us, hl with | [_, _], _ => rfl),
   ⟨atRd, isRd, kfRd⟩,
   fun_mk (st := (inClass (top 25) 8)) lfTx cfTx kfTx,
   Fun.binds (fun_mk (st := (inClass (top 25) 8)) lfTx cfTx kfTx) (fun _ _ _ _ _ _ us hl => match us, hl with | [_], _ => rfl),
   ⟨atTx, isTx, kfTx⟩,
   ⟨⟨_, _, _, _, _, _, _, _, _, _, rfl, lfIL, cfIL, .inr ⟨by simp, _, _, _, _, rfl, lTIL, rfl, vTIL⟩, .inl rfl⟩, kfIL⟩,
   ⟨msIL, atIL, isIL, kpIL⟩,
   fun H => .inr ⟨_, #[], nDIL, lDIL, rfl, rfl, Nat.zero_le _, .nil⟩⟩
/-! ### the tape's two defs -/
theorem pure_tape_len {ns : List Int} {k : Int} (h0 : 0 ≤ k) (c : k < (((ns.map V.int).length : Nat) : Int)) : ∃ z, atI (ns.map V.int) k = some (V.int z) := by
  rw [List.length_map] at c
  have hk : k.toNat < ns.length := by omega
  exact ⟨ns[k.toNat], at_of (j := k.toNat) (by omega) (by rw [List.getElem?_map, List.getElem?_eq_getElem hk] <;> rfl)⟩
theorem abs_nn (c : Int) : 0 ≤ (if c < 0 then -c else c) := by split <;> omega
abbrev sTape : Stmt := top 38
theorem scTape : FnScope ["_law_script", "_law_k", "_law_cell"] ["_law_script", "_law_k"] (defScope sTape) := ⟨rfl, rfl, rfl, by decide +kernel, rfl, by decide +kernel, by decide +kernel⟩
theorem ok_tape {P : Program} {w : World} {K : PySem.W.Frag} {mg : Str → Option Value} {base : Heap} {c : Cs} (T : Txt K mg c) {f : Addr} {fd : FuncData} (F : Fun K "_law_tape" "_law_tape" sTape f fd) : FnOk P w K mg base CX0 1 f fd ["_law_script", "_law_k"] (spTape K) := by
  refine F.ok scTape (fun vs H Q E h => ?_) (fun cdv A outer s H vs Q E hr h => ?_)
  · obtain ⟨a, ns, k, rfl, _⟩ := h
    rfl
  · obtain ⟨a, ns, k, rfl, hS, h0, h1, q⟩ := h
    refine ⟨_, (pss_cons (ps_set (i := 2) scTape.nd rfl (Or.inl rfl) (pe_ifExp (pt_cmpR op_lt (pv 1) (pe_callB call_len_seq (by rfl) T.z_len (by decide +kernel) (pa_cons (pv 0) pa_nil)) (nomark _)) (pe_ix ix_list (pv 0) (pv 1) (fun _ _ => rfl)) pe_int))
  (pss_one (ps_ret (pe_lst (pa_cons (pe_callB call_abs (by rfl) T.z_abs (by decide +kernel) (pa_cons (pv 2) pa_nil)) (pa_cons (pe_op op_add (pe_op op_mul pe_int (pv 1)) pe_int) pa_nil)))))), ?_⟩
    have hl : (2 : Nat) ≤ sizeLine := by decide
    refine ⟨_, rfl, _, rfl, _, _, rfl, .inl hS, _, _, rfl, rfl, _, rfl, ?_⟩
    by_cases c : k < (((ns.map V.int).length : Nat) : Int)
    · obtain ⟨z, hz⟩ := pure_tape_len h0 c
      refine if_true_of (decide_eq_true c) ?_
      refine ⟨_, rfl, _, rfl, _, _, _, _, rfl, rfl, hS, hz, ?_⟩
      exact ⟨_, rfl, _, rfl, _, rfl, _, _, rfl, rfl, .inl ⟨by decide, by decide⟩, _, _, rfl, rfl, hl, fun p hp => q p _ _ hp ⟨abs_nn _, by omega, by omega⟩⟩
    · refine if_false_of (decide_eq_false c) ?_
      exact ⟨_, rfl, _, rfl, _, rfl, _, _, rfl, rfl, .inl ⟨by decide, by decide⟩, _, _, rfl, rfl, hl, fun p hp => q p _ _ hp ⟨abs_nn _, by omega, by omega⟩⟩
abbrev sPick : Stmt := top 39
theorem scPick : FnScope ["_law_tape_here", "_law_many", "_law_digit", "_law_mixed"] ["_law_tape_here", "_law_many"] (defScope sPick) := ⟨rfl, rfl, rfl, by decide +kernel, rfl, by decide +kernel, by decide +kernel⟩
theorem ok_pick {P : Program} {w : World} {K : PySem.W.Frag} {mg : Str → Option Value} {base : Heap} {c : Cs} (T : Txt K mg c) {f : Addr} {fd : FuncData} (F : Fun K "_law_pick" "_law_pick" sPick f fd) : FnOk P w K mg base CX0 1 f fd ["_law_tape_here", "_law_many"] spPick := by
  refine F.ok scPick (fun vs H Q E h => ?_) (fun cdv A outer s H vs Q E hr h => ?_)
  · obtain ⟨a, m, rfl, _⟩ := h
    rfl
  · obtain ⟨a, m, rfl, ⟨Z, B, hA, hA0, hB0, hB1⟩, hm0, hm1, q⟩ := h
    have hL : SqL K H a [.int Z, .int B] := SqL.of hA
    refine ⟨_, (pss_cons (ps_if (pt_cmpR op_ge (pe_ix ix_list (pv 0) pe_int (fun _ _ => rfl)) (pe_op op_pow pe_int pe_int) (nomark _)) (pss_cons (ps_set (i := 2) scPick.nd rfl (Or.inl rfl) (pe_op op_mod (pe_callTy call_int1 (by rfl) T.z_int (by decide +kernel) (pa_cons (pe_ix ix_list (pv 0) pe_int (fun _ _ => rfl)) pa_nil)) (pv 1)))
  (pss_cons (ps_asg (pe_op op_fdivW (pe_ix ix_list (pv 0) pe_int (fun _ _ => rfl)) (pv 1)) (pg_sub (pv 0) pe_int set_list))
  (pss_one (ps_ret (pv 2))))) pss_nil)
  (pss_cons (ps_asg (pe_op op_mod (pe_callTy call_int1 (by rfl) T.z_int (by decide +kernel) (pa_cons (pe_op op_add (pe_op op_add (pe_op op_mul (pe_ix ix_list (pv 0) pe_int (fun _ _ => rfl)) pe_int) (pe_op op_mul (pe_ix ix_list (pv 0) pe_int (fun _ _ => rfl)) pe_int)) pe_int) pa_nil)) pe_int) (pg_sub (pv 0) pe_int set_list))
  (pss_cons (ps_set (i := 3) scPick.nd rfl (Or.inl rfl) (pe_op op_mod (pe_callTy call_int1 (by rfl) T.z_int (by decide +kernel) (pa_cons (pe_op op_add (pe_op op_add (pe_op op_mul (pe_ix ix_list (pv 0) pe_int (fun _ _ => rfl)) (pe_ix ix_list (pv 0) pe_int (fun _ _ => rfl))) (pe_op op_mul (pe_ix ix_list (pv 0) pe_int (fun _ _ => rfl)) pe_int)) pe_int) pa_nil)) pe_int))
  (pss_one (ps_ret (pe_op op_mod (pe_callTy call_int1 (by rfl) T.z_int (by decide +kernel) (pa_cons (pe_op op_fdivW (pv 3) pe_int) pa_nil)) (pv 1))))))), ?_⟩
    refine ⟨_, rfl, _, _, _, _, rfl, rfl, hL, rfl, _, _, rfl, rfl, ⟨by decide, by decide, by decide⟩, _, _, rfl, rfl, _, rfl, ?_⟩
    have mb : m.natAbs < 2 ^ 120 := by omega
    by_cases c : (10 : Int) ^ (18 : Int).toNat ≤ Z
    · refine if_true_of (decide_eq_true c) ?_
      refine ⟨_, rfl, _, _, _, _, rfl, rfl, hL, rfl, .inl ⟨_, rfl, _, rfl, _, _, rfl, rfl, hm0, ?_⟩⟩
      refine ⟨_, rfl, _, _, _, _, rfl, rfl, hL, rfl, _, rfl, _, _, rfl, rfl, wide_div hm0 mb (by decide) (by decide), _, rfl, _, _, _, 0, rfl, rfl, hA, rfl, ?_⟩
      exact ⟨_, rfl, q _ _ (Int.emod_nonneg _ (by omega)) (Int.emod_lt_of_pos _ hm0) (Frm.put (A := Z / m) (B := B) ⟨Int.ediv_nonneg hA0 (by omega), hB0, hB1⟩)⟩
    · refine if_false_of (decide_eq_false c) ?_
      have cz : Z < 1000000000000000000 := by
        have e : (10 : Int) ^ (18 : Int).toNat = 1000000000000000000 := by decide
        omega
      refine ⟨_, rfl, _, _, _, _, rfl, rfl, hL, rfl, _, _, rfl, rfl, .inl ⟨by omega, by omega⟩, _, rfl, _, _, _, _, rfl, rfl, hL, rfl, _, _, rfl, rfl, .inl ⟨by omega, by omega⟩, _, _, rfl, rfl, _, _, rfl, rfl, .inl ⟨_, rfl, _, _, rfl, rfl, (by show (0 : Int) < 2147483647; decide), _, rfl, _, _, _, 1, rfl, rfl, hA, rfl, ?_⟩⟩
      have b0 : 0 ≤ (B * 48271 + Z * 69621 + 11) % 2147483647 := Int.emod_nonneg _ (by decide)
      have b1 : (B * 48271 + Z * 69621 + 11) % 2147483647 < 2147483647 := Int.emod_lt_of_pos _ (by decide)
      have hA' : upd H a (.lst (([.int Z, .int B] : List V).set 1 (.int ((B * 48271 + Z * 69621 + 11) % 2147483647)))) a = some (.lst [.int Z, .int ((B * 48271 + Z * 69621 + 11) % 2147483647)]) := upd_same
      have hL' : SqL K (upd H a (.lst (([.int Z, .int B] : List V).set 1 (.int ((B * 48271 + Z * 69621 + 11) % 2147483647))))) a [.int Z, .int ((B * 48271 + Z * 69621 + 11) % 2147483647)] := SqL.of hA'
      refine ⟨_, rfl, _, _, _, _, rfl, rfl, hL', rfl, _, rfl, _, _, _, _, rfl, rfl, hL', rfl, _, _, rfl, rfl, .inl ⟨by omega, by omega⟩, _, rfl, _, _, _, _, rfl, rfl, hL', rfl, _, _, rfl, rfl, .inl ⟨by omega, by omega⟩, _, _, rfl, rfl, _, _, rfl, rfl, .inl ⟨_, rfl, _, _, rfl, rfl, (by show (0 : Int) < 2147483399; decide), ?_⟩⟩
      refine ⟨_, rfl, _, _, rfl, rfl, wide_div (b := 10) (by decide) (by decide) (by decide) (by decide), .inl ⟨_, rfl, _, rfl, _, _, rfl, rfl, hm0, ?_⟩⟩
      exact q _ _ (Int.emod_nonneg _ (by omega)) (Int.emod_lt_of_pos _ hm0) (Frm.put (A := Z) (B := (B * 48271 + Z * 69621 + 11) % 2147483647) ⟨hA0, b0, by omega⟩)
/-! ### any value, by its kind -/
inductive AnyV (K : PySem.W.Frag) (H : Hp) : V → String → Prop
  | non : AnyV K H .non "NoneType"
  | bl (b : Bool) : AnyV K H (.bl b) "bool"
  | int (i : Int) : AnyV K H (.int i) "int"
  | str (s : Str) : AnyV K H (.str s) "str"
  | lst {a : Addr} {xs : List V} (h : H a = some (.lst xs)) : AnyV K H (.ref a) "list"
  | tup {a : Addr} {xs : List V} (h : H a = some (.tup xs)) : AnyV K H (.ref a) "tuple"
  | dct {a : Addr} {kvs : List (Key × V)} (h : H a = some (.dK kvs)) : AnyV K H (.ref a) "dict"
theorem AnyV.ty {K : PySem.W.Frag} {H : Hp} {v : V} {T : String} (h : AnyV K H v T) : TyX K H v (.type T) := by
  cases h with
  | non => exact .base .non
  | bl b => exact .base (.bl b)
  | int i => exact .base (.int i)
  | str s => exact .base (.str s)
  | lst h => exact .base (.lst h)
  | tup h => exact .base (.tup h)
  | dct h => exact .base (.dK h)
theorem AnyV.same {K : PySem.W.Frag} {H H' : Hp} {v : V} {T : String} (h : AnyV K H v T) (s : Same H H') : AnyV K H' v T := by
  cases h with
  | non => exact .non
  | bl b => exact .bl b
  | int i => exact .int i
  | str x => exact .str x
  | lst h => exact .lst (s _ _ h)
  | tup h => exact .tup (s _ _ h)
  | dct h => exact .dct (s _ _ h)
def natB : V → Bool
  | .int i => decide (0 ≤ i)
  | _ => false
theorem AnyV.kits {K : PySem.W.Frag} {H : Hp} {v : V} {T : String} (h : AnyV K H v T) : ∃ b1 b2, kitB T "int" = some b1 ∧ kitB T "bool" = some b2 ∧ (b1 = false → natB v = false) ∧ (b2 = true → natB v = false) ∧ (b1 = true → b2 = false → ∃ i, v = .int i) := by
  cases h with
  | non => exact ⟨false, false, by decide +kernel, by decide +kernel, fun _ => rfl, (fun z => nomatch z), (fun z => nomatch z)⟩
  | bl b => exact ⟨true, true, by decide +kernel, by decide +kernel, (fun z => nomatch z), fun _ => rfl, (fun _ z => nomatch z)⟩
  | int i => exact ⟨true, false, by decide +kernel, by decide +kernel, (fun z => nomatch z), (fun z => nomatch z), fun _ _ => ⟨i, rfl⟩⟩
  | str s => exact ⟨false, false, by decide +kernel, by decide +kernel, fun _ => rfl, (fun z => nomatch z), (fun z => nomatch z)⟩
  | lst h => exact ⟨false, false, by decide +kernel, by decide +kernel, fun _ => rfl, (fun z => nomatch z), (fun z => nomatch z)⟩
  | tup h => exact ⟨false, false, by decide +kernel, by decide +kernel, fun _ => rfl, (fun z => nomatch z), (fun z => nomatch z)⟩
  | dct h => exact ⟨false, false, by decide +kernel, by decide +kernel, fun _ => rfl, (fun z => nomatch z), (fun z => nomatch z)⟩
theorem same_new {H : Hp} {p : Addr} {o : HO} (h : H p = none) : Same H (upd H p o) := fun b u e => by
  rw [upd_ne (ne_of_none e h)]
  exact e
/-- an object that H does not know may change -/
theorem same_mut {H H' : Hp} {p : Addr} {o : HO} (s : Same H H') (h : H p = none) : Same H (upd H' p o) := fun b u e => by
  rw [upd_ne (ne_of_none e h)]
  exact s b u e
theorem uni_digit : ∀ c : Nat, c < 128 → Unicode.isDigit c = (decide (48 ≤ c) && decide (c ≤ 57)) := by decide +kernel
theorem uni_alpha : ∀ c : Nat, c < 128 → Unicode.isAlpha c = ((decide (65 ≤ c) && decide (c ≤ 90)) || (decide (97 ≤ c) && decide (c ≤ 122))) := by decide +kernel
theorem uni_lower : ∀ c : Nat, c < 128 → Unicode.isLower c = (decide (97 ≤ c) && decide (c ≤ 122)) := by decide +kernel
theorem uni_upper : ∀ c : Nat, c < 128 → (Unicode.isUpper c || Unicode.isTitle c) = (decide (65 ≤ c) && decide (c ≤ 90)) := by decide +kernel
theorem ascii_S (l : List Nat) : Txt.isascii (S l) = l.all (fun c => decide (c < 128)) := by unfold Txt.isascii; simp
theorem digit_val (l : List Nat) : (Txt.isascii (S l) && Txt.isdigit (S l)) = (!l.isEmpty && l.all (fun c => decide (48 ≤ c) && decide (c ≤ 57))) := by
  have e2 : Txt.isdigit (S l) = (decide (0 < l.length) && l.all Unicode.isDigit) := by unfold Txt.isdigit; rw [S_len]; simp
  rw [ascii_S, e2, Bool.eq_iff_iff]
  simp only [Bool.and_eq_true, List.all_eq_true, decide_eq_true_eq, Bool.not_eq_true', List.isEmpty_eq_false_iff]
  constructor
  · rintro ⟨a, b, c⟩
    refine ⟨fun e => by rw [e] at b; exact absurd b (by decide), fun x hx => ?_⟩
    have q := c x hx
    rw [uni_digit x (a x hx), Bool.and_eq_true, decide_eq_true_eq, decide_eq_true_eq] at q
    exact q
  · rintro ⟨a, b⟩
    refine ⟨fun x hx => by have := b x hx; omega, List.length_pos_iff.mpr a, fun x hx => ?_⟩
    have q := b x hx
    rw [uni_digit x (by omega), Bool.and_eq_true, decide_eq_true_eq, decide_eq_true_eq]
    exact q
theorem low_val (l : List Nat) : (Txt.isascii (S l) && (Txt.isalpha (S l) && Txt.islower (S l))) = (!l.isEmpty && l.all (fun c => decide (97 ≤ c) && decide (c ≤ 122))) := by
  have e2 : Txt.isalpha (S l) = (decide (0 < l.length) && l.all Unicode.isAlpha) := by unfold Txt.isalpha; rw [S_len]; simp
  have e3 : Txt.islower (S l) = (l.any Unicode.isLower && !l.any fun c => Unicode.isUpper c || Unicode.isTitle c) := by unfold Txt.islower; simp
  rw [ascii_S, e2, e3, Bool.eq_iff_iff]
  simp only [Bool.and_eq_true, List.all_eq_true, decide_eq_true_eq, Bool.not_eq_true', List.any_eq_true, List.any_eq_false, List.isEmpty_eq_false_iff]
  constructor
  · rintro ⟨a, ⟨b, c⟩, d, e⟩
    refine ⟨fun e => by rw [e] at b; exact absurd b (by decide), fun x hx => ?_⟩
    have q := c x hx
    rw [uni_alpha x (a x hx)] at q
    have q2 := e x hx
    rw [uni_upper x (a x hx)] at q2
    rw [Bool.or_eq_true] at q
    have q3 := q.resolve_left q2
    rw [Bool.and_eq_true, decide_eq_true_eq, decide_eq_true_eq] at q3
    exact q3
  · rintro ⟨a, b⟩
    have lt : ∀ x ∈ l, x < 128 := fun x hx => by have := b x hx; omega
    have lw : ∀ x ∈ l, (decide (97 ≤ x) && decide (x ≤ 122)) = true := fun x hx => by
      rw [Bool.and_eq_true, decide_eq_true_eq, decide_eq_true_eq]
      exact b x hx
    refine ⟨lt, ⟨List.length_pos_iff.mpr a, fun x hx => ?_⟩, ?_, fun x hx => ?_⟩
    · rw [uni_alpha x (lt x hx), lw x hx, Bool.or_true]
    · cases l with
      | nil => exact absurd rfl a
      | cons c r => exact ⟨c, List.mem_cons_self .., by rw [uni_lower c (lt c (List.mem_cons_self ..))]; exact lw c (List.mem_cons_self ..)⟩
    · rw [uni_upper x (lt x hx)]
      have := b x hx
      simp only [Bool.and_eq_true, decide_eq_true_eq]
      omega
theorem figOk_no {l : List Nat} (h : (!l.isEmpty && l.all (fun c => decide (48 ≤ c) && decide (c ≤ 57))) = false) : figOk l = false := by
  unfold figOk
  rw [← Bool.and_assoc, Bool.and_comm (l.all _), h, Bool.false_and]
theorem take_more {α : Type} {l : List α} {i : Nat} {x : α} (h : l[i]? = some x) : l.take (i + 1) = l.take i ++ [x] := by
  rw [List.take_add_one, h]
  rfl

section
variable {P : Program} {w : World} {K : PySem.W.Frag} {mg : Str → Option Value} {base : Heap} {c : Cs}
def numB : V → Bool
  | .int _ => true
  | _ => false
theorem natB_num {v : V} (h : numB v = false) : natB v = false := by
  cases v <;> first | rfl | exact nomatch h
theorem numB_is {v : V} (h : numB v = true) : ∃ i, v = .int i := by
  cases v with
  | int i => exact ⟨i, rfl⟩
  | _ => exact nomatch h
theorem AnyV.kits2 {K : PySem.W.Frag} {H : Hp} {v : V} {T : String} (h : AnyV K H v T) : ∃ b1 b2, kitB T "int" = some b1 ∧ kitB T "bool" = some b2 ∧ (b1 && !b2) = numB v := by
  cases h with
  | non => exact ⟨false, false, by decide +kernel, by decide +kernel, rfl⟩
  | bl b => exact ⟨true, true, by decide +kernel, by decide +kernel, rfl⟩
  | int i => exact ⟨true, false, by decide +kernel, by decide +kernel, rfl⟩
  | str s => exact ⟨false, false, by decide +kernel, by decide +kernel, rfl⟩
  | lst h => exact ⟨false, false, by decide +kernel, by decide +kernel, rfl⟩
  | tup h => exact ⟨false, false, by decide +kernel, by decide +kernel, rfl⟩
  | dct h => exact ⟨false, false, by decide +kernel, by decide +kernel, rfl⟩
def spNbr (K : PySem.W.Frag) : Sp := fun vs H Q _ => ∃ (v : V) (T : String), vs = [v] ∧ AnyV K H v T ∧ Q (.bl (numB v)) H
abbrev sNbr : Stmt := top 9
theorem scNbr : FnScope ["value"] ["value"] (defScope sNbr) := ⟨rfl, rfl, rfl, by decide +kernel, rfl, by decide +kernel, by decide +kernel⟩
theorem ok_nbr (T : Txt K mg c) {f : Addr} {fd : FuncData} (F : Fun K "is_number" "is_number" sNbr f fd) : FnOk P w K mg base CX0 1 f fd ["value"] (spNbr K) := by
  refine F.ok scNbr (fun vs H Q E h => ?_) (fun cdv A outer s H vs Q E hr h => ?_)
  · obtain ⟨v, t, rfl, _⟩ := h
    rfl
  · obtain ⟨v, t, rfl, ha, q⟩ := h
    obtain ⟨b1, b2, k1, k2, n1⟩ := ha.kits2
    refine ⟨_, (pss_one (ps_ret (pe_and (pe_callB call_isi (by rfl) T.z_isinstance (by decide +kernel) (pa_cons (pv 0) (pa_cons (pe_bltn (v := .ty "int") (by rfl) T.z_int (by decide +kernel) rfl) pa_nil))) (pe_one (pe_not (pe_callB call_isi (by rfl) T.z_isinstance (by decide +kernel) (pa_cons (pv 0) (pa_cons (pe_bltn (v := .ty "bool") (by rfl) T.z_bool (by decide +kernel) rfl) pa_nil)))))))), ?_⟩
    refine ⟨_, rfl, _, _, _, _, b1, rfl, .ty _, ha.ty, kit_ty k1, _, rfl, ?_⟩
    rw [← n1] at q
    cases b1 with
    | false => exact if_false_of rfl q
    | true => exact if_true_of rfl ⟨_, rfl, _, _, _, _, b2, rfl, .ty _, ha.ty, kit_ty k2, _, rfl, q⟩
def spNat (K : PySem.W.Frag) : Sp := fun vs H Q _ => ∃ (v : V) (T : String), vs = [v] ∧ AnyV K H v T ∧ Q (.bl (natB v)) H
abbrev sNat : Stmt := top 10
theorem scNat : FnScope ["value"] ["value"] (defScope sNat) := ⟨rfl, rfl, rfl, by decide +kernel, rfl, by decide +kernel, by decide +kernel⟩
theorem ok_nat (T : Txt K mg c) {f : Addr} {fd : FuncData} (F : Fun K "is_natural" "is_natural" sNat f fd) : FnOk P w K mg base CX0 2 f fd ["value"] (spNat K) := by
  have cNb : Cal P w K mg base CX0 1 "is_number" (spNbr K) := cal_of T.d_is_number fun f fd F => ok_nbr T F
  refine F.ok scNat (fun vs H Q E h => ?_) (fun cdv A outer s H vs Q E hr h => ?_)
  · obtain ⟨v, t, rfl, _⟩ := h
    rfl
  · obtain ⟨v, t, rfl, ha, q⟩ := h
    refine ⟨_, (pss_one (ps_ret (pe_and (pe_c cNb hr (by decide) rfl (pa_cons (pv 0) pa_nil)) (pe_one (pe_cmpR op_ge (pv 0) pe_int (nomark _)))))), ?_⟩
    refine ⟨_, rfl, v, t, rfl, ha, _, rfl, ?_⟩
    cases e : numB v with
    | false =>
      rw [natB_num e] at q
      exact if_false_of rfl q
    | true =>
      obtain ⟨i, rfl⟩ := numB_is e
      exact if_true_of rfl ⟨_, rfl, _, _, rfl, rfl, q⟩
abbrev sNInit : Stmt := inClass (top 4) 0
theorem scNInit : FnScope ["self", "number"] ["self", "number"] (defScope sNInit) := ⟨rfl, rfl, rfl, by decide +kernel, rfl, by decide +kernel, by decide +kernel⟩
theorem ok_ninit (T : Txt K mg c) : FnOk P w K mg base CX0 1 c.fN c.fdN ["self", "number"] (spXI c.CN "number") := by
  refine T.fnN.ok scNInit (fun vs H Q E h => ?_) (fun cdv A outer s H vs Q E hr h => ?_)
  · obtain ⟨a, v, rfl, _⟩ := h
    rfl
  · obtain ⟨a, v, rfl, ha, q⟩ := h
    exact ⟨_, pss_one (ps_ost (pv 0) (pv 1)), _, rfl, _, rfl, a, c.CN, rfl, T.xN.oex, T.noN, .inl ⟨ha, fun d hd hne => q d hd hne⟩⟩
/-- figures and letters: a whole number from 0 on gives its text (hi: the text's number), all else an error -/
def spFmt (K : PySem.W.Frag) (CN : Addr) (txt : Nat → List Nat) : Sp := fun vs H Q E => ∃ v : V, vs = [v] ∧
  ((∃ n : Nat, v = .int n ∧ n < 10 ^ 60 ∧ ∀ H', Same H H' → Q (.str (S (txt n))) H') ∨
   (∃ T : String, AnyV K H v T ∧ natB v = false ∧ ∀ d H', H d = none → Same H H' → H' d = some (.xd [("number", v)]) → E (.ref CN) (some d) H'))
abbrev sFig : Stmt := top 13
theorem scFig : FnScope ["number", "left", "pieces", "piece"] ["number"] (defScope sFig) := ⟨rfl, rfl, rfl, by decide +kernel, rfl, by decide +kernel, by decide +kernel⟩
theorem ok_fig (T : Txt K mg c) (dN : DefAt K mg "is_natural" sNat ["value"]) {f : Addr} {fd : FuncData} (F : Fun K "figures" "figures" sFig f fd) : FnOk P w K mg base (L2.CX P w) 3 f fd ["number"] (spFmt K c.CN TL.numL) := by
  have cN : Cal P w K mg base CX0 2 "is_natural" (spNat K) := cal_of dN fun f fd F => ok_nat T F
  have GN : FnOk P w K mg base CX0 1 c.fN c.fdN ["self", "number"] (spXI c.CN "number") := ok_ninit T
  refine F.okX scFig (fun vs H Q E h => ?_) (fun cdv A outer s H vs Q E hr h => ?_)
  · obtain ⟨v, rfl, _⟩ := h
    rfl
  · obtain ⟨v, rfl, h⟩ := h
    refine ⟨_, (pss_cons (ps_if (pt_not (pt_val (pe_c cN hr (by decide) rfl (pa_cons (pv 0) pa_nil)))) (pss_one (ps_raise rfl (takes_of rfl rfl rfl rfl) (pmk_oex T.xN.oex T.iN T.tN GN hr T.bN .nil pass0 rfl T.xN.gC (pa_cons (pv 0) pa_nil)))) pss_nil)
  (pss_cons (ps_set (i := 1) scFig.nd rfl (Or.inl rfl) (pv 0))
  (pss_cons (ps_set (i := 2) scFig.nd rfl (Or.inl rfl) (pe_lst pa_nil))
  (pss_cons (ps_while PassesOwn.leaving (pt_cmpR op_ge (pv 1) (pe_op op_pow pe_int pe_int) (nomark _))
  (pss_cons (ps_asg (pe_callB call_divmodW (by rfl) T.z_divmod (by decide +kernel) (pa_cons (pv 1) (pa_cons (pe_op op_pow pe_int pe_int) pa_nil))) (pg_tup (by rfl) (pgs_cons (pg_name (i := 1) scFig.nd rfl (.inl rfl)) (pgs_cons (pg_name (i := 3) scFig.nd rfl (.inl rfl)) pgs_nil))))
  (pss_one (ps_expr (pe_bm PySem.F.plainAttrs_list PySem.F.slot_list_append PySem.F.type_list_append mt_append (pv 2) (pa_cons (pe_bm PySem.F.plainAttrs_str PySem.F.slot_str_zfill PySem.F.type_str_zfill mt_zfill (pe_callTy call_str_int (by rfl) T.z_str (by decide +kernel) (pa_cons (pv 3) pa_nil)) (pa_cons pe_int pa_nil)) pa_nil))))))
  (pss_cons (ps_expr (pe_bm PySem.F.plainAttrs_list PySem.F.slot_list_append PySem.F.type_list_append mt_append (pv 2) (pa_cons (pe_callTy call_str_int (by rfl) T.z_str (by decide +kernel) (pa_cons (pv 1) pa_nil)) pa_nil)))
  (pss_one (ps_ret (pe_bm PySem.F.plainAttrs_str PySem.F.slot_str_join PySem.F.type_str_join mt_joinE (pe_strS ([] : List Nat) (by decide +kernel)) (pa_cons (pe_revL (pv 2)) pa_nil))))))))), ?_⟩
    rcases h with ⟨n, rfl, hn, q⟩ | ⟨t, ha, hb, q⟩
    · refine ⟨_, rfl, _, _, rfl, .int _, _, rfl, ?_⟩
      refine if_false_of (by simp [natB]) ?_
      refine ⟨_, rfl, Nat.zero_le _, fun p hp => ?_⟩
      refine ⟨fun m σ' H' => σ' = [some (.int n), some (.int n), some (.ref p), none] ∧ H' = upd H p (.lst []), ⟨0, rfl, rfl⟩, ?_⟩
      rintro m σ' H' ⟨rfl, rfl⟩
      refine ⟨_, rfl, _, _, rfl, rfl, ⟨by decide, by decide, by decide⟩, _, _, rfl, rfl, _, rfl, ?_⟩
      refine if_false_of (decide_eq_false ?_) ?_
      · have e : (10 : Int) ^ (60 : Int).toNat = ((10 ^ 60 : Nat) : Int) := by decide
        rw [e]
        omega
      have hlog : ((n : Nat) : Int).natAbs.log2 < 1920 := by
        rw [Int.natAbs_natCast]
        by_cases h0 : n = 0
        · subst h0
          decide
        · exact (Nat.log2_lt h0).mpr (Nat.lt_trans hn (by decide +kernel))
      refine ⟨_, rfl, .inl ⟨rfl, _, SqL.of upd_same⟩, _, rfl, _, rfl, hlog, p, _, _, rfl, rfl, upd_same, (by show 0 < sizeLine; decide), ?_⟩
      refine ⟨rfl, _, rfl, p, _, rfl, SqL.of upd_same, fun p2 hp2 => ?_⟩
      refine ⟨p2, [TL.numL n], rfl, rfl, SqL.of ?_, ?_, ?_⟩
      · rw [upd_same, SX.num_S]
        rfl
      · have := TL.numL_len (n := n) (k := 60) (by decide) hn
        simp
        omega
      · have e : ([TL.numL n] : List (List Nat)).flatten = TL.numL n := by simp
        rw [e]
        have hp2' : H p2 = none := by
          by_cases e : p2 = p
          · rw [e, upd_same] at hp2
            cases hp2
          · rw [upd_ne e, upd_ne e] at hp2
            exact hp2
        exact q _ (same_mut (same_mut (same_mut (Same.refl H) hp) hp) hp2')
    · refine ⟨_, rfl, _, t, rfl, ha, _, rfl, ?_⟩
      rw [hb]
      refine if_true_of rfl ?_
      exact ⟨_, rfl, mkO_ok fun d hd => q d _ hd (same_new hd) upd_same⟩
abbrev alphaL : List Nat := [97, 98, 99, 100, 101, 102, 103, 104, 105, 106, 107, 108, 109, 110, 111, 112, 113, 114, 115, 116, 117, 118, 119, 120, 121, 122]
theorem at_alpha {r : Int} (h0 : 0 ≤ r) (h1 : r < 26) : atI alphaL r = some (97 + r.toNat) := by
  have e : ∀ j : Nat, j < 26 → alphaL[j]? = some (97 + j) := by decide +kernel
  have q := atI_nat (e r.toNat (by omega))
  rwa [show ((r.toNat : Nat) : Int) = r by omega] at q
theorem flat_single : ∀ cs : List Nat, (cs.map fun c => [c]).flatten = cs
  | [] => rfl
  | c :: r => by rw [List.map_cons, List.flatten_cons, flat_single r]; rfl
abbrev sLet : Stmt := top 14
theorem scLet : FnScope ["number", "left", "signs", "place"] ["number"] (defScope sLet) := ⟨rfl, rfl, rfl, by decide +kernel, rfl, by decide +kernel, by decide +kernel⟩
theorem ok_let (T : Txt K mg c) (dN : DefAt K mg "is_natural" sNat ["value"]) {f : Addr} {fd : FuncData} (F : Fun K "letters" "letters" sLet f fd) : FnOk P w K mg base (L2.CX P w) 3 f fd ["number"] (spFmt K c.CN lettersL) := by
  have cN : Cal P w K mg base CX0 2 "is_natural" (spNat K) := cal_of dN fun f fd F => ok_nat T F
  have GN : FnOk P w K mg base CX0 1 c.fN c.fdN ["self", "number"] (spXI c.CN "number") := ok_ninit T
  refine F.okX scLet (fun vs H Q E h => ?_) (fun cdv A outer s H vs Q E hr h => ?_)
  · obtain ⟨v, rfl, _⟩ := h
    rfl
  · obtain ⟨v, rfl, h⟩ := h
    refine ⟨_, (pss_cons (ps_if (pt_not (pt_val (pe_c cN hr (by decide) rfl (pa_cons (pv 0) pa_nil)))) (pss_one (ps_raise rfl (takes_of rfl rfl rfl rfl) (pmk_oex T.xN.oex T.iN T.tN GN hr T.bN .nil pass0 rfl T.xN.gC (pa_cons (pv 0) pa_nil)))) pss_nil)
  (pss_cons (ps_if (pt_cmpR op_eq (pv 0) pe_int (nomark _)) (pss_one (ps_ret (pe_strS [45] (by decide +kernel)))) pss_nil)
  (pss_cons (ps_set (i := 1) scLet.nd rfl (Or.inl rfl) (pv 0))
  (pss_cons (ps_set (i := 2) scLet.nd rfl (Or.inl rfl) (pe_lst pa_nil))
  (pss_cons (ps_while PassesOwn.leaving (pt_cmpR op_gt (pv 1) pe_int (nomark _))
  (pss_cons (ps_asg (pe_callB call_divmod (by rfl) T.z_divmod (by decide +kernel) (pa_cons (pe_op op_sub (pv 1) pe_int) (pa_cons pe_int pa_nil))) (pg_tup (by rfl) (pgs_cons (pg_name (i := 1) scLet.nd rfl (.inl rfl)) (pgs_cons (pg_name (i := 3) scLet.nd rfl (.inl rfl)) pgs_nil))))
  (pss_one (ps_expr (pe_bm PySem.F.plainAttrs_list PySem.F.slot_list_append PySem.F.type_list_append mt_append (pv 2) (pa_cons (pe_ix ix_S (C8.pe_gc rfl T.g_ALPHABET) (pv 3) (fun _ _ => rfl)) pa_nil))))))
  (pss_one (ps_ret (pe_bm PySem.F.plainAttrs_str PySem.F.slot_str_join PySem.F.type_str_join mt_joinE (pe_strS ([] : List Nat) (by decide +kernel)) (pa_cons (pe_revL (pv 2)) pa_nil))))))))), ?_⟩
    rcases h with ⟨n, rfl, hn, q⟩ | ⟨t, ha, hb, q⟩
    · refine ⟨_, rfl, _, _, rfl, .int _, _, rfl, ?_⟩
      refine if_false_of (by simp [natB]) ?_
      refine ⟨_, rfl, rfl, _, rfl, ?_⟩
      by_cases h0 : n = 0
      · subst h0
        refine if_true_of (by decide) ?_
        exact q _ (Same.refl H)
      refine if_false_of (decide_eq_false fun z => h0 (by have := V.int.inj z; omega)) ?_
      refine ⟨_, rfl, Nat.zero_le _, fun p hp => ?_⟩
      have hlen : (wordN n).length ≤ 43 := wordN_len (Nat.lt_trans hn (by decide +kernel))
      refine ⟨fun m σ' H' => ∃ (cs : List Nat) (v : Option V), σ' = [some (.int n), some (.int (m : Int)), some (.ref p), v] ∧ wordN n = wordN m ++ cs.reverse ∧ H' p = some (.lst (cs.map fun c => V.str (S [c]))) ∧ Same H H',
        ⟨n, [], none, rfl, by simp, upd_same, same_new hp⟩, ?_⟩
      rintro m σ' H1 ⟨cs, v, rfl, hw, h1, s1⟩
      have hcs : cs.length ≤ 43 := by
        have e := congrArg List.length hw
        rw [List.length_append, List.length_reverse] at e
        omega
      refine ⟨_, rfl, _, _, rfl, rfl, _, rfl, ?_⟩
      by_cases hm : 0 < m
      · refine if_true_of (decide_eq_true (by omega)) ?_
        refine ⟨fun σ' H' => ∃ (cs : List Nat) (v : Option V), σ' = [some (.int n), some (.int (((m - 1) / 26 : Nat) : Int)), some (.ref p), v] ∧ wordN n = wordN ((m - 1) / 26) ++ cs.reverse ∧ H' p = some (.lst (cs.map fun c => V.str (S [c]))) ∧ Same H H',
          fun σ' H' z => ⟨(m - 1) / 26, by omega, z⟩, ?_⟩
        refine ⟨_, rfl, _, _, rfl, rfl, _, _, rfl, ⟨by decide, by decide⟩, fun q2 hq2 => ?_⟩
        refine ⟨_, _, rfl, SqT.of upd_same, rfl, _, _, rfl, _, _, rfl, rfl, ?_⟩
        have hpq : p ≠ q2 := ne_of_none h1 hq2
        have h1' : upd H1 q2 (.tup [.int (((m : Int) - 1) / 26), .int (((m : Int) - 1) % 26)]) p = some (.lst (cs.map fun c => V.str (S [c]))) := by rw [upd_ne hpq]; exact h1
        have hr26 : atI alphaL (((m : Int) - 1) % 26) = some (97 + (((m : Int) - 1) % 26).toNat) := at_alpha (Int.emod_nonneg _ (by decide)) (Int.emod_lt_of_pos _ (by decide))
        refine ⟨_, rfl, .inl ⟨rfl, _, SqL.of h1'⟩, _, rfl, alphaL, _, _, rfl, rfl, by decide, hr26, p, _, _, rfl, rfl, h1', (by rw [List.length_map]; exact Nat.lt_of_le_of_lt hcs (by decide)), ?_⟩
        refine ⟨cs ++ [97 + (((m : Int) - 1) % 26).toNat], some (.int (((m : Int) - 1) % 26)), ?_, ?_, ?_, ?_⟩
        · have e : ((m : Int) - 1) / 26 = (((m - 1) / 26 : Nat) : Int) := by omega
          rw [← e]
          rfl
        · obtain ⟨k, rfl⟩ : ∃ k, m = k + 1 := ⟨m - 1, by omega⟩
          rw [hw, wordN_succ]
          have e : ((((k + 1 : Nat) : Int) - 1) % 26).toNat = k % 26 := by omega
          rw [e]
          simp
        · rw [upd_same, List.map_append]
          rfl
        · exact same_mut (same_mut s1 (s1.free hq2)) hp
      · refine if_false_of (decide_eq_false (by omega)) ?_
        have hm0 : m = 0 := by omega
        subst hm0
        rw [wordN_zero, List.nil_append] at hw
        refine ⟨rfl, _, rfl, p, _, rfl, SqL.of h1, fun p2 hp2 => ?_⟩
        refine ⟨p2, cs.reverse.map fun c => [c], rfl, rfl, SqL.of ?_, ?_, ?_⟩
        · rw [upd_same, List.map_map, List.map_reverse]
          rfl
        · rw [flat_single, List.length_reverse]
          omega
        · rw [flat_single, ← hw, ← lettersL_low (by omega)]
          exact q _ (same_mut s1 (s1.free hp2))
    · refine ⟨_, rfl, _, t, rfl, ha, _, rfl, ?_⟩
      rw [hb]
      refine if_true_of rfl ?_
      exact ⟨_, rfl, mkO_ok fun d hd => q d _ hd (same_new hd) upd_same⟩
/-- read_figures and read_letters: the number, or an error -/
def spRd (CT : Addr) (ok : List Nat → Bool) (val : List Nat → Nat) : Sp := fun vs H Q E => ∃ l : List Nat, vs = [.str (S l)] ∧ l.length ≤ 100000 ∧ (ok l = true → Q (.int (val l)) H) ∧ (ok l = false → E (.ref CT) none H)
abbrev sRF : Stmt := top 15
theorem scRF : FnScope ["text", "number", "sign"] ["text"] (defScope sRF) := ⟨rfl, rfl, rfl, by decide +kernel, rfl, by decide +kernel, by decide +kernel⟩
theorem ok_rf (T : Txt K mg c) {f : Addr} {fd : FuncData} (F : Fun K "read_figures" "read_figures" sRF f fd) : FnOk P w K mg base (L2.CX P w) 3 f fd ["text"] (spRd c.CT figOk figVal) := by
  refine F.okX scRF (fun vs H Q E h => ?_) (fun cdv A outer s H vs Q E hr h => ?_)
  · obtain ⟨l, rfl, _⟩ := h
    rfl
  · obtain ⟨l, rfl, hl, qy, qn⟩ := h
    refine ⟨_, (pss_cons (ps_if (PW.pt (pw_or (pt_not (pt_val (pe_bm0 PySem.F.plainAttrs_str PySem.F.slot_str_isascii PySem.F.type_str_isascii mt_isascii (pv 0)))) (pw_or1 (pt_not (pt_val (pe_bm0 PySem.F.plainAttrs_str PySem.F.slot_str_isdigit PySem.F.type_str_isdigit mt_isdigit (pv 0))))))) (pss_one (ps_raise rfl (takes_of rfl rfl rfl rfl) (pmk_own0 PySem.F.excBase_ValueError T.qT T.xT.gC T.xT.oex.kC (raises_own T.xT.oex.exC T.xT.oex.tyC) rfl))) pss_nil)
  (C8.pss_cut (ps_if (PW.pt (pw_and (pt_val (pe_bm PySem.F.plainAttrs_str PySem.F.slot_str_startswith PySem.F.type_str_startswith mt_startsS (pv 0) (pa_cons (pe_strS [48] (by decide +kernel)) pa_nil))) (pw_and1 (pt_cmpR op_ne (pv 0) (pe_strS [48] (by decide +kernel)) (nomark _))))) (pss_one (ps_raise rfl (takes_of rfl rfl rfl rfl) (pmk_own0 PySem.F.excBase_ValueError T.qT T.xT.gC T.xT.oex.kC (raises_own T.xT.oex.exC T.xT.oex.tyC) rfl))) pss_nil)
  (pss_cons (ps_set (i := 1) scRF.nd rfl (Or.inl rfl) pe_int)
  (pss_cons (ps_for PassesOwn.leaving rfl (pi_str (pv 0)) (pg_name (i := 2) scRF.nd rfl (Or.inl rfl))
  (pss_one (ps_set (i := 1) scRF.nd rfl (Or.inl rfl) (pe_op op_add (pe_op op_mul (pv 1) pe_int) (pe_callTy call_int_str (by rfl) T.z_int (by decide +kernel) (pa_cons (pv 2) pa_nil))))))
  (pss_one (ps_ret (pv 1))))))), ?_⟩
    have hd := digit_val l
    refine ⟨_, rfl, rfl, _, rfl, rfl, trivial, _, rfl, ?_⟩
    cases ha : Txt.isascii (S l) with
    | false =>
      rw [ha, Bool.false_and] at hd
      refine if_true_of rfl (if_true_of rfl ?_)
      exact qn (figOk_no hd.symm)
    | true =>
      refine if_false_of rfl ?_
      refine ⟨_, rfl, rfl, _, rfl, rfl, trivial, _, rfl, ?_⟩
      cases hb : Txt.isdigit (S l) with
      | false =>
        rw [ha, hb, Bool.and_false] at hd
        refine if_true_of rfl ?_
        exact qn (figOk_no hd.symm)
      | true =>
        rw [ha, hb, Bool.and_true] at hd
        refine if_false_of rfl ?_
        have hd2 := Bool.and_eq_true_iff.mp hd.symm
        have hdig := all_dig.mp hd2.2
        have hok : figOk l = !(l.take 1 == [48] && !decide (l = [48])) := by
          unfold figOk
          rw [hd2.1, hd2.2, Bool.true_and, Bool.true_and]
          cases l with
          | nil => rfl
          | cons d r =>
            cases r with
            | nil => by_cases e : d = 48 <;> simp [e]
            | cons d2 r2 => by_cases e : d = 48 <;> simp [e]
        refine ⟨fun σ' H' => σ' = L2.start ["text", "number", "sign"] [V.str (S l)] ∧ H' = H ∧ figOk l = true, ?_, ?_⟩
        · refine ⟨_, rfl, rfl, _, _, rfl, rfl, _, rfl, ?_⟩
          cases hs : (l.take ([48] : List Nat).length == [48]) with
          | true =>
            have hs' : (l.take 1 == [48]) = true := hs
            refine if_true_of rfl ?_
            refine ⟨_, rfl, rfl, _, rfl, ?_⟩
            rw [S_dec]
            rw [hs', Bool.true_and, Bool.not_not] at hok
            by_cases he : l = [48]
            · refine if_false_of (by rw [decide_eq_true he]; rfl) ?_
              exact ⟨rfl, rfl, by rw [hok, decide_eq_true he]⟩
            · refine if_true_of (by rw [decide_eq_false he]; rfl) ?_
              exact qn (by rw [hok, decide_eq_false he])
          | false =>
            have hs' : (l.take 1 == [48]) = false := hs
            rw [hs', Bool.false_and] at hok
            refine if_false_of rfl ?_
            exact ⟨rfl, rfl, hok⟩
        · rintro σ' H' ⟨rfl, e, ok⟩
          cases e
          refine ⟨_, rfl, _, rfl, for_str (l := l) (fun i σ H2 => ∃ v : Option V, σ = [some (.str (S l)), some (.int (NumText.digitsVal (l.take i) : Nat)), v] ∧ H2 = H) ⟨none, rfl, rfl⟩ ?_ ?_⟩
          · rintro i d σ H1 hi ⟨v, rfl, rfl⟩
            have hd := hdig d (List.mem_of_getElem? hi)
            have hv : intText? (S [d]) = some ((NumText.digitsVal [d] : Nat) : Int) := SX.int_S (by simp [hd.1, hd.2]) (by simp) (by show 1 ≤ 4300; decide)
            refine ⟨_, rfl, _, _, rfl, rfl, .inr ⟨by decide, by decide⟩, _, rfl, _, _, rfl, hv, (by show 1 ≤ 640; decide), _, _, rfl, rfl, ?_⟩
            refine ⟨some (.str (S [d])), ?_, rfl⟩
            rw [take_more hi, NumText.digitsVal_snoc]
            have e : NumText.digitsVal [d] = d - 48 := by show 0 * 10 + (d - 48) = d - 48; omega
            rw [e, Int.natCast_add, Int.natCast_mul]
            rfl
          · rintro σ H1 ⟨v, rfl, rfl⟩
            rw [List.take_length]
            exact ⟨_, rfl, qy ok⟩
theorem letOk_split {l : List Nat} (h : l ≠ [45]) : letOk l = (!l.isEmpty && l.all (fun c => decide (97 ≤ c) && decide (c ≤ 122))) := by
  unfold letOk
  rw [show (l == [45]) = false by simpa using h, Bool.false_or]
abbrev sRL : Stmt := top 16
theorem scRL : FnScope ["text", "number", "sign"] ["text"] (defScope sRL) := ⟨rfl, rfl, rfl, by decide +kernel, rfl, by decide +kernel, by decide +kernel⟩
theorem ok_rl (T : Txt K mg c) {f : Addr} {fd : FuncData} (F : Fun K "read_letters" "read_letters" sRL f fd) : FnOk P w K mg base (L2.CX P w) 3 f fd ["text"] (spRd c.CT letOk letVal) := by
  refine F.okX scRL (fun vs H Q E h => ?_) (fun cdv A outer s H vs Q E hr h => ?_)
  · obtain ⟨l, rfl, _⟩ := h
    rfl
  · obtain ⟨l, rfl, hl, qy, qn⟩ := h
    refine ⟨_, (pss_cons (ps_if (pt_cmpR op_eq (pv 0) (pe_strS [45] (by decide +kernel)) (nomark _)) (pss_one (ps_ret pe_int)) pss_nil)
  (pss_cons (ps_if (PW.pt (pw_or (pt_not (pt_val (pe_bm0 PySem.F.plainAttrs_str PySem.F.slot_str_isascii PySem.F.type_str_isascii mt_isascii (pv 0)))) (pw_or (pt_not (pt_val (pe_bm0 PySem.F.plainAttrs_str PySem.F.slot_str_isalpha PySem.F.type_str_isalpha mt_isalpha (pv 0)))) (pw_or1 (pt_not (pt_val (pe_bm0 PySem.F.plainAttrs_str PySem.F.slot_str_islower PySem.F.type_str_islower mt_islower (pv 0)))))))) (pss_one (ps_raise rfl (takes_of rfl rfl rfl rfl) (pmk_own0 PySem.F.excBase_ValueError T.qT T.xT.gC T.xT.oex.kC (raises_own T.xT.oex.exC T.xT.oex.tyC) rfl))) pss_nil)
  (pss_cons (ps_set (i := 1) scRL.nd rfl (Or.inl rfl) pe_int)
  (pss_cons (ps_for PassesOwn.leaving rfl (pi_str (pv 0)) (pg_name (i := 2) scRL.nd rfl (Or.inl rfl))
  (pss_one (ps_set (i := 1) scRL.nd rfl (Or.inl rfl) (pe_op op_add (pe_op op_sub (pe_op op_add (pe_op op_mul (pv 1) pe_int) (pe_callB call_ord (by rfl) T.z_ord (by decide +kernel) (pa_cons (pv 2) pa_nil))) (pe_callB call_ord (by rfl) T.z_ord (by decide +kernel) (pa_cons (pe_strS [97] (by decide +kernel)) pa_nil))) pe_int))))
  (pss_one (ps_ret (pv 1))))))), ?_⟩
    have hd := low_val l
    refine ⟨_, rfl, rfl, _, rfl, ?_⟩
    rw [S_dec]
    by_cases h45 : l = [45]
    · refine if_true_of (decide_eq_true h45) ?_
      have q := qy (by rw [h45]; decide)
      rw [show letVal l = 0 by unfold letVal; rw [if_pos h45]] at q
      exact q
    refine if_false_of (decide_eq_false h45) ?_
    rw [letOk_split h45] at qy qn
    refine ⟨_, rfl, rfl, _, rfl, rfl, trivial, _, rfl, ?_⟩
    cases ha : Txt.isascii (S l) with
    | false =>
      rw [ha, Bool.false_and] at hd
      refine if_true_of rfl (if_true_of rfl ?_)
      exact qn hd.symm
    | true =>
      refine if_false_of rfl ?_
      refine ⟨_, rfl, rfl, _, rfl, rfl, trivial, _, rfl, ?_⟩
      cases hb : Txt.isalpha (S l) with
      | false =>
        rw [ha, hb, Bool.false_and, Bool.and_false] at hd
        refine if_true_of rfl (if_true_of rfl ?_)
        exact qn hd.symm
      | true =>
        refine if_false_of rfl ?_
        refine ⟨_, rfl, rfl, _, rfl, rfl, trivial, _, rfl, ?_⟩
        cases hc : Txt.islower (S l) with
        | false =>
          rw [ha, hb, hc, Bool.and_false, Bool.and_false] at hd
          refine if_true_of rfl ?_
          exact qn hd.symm
        | true =>
          rw [ha, hb, hc, Bool.and_true, Bool.and_true] at hd
          have hlow := all_low.mp (Bool.and_eq_true_iff.mp hd.symm).2
          refine if_false_of rfl ?_
          refine ⟨_, rfl, _, rfl, for_str (l := l) (fun i σ H' => ∃ v : Option V, σ = [some (.str (S l)), some (.int (wval (l.take i) : Nat)), v] ∧ H' = H) ⟨none, rfl, rfl⟩ ?_ ?_⟩
          · rintro i d σ H1 hi ⟨v, rfl, rfl⟩
            have hw := hlow d (List.mem_of_getElem? hi)
            refine ⟨_, rfl, _, _, rfl, rfl, .inr ⟨by decide, by decide⟩, _, rfl, _, rfl, rfl, _, _, rfl, rfl, _, rfl, rfl, _, _, rfl, rfl, _, _, rfl, rfl, ?_⟩
            refine ⟨some (.str (S [d])), ?_, rfl⟩
            rw [take_more hi, wval_snoc]
            have e1 : ((S [d]).cps.getD 0 0 : Nat) = d := rfl
            have e2 : ((S [97]).cps.getD 0 0 : Nat) = 97 := rfl
            rw [e1, e2]
            have e : ((wval (l.take i) : Nat) : Int) * 26 + (d : Int) - ((97 : Nat) : Int) + 1 = ((wval (l.take i) * 26 + (d - 96) : Nat) : Int) := by omega
            exact congrArg (fun z => [some (V.str (S l)), some (V.int z), some (V.str (S [d]))]) e
          · rintro σ H1 ⟨v, rfl, rfl⟩
            rw [List.take_length]
            have q := qy hd.symm
            rw [show letVal l = wval l by unfold letVal; rw [if_neg h45]] at q
            exact ⟨_, rfl, q⟩
end
/-! ### labels.py: the small defs -/
section
variable {P : Program} {w : World} {K : PySem.W.Frag} {mg : Str → Option Value} {base : Heap} {c : Cs}
/-- "letters" -/
def wLet : List Nat := [108, 101, 116, 116, 101, 114, 115]
/-- "figures" -/
def wFig : List Nat := [102, 105, 103, 117, 114, 101, 115]
/-- the text of a number in a format (true: letters) -/
def formL (b : Bool) : List Nat := if b = true then wLet else wFig
def numT (b : Bool) (n : Nat) : List Nat := if b = true then lettersL n else TL.numL n
abbrev sNtx : Stmt := top 31
theorem scNtx : FnScope ["form", "number"] ["form", "number"] (defScope sNtx) := ⟨rfl, rfl, rfl, by decide +kernel, rfl, by decide +kernel, by decide +kernel⟩
def spNtx (K : PySem.W.Frag) (CN : Addr) : Sp := fun vs H Q E => ∃ (b : Bool) (v : V), vs = [.str (S (formL b)), v] ∧ spFmt K CN (numT b) [v] H Q E
theorem ok_ntx (T : Txt K mg c) (dN : DefAt K mg "is_natural" sNat ["value"]) (dF : DefAt K mg "figures" sFig ["number"]) (dL : DefAt K mg "letters" sLet ["number"]) {f : Addr} {fd : FuncData} (F : Fun K "number_text" "number_text" sNtx f fd) :
    FnOk P w K mg base (L2.CX P w) 4 f fd ["form", "number"] (spNtx K c.CN) := by
  have cF : Cal P w K mg base (L2.CX P w) 3 "figures" (spFmt K c.CN TL.numL) := cal_of dF fun f fd F => ok_fig T dN F
  have cL : Cal P w K mg base (L2.CX P w) 3 "letters" (spFmt K c.CN lettersL) := cal_of dL fun f fd F => ok_let T dN F
  refine F.okX scNtx (fun vs H Q E h => ?_) (fun cdv A outer s H vs Q E hr h => ?_)
  · obtain ⟨b, v, rfl, _⟩ := h
    rfl
  · obtain ⟨b, v, rfl, h⟩ := h
    refine ⟨_, (pss_cons (ps_if (pt_cmpR op_eq (pv 0) (pe_strS [108, 101, 116, 116, 101, 114, 115] (by decide +kernel)) (nomark _)) (pss_one (ps_ret (pe_cE (E := E) cL hr (by decide) rfl (takes_of rfl rfl rfl rfl) (fun _ _ _ _ h => h) (pa_cons (pv 1) pa_nil)))) pss_nil)
  (pss_one (ps_ret (pe_cE (E := E) cF hr (by decide) rfl (takes_of rfl rfl rfl rfl) (fun _ _ _ _ h => h) (pa_cons (pv 1) pa_nil))))), ?_⟩
    cases b with
    | true =>
      refine ⟨_, rfl, rfl, _, rfl, if_true_of (by decide +kernel) ?_⟩
      exact ⟨_, rfl, h⟩
    | false =>
      refine ⟨_, rfl, rfl, _, rfl, if_false_of (by decide +kernel) ?_⟩
      exact ⟨_, rfl, h⟩
abbrev sShx : Stmt := top 33
theorem scShx : FnScope ["counter", "form"] ["counter", "form"] (defScope sShx) := ⟨rfl, rfl, rfl, by decide +kernel, rfl, by decide +kernel, by decide +kernel⟩
def faceL (l : List Nat) (b : Bool) : List Nat := if b = true then [123] ++ l ++ [58, 97, 125] else [123] ++ l ++ [125]
def spShx : Sp := fun vs H Q _ => ∃ (l : List Nat) (b : Bool), vs = [.str (S l), .str (S (formL b))] ∧ l.length ≤ 10000 ∧ Q (.str (S (faceL l b))) H
theorem ok_shx (T : Txt K mg c) {f : Addr} {fd : FuncData} (F : Fun K "shown_text" "shown_text" sShx f fd) : FnOk P w K mg base CX0 1 f fd ["counter", "form"] spShx := by
  refine F.ok scShx (fun vs H Q E h => ?_) (fun cdv A outer s H vs Q E hr h => ?_)
  · obtain ⟨l, b, rfl, _⟩ := h
    rfl
  · obtain ⟨l, b, rfl, hl, h⟩ := h
    refine ⟨_, (pss_cons (ps_if (pt_cmpR op_eq (pv 1) (pe_strS [108, 101, 116, 116, 101, 114, 115] (by decide +kernel)) (nomark _)) (pss_one (ps_ret (pe_op op_catS (pe_op op_catS (pe_strS [123] (by decide +kernel)) (pv 0)) (pe_strS [58, 97, 125] (by decide +kernel))))) pss_nil)
  (pss_one (ps_ret (pe_op op_catS (pe_op op_catS (pe_strS [123] (by decide +kernel)) (pv 0)) (pe_strS [125] (by decide +kernel)))))), ?_⟩
    cases b with
    | true =>
      refine ⟨_, rfl, rfl, _, rfl, if_true_of (by decide +kernel) ?_⟩
      exact ⟨_, rfl, _, _, rfl, rfl, (by simp; omega), _, _, rfl, rfl, (by simp; omega), h⟩
    | false =>
      refine ⟨_, rfl, rfl, _, rfl, if_false_of (by decide +kernel) ?_⟩
      exact ⟨_, rfl, _, _, rfl, rfl, (by simp; omega), _, _, rfl, rfl, (by simp; omega), h⟩
abbrev sRnu : Stmt := top 32
theorem scRnu : FnScope ["form", "text"] ["form", "text"] (defScope sRnu) := ⟨rfl, rfl, rfl, by decide +kernel, rfl, by decide +kernel, by decide +kernel⟩
def rdOk (b : Bool) (l : List Nat) : Bool := if b = true then letOk l else figOk l
def rdVal (b : Bool) (l : List Nat) : Nat := if b = true then letVal l else figVal l
def spRnu (CT : Addr) : Sp := fun vs H Q E => ∃ (b : Bool) (v : V), vs = [.str (S (formL b)), v] ∧ spRd CT (rdOk b) (rdVal b) [v] H Q E
theorem ok_rnu (T : Txt K mg c) (dF : DefAt K mg "read_figures" sRF ["text"]) (dL : DefAt K mg "read_letters" sRL ["text"]) {f : Addr} {fd : FuncData} (F : Fun K "read_number" "read_number" sRnu f fd) :
    FnOk P w K mg base (L2.CX P w) 4 f fd ["form", "text"] (spRnu c.CT) := by
  have cRF : Cal P w K mg base (L2.CX P w) 3 "read_figures" (spRd c.CT figOk figVal) := cal_of dF fun f fd F => ok_rf T F
  have cRL : Cal P w K mg base (L2.CX P w) 3 "read_letters" (spRd c.CT letOk letVal) := cal_of dL fun f fd F => ok_rl T F
  refine F.okX scRnu (fun vs H Q E h => ?_) (fun cdv A outer s H vs Q E hr h => ?_)
  · obtain ⟨b, v, rfl, _⟩ := h
    rfl
  · obtain ⟨b, v, rfl, h⟩ := h
    refine ⟨_, (pss_cons (ps_if (pt_cmpR op_eq (pv 0) (pe_strS [108, 101, 116, 116, 101, 114, 115] (by decide +kernel)) (nomark _)) (pss_one (ps_ret (pe_cE (E := E) cRL hr (by decide) rfl (takes_of rfl rfl rfl rfl) (fun _ _ _ _ h => h) (pa_cons (pv 1) pa_nil)))) pss_nil)
  (pss_one (ps_ret (pe_cE (E := E) cRF hr (by decide) rfl (takes_of rfl rfl rfl rfl) (fun _ _ _ _ h => h) (pa_cons (pv 1) pa_nil))))), ?_⟩
    cases b with
    | true =>
      refine ⟨_, rfl, rfl, _, rfl, if_true_of (by decide +kernel) ?_⟩
      exact ⟨_, rfl, h⟩
    | false =>
      refine ⟨_, rfl, rfl, _, rfl, if_false_of (by decide +kernel) ?_⟩
      exact ⟨_, rfl, h⟩
/-! ### a text in parts -/
def cutAt (d : Nat) : List Nat → List Nat × List Nat
  | [] => ([], [])
  | x :: r => if x = d then ([], r) else (x :: (cutAt d r).1, (cutAt d r).2)
theorem cut_spec (d : Nat) : ∀ l : List Nat, (d ∉ l ∧ cutAt d l = (l, [])) ∨ ∃ p q, l = p ++ [d] ++ q ∧ d ∉ p ∧ cutAt d l = (p, q)
  | [] => .inl ⟨by simp, rfl⟩
  | x :: r => by
    unfold cutAt
    by_cases e : x = d
    · rw [if_pos e]
      exact .inr ⟨[], r, by rw [e]; rfl, by simp, rfl⟩
    · rw [if_neg e]
      rcases cut_spec d r with ⟨h, z⟩ | ⟨p, q, h, n, z⟩
      · exact .inl ⟨by simp only [List.mem_cons, not_or]; exact ⟨fun y => e y.symm, h⟩, by rw [z]⟩
      · exact .inr ⟨x :: p, q, by rw [h]; rfl, by simp only [List.mem_cons, not_or]; exact ⟨fun y => e y.symm, n⟩, by rw [z]⟩
theorem cut_len (d : Nat) (l : List Nat) : (cutAt d l).1.length ≤ l.length ∧ (cutAt d l).2.length ≤ l.length := by
  rcases cut_spec d l with ⟨_, z⟩ | ⟨p, q, h, _, z⟩
  · rw [z]
    exact ⟨Nat.le_refl _, Nat.zero_le _⟩
  · rw [z, h]
    simp only [List.length_append, List.length_cons, List.length_nil]
    omega
theorem part_S (d : Nat) (l : List Nat) : (Txt.partition (S l) (S [d])).1 = S (cutAt d l).1 ∧ (Txt.partition (S l) (S [d])).2.2 = S (cutAt d l).2 := by
  rcases cut_spec d l with ⟨h, z⟩ | ⟨p, q, h, n, z⟩
  · rw [z, TL.partition_none (y := S [d]) (s := d) (S := []) (by simp [TL.tl]) (a := S l) (by simpa [TL.tl] using h)]
    exact ⟨rfl, rfl⟩
  · have e : S l = S p ++ S [d] ++ S q := by rw [h, S_cat, S_cat]
    rw [z, e, TL.partition_app (y := S [d]) (s := d) (S := []) (by simp [TL.tl]) (a := S p) (by simpa [TL.tl] using n)]
    exact ⟨rfl, rfl⟩
def partL : List Nat → List Nat → List (List Nat)
  | [], l => [l]
  | d :: ds, l => (cutAt d l).1 :: partL ds (cutAt d l).2
theorem SqT.sm {H H' : Hp} {a : Addr} {xs : List V} (h : SqT K H a xs) (s : Same H H') : SqT K H' a xs := by
  rcases h with (h | ⟨o, h⟩) | h
  · exact .inl (.inl (s _ _ h))
  · exact .inl (.inr ⟨o, s _ _ h⟩)
  · exact .inr h
abbrev sPrt : Stmt := top 36
theorem scPrt : FnScope ["text", "joints", "pieces", "rest", "joint", "piece", "_"] ["text", "joints"] (defScope sPrt) := ⟨rfl, rfl, rfl, by decide +kernel, rfl, by decide +kernel, by decide +kernel⟩
def spPrt (K : PySem.W.Frag) : Sp := fun vs H Q _ => ∃ (l js : List Nat) (t : Addr), vs = [.str (S l), .ref t] ∧ SqT K H t (js.map fun d => V.str (S [d])) ∧ l.length ≤ 1000000 ∧ js.length ≤ 1000 ∧
  ∀ (p : Addr) (H' : Hp), Same H H' → H p = none → H' p = some (.lst ((partL js l).map fun x => V.str (S x))) → Q (.ref p) H'
theorem ok_prt (T : Txt K mg c) {f : Addr} {fd : FuncData} (F : Fun K "parted" "parted" sPrt f fd) : FnOk P w K mg base CX0 1 f fd ["text", "joints"] (spPrt K) := by
  refine F.ok scPrt (fun vs H Q E h => ?_) (fun cdv A outer s H vs Q E hr h => ?_)
  · obtain ⟨l, js, t, rfl, _⟩ := h
    rfl
  · obtain ⟨l, js, t, rfl, hT, hl, hj, q⟩ := h
    refine ⟨_, (pss_cons (ps_set (i := 2) scPrt.nd rfl (Or.inl rfl) (pe_lst pa_nil))
  (pss_cons (ps_set (i := 3) scPrt.nd rfl (Or.inl rfl) (pv 0))
  (pss_cons (ps_for PassesOwn.never rfl (pi_tup (pv 1)) (pg_name (i := 4) scPrt.nd rfl (Or.inl rfl))
  (pss_cons (ps_asg (pe_bm PySem.F.plainAttrs_str PySem.F.slot_str_partition PySem.F.type_str_partition mt_partition (pv 3) (pa_cons (pv 4) pa_nil)) (pg_tup (by rfl) (pgs_cons (pg_name (i := 5) scPrt.nd rfl (.inl rfl)) (pgs_cons (pg_name (i := 6) scPrt.nd rfl (.inl rfl)) (pgs_cons (pg_name (i := 3) scPrt.nd rfl (.inl rfl)) pgs_nil)))))
  (pss_one (ps_expr (pe_bm PySem.F.plainAttrs_list PySem.F.slot_list_append PySem.F.type_list_append mt_append (pv 2) (pa_cons (pv 5) pa_nil))))))
  (pss_cons (ps_expr (pe_bm PySem.F.plainAttrs_list PySem.F.slot_list_append PySem.F.type_list_append mt_append (pv 2) (pa_cons (pv 3) pa_nil)))
  (pss_one (ps_ret (pv 2))))))), ?_⟩
    refine ⟨(by show 0 ≤ sizeLine; exact Nat.zero_le _), fun pl hpl => ?_⟩
    refine ⟨_, rfl, ?_⟩
    refine ⟨_, rfl, t, rfl, ⟨_, SqT.sm hT (same_new hpl)⟩, for_tup (xs := js.map fun d => V.str (S [d])) (fun i σ' H' => ∃ (done : List (List Nat)) (r : List Nat) (v4 v5 v6 : Option V), σ' = [some (.str (S l)), some (.ref t), some (.ref pl), some (.str (S r)), v4, v5, v6] ∧
      partL js l = done ++ partL (js.drop i) r ∧ done.length = i ∧ r.length ≤ 1000000 ∧ H' pl = some (.lst (done.map fun x => V.str (S x))) ∧ Same H H') ⟨[], l, _, _, _, rfl, rfl, rfl, hl, upd_same, same_new hpl⟩ ?_ ?_ ?_⟩
    · rintro i σ' H' _ ⟨done, r, v4, v5, v6, rfl, e, hd, hr', hp, s'⟩
      exact SqT.sm hT s'
    · rintro i x σ' H' hx ⟨done, r, v4, v5, v6, rfl, e, hd, hr', hp, s'⟩
      rw [List.getElem?_map] at hx
      obtain ⟨d, hd', rfl⟩ := Option.map_eq_some_iff.mp hx
      have hdr : js.drop i = d :: js.drop (i + 1) := by
        obtain ⟨hlt, z⟩ := List.getElem?_eq_some_iff.mp hd'
        rw [List.drop_eq_getElem_cons hlt, z]
      refine ⟨_, rfl, rfl, _, rfl, S r, S [d], rfl, rfl, (by rw [S_len]; rfl), (by rw [S_len, sizeLine_eq]; omega), fun tp htp => ?_⟩
      rw [(part_S d r).1, (part_S d r).2]
      have pp : pl ≠ tp := fun z => by rw [← z, hp] at htp; cases htp
      refine ⟨tp, _, rfl, SqT.of upd_same, rfl, ?_⟩
      have hdl : done.length ≤ 1000 := by
        obtain ⟨hlt, _⟩ := List.getElem?_eq_some_iff.mp hd'
        omega
      refine ⟨_, _, rfl, _, _, rfl, _, _, rfl, rfl, ?_⟩
      refine ⟨_, rfl, .inl ⟨rfl, _, SqL.of (by rw [upd_ne pp]; exact hp)⟩, _, rfl, pl, _, _, rfl, rfl, (by rw [upd_ne pp]; exact hp), (by rw [List.length_map]; exact small1000 hdl), ?_⟩
      refine ⟨done ++ [(cutAt d r).1], (cutAt d r).2, _, _, _, rfl, ?_, ?_, Nat.le_trans (cut_len d r).2 hr', ?_, ?_⟩
      · rw [e, hdr]
        simp [partL]
      · rw [List.length_append, hd]
        rfl
      · rw [upd_same, List.map_append]
        rfl
      · exact same_mut (s'.trans (same_new htp)) hpl
    · rintro σ' H' ⟨done, r, v4, v5, v6, rfl, e, hd, hr', hp, s'⟩
      have hdl : done.length ≤ 1000 := by
        rw [List.length_map] at hd
        omega
      refine ⟨_, rfl, .inl ⟨rfl, _, SqL.of hp⟩, _, rfl, pl, _, _, rfl, rfl, hp, (by rw [List.length_map]; exact small1000 hdl), ?_⟩
      refine ⟨_, rfl, q pl _ (same_mut s' hpl) hpl ?_⟩
      rw [upd_same, e, List.length_map, List.drop_length, List.map_append]
      rfl
/-- all but the tape at a stands; new things may come -/
def Kp (a : Addr) (H H' : Hp) : Prop := (∀ b o, b ≠ a → H b = some o → H' b = some o) ∧ TapeAt H' a
theorem Kp.of {a : Addr} {H H' : Hp} (f : Frm a H H') : Kp a H H' := ⟨fun b o hb e => by rw [f.1 b hb]; exact e, f.2⟩
theorem tape_same {a : Addr} {H H' : Hp} (t : TapeAt H a) (s : Same H H') : TapeAt H' a := by
  obtain ⟨A, B, h, ok⟩ := t
  exact ⟨A, B, s _ _ h, ok⟩
theorem Kp.same {a : Addr} {H H' : Hp} (t : TapeAt H a) (s : Same H H') : Kp a H H' := ⟨fun b o _ e => s b o e, tape_same t s⟩
theorem Kp.trans {a : Addr} {H H1 H2 : Hp} (x : Kp a H H1) (y : Kp a H1 H2) : Kp a H H2 := ⟨fun b o hb e => y.1 b o hb (x.1 b o hb e), y.2⟩
/-! ### the law's shuffle -/
theorem SqL.sm {K : PySem.W.Frag} {H H' : Hp} {a : Addr} {xs : List V} (h : SqL K H a xs) (s : Same H H') : SqL K H' a xs := by
  rcases h with (h | ⟨o, h⟩) | h
  · exact .inl (.inl (s _ _ h))
  · exact .inl (.inr ⟨o, s _ _ h⟩)
  · exact .inr h
/-- a list or a tuple of xs -/
def SqA (K : PySem.W.Frag) (H : Hp) (l : Addr) (xs : List V) : Prop := SqL K H l xs ∨ SqT K H l xs
theorem SqA.sm {K : PySem.W.Frag} {H H' : Hp} {a : Addr} {xs : List V} (h : SqA K H a xs) (s : Same H H') : SqA K H' a xs := h.elim (fun h => .inl (SqL.sm h s)) fun h => .inr (SqT.sm h s)
abbrev sShf : Stmt := top 40
theorem scShf : FnScope ["_law_tape_here", "_law_items", "_law_left", "_law_found", "_law_turn"] ["_law_tape_here", "_law_items"] (defScope sShf) := ⟨rfl, rfl, rfl, by decide +kernel, rfl, by decide +kernel, by decide +kernel⟩
def spShf (K : PySem.W.Frag) : Sp := fun vs H Q _ => ∃ (a l : Addr) (xs : List V), vs = [.ref a, .ref l] ∧ TapeAt H a ∧ SqA K H l xs ∧ xs.length ≤ 1000 ∧
  ∀ (p : Addr) (H' : Hp) (ys : List V), ys.Perm xs → Kp a H H' → H p = none → H' p = some (.lst ys) → Q (.ref p) H'
theorem perm_pop {xs ls fs : List V} {k : Nat} {y : V} (h : (ls ++ fs).Perm xs) (hy : ls[k]? = some y) : (ls.eraseIdx k ++ (fs ++ [y])).Perm xs := by
  refine List.Perm.trans ?_ h
  obtain ⟨hk, rfl⟩ := List.getElem?_eq_some_iff.mp hy
  have e : ls.eraseIdx k = ls.take k ++ ls.drop (k + 1) := List.eraseIdx_eq_take_drop_succ ..
  have e2 : ls = ls.take k ++ ls[k] :: ls.drop (k + 1) := by
    rw [← List.drop_eq_getElem_cons hk, List.take_append_drop]
  rw [e]
  conv => rhs; rw [e2]
  rw [List.append_assoc, List.append_assoc]
  refine List.Perm.append_left _ ?_
  rw [← List.append_assoc, List.cons_append]
  exact List.perm_append_comm
theorem ok_shf (T : Txt K mg c) (dP : DefAt K mg "_law_pick" sPick ["_law_tape_here", "_law_many"]) {f : Addr} {fd : FuncData} (F : Fun K "_law_shuffled" "_law_shuffled" sShf f fd) : FnOk P w K mg base CX0 2 f fd ["_law_tape_here", "_law_items"] (spShf K) := by
  have cP : Cal P w K mg base CX0 1 "_law_pick" spPick := cal_of dP fun f fd F => ok_pick T F
  refine F.ok scShf (fun vs H Q E h => ?_) (fun cdv A outer s H vs Q E hr h => ?_)
  · obtain ⟨a, l, xs, rfl, _⟩ := h
    rfl
  · obtain ⟨a, l, xs, rfl, ta, hS, hl, q⟩ := h
    refine ⟨_, (pss_cons (ps_set (i := 2) scShf.nd rfl (Or.inl rfl) (pe_callTy call_list_of (by rfl) T.z_list (by decide +kernel) (pa_cons (pv 1) pa_nil)))
  (pss_cons (ps_set (i := 3) scShf.nd rfl (Or.inl rfl) (pe_lst pa_nil))
  (pss_cons (ps_for PassesOwn.never rfl (pi_range1 (by rfl) T.z_range (pa_cons (pe_callB call_len_seq (by rfl) T.z_len (by decide +kernel) (pa_cons (pv 1) pa_nil)) pa_nil)) (pg_name (i := 4) scShf.nd rfl (Or.inl rfl))
  (pss_one (ps_expr (pe_bm PySem.F.plainAttrs_list PySem.F.slot_list_append PySem.F.type_list_append mt_append (pv 3) (pa_cons (pe_bm PySem.F.plainAttrs_list PySem.F.slot_list_pop PySem.F.type_list_pop mt_popAt (pv 2) (pa_cons (pe_c cP hr (by decide) rfl (pa_cons (pv 0) (pa_cons (pe_callB call_len_seq (by rfl) T.z_len (by decide +kernel) (pa_cons (pv 2) pa_nil)) pa_nil))) pa_nil)) pa_nil)))))
  (pss_one (ps_ret (pv 3)))))), ?_⟩
    have len : xs.length ≤ sizeLine := Nat.le_of_lt (small1000 hl)
    refine ⟨_, rfl, l, xs, rfl, hS, fun u hu => ?_⟩
    refine ⟨Nat.zero_le _, fun p hp => ?_⟩
    have s1 := same_new (o := .lst xs) hu
    have s2 := s1.trans (same_new (o := .lst []) hp)
    have hpH : H p = none := by
      cases e : H p with
      | none => rfl
      | some o =>
        rw [s1 _ _ e] at hp
        cases hp
    have up : u ≠ p := fun z => by rw [← z, upd_same] at hp; cases hp
    have ua : u ≠ a := fun z => by
      obtain ⟨A, B, e, _⟩ := ta
      rw [← z, hu] at e
      cases e
    have pa : p ≠ a := fun z => by
      obtain ⟨A, B, e, _⟩ := ta
      rw [← z, hpH] at e
      cases e
    refine ⟨_, rfl, l, xs, rfl, (hS.sm s2), (xs.length : Int), rfl, by omega, by omega, for_range (lo := 0) (n := xs.length) (fun i σ' H' => ∃ (ls fs : List V) (v4 : Option V), σ' = [some (.ref a), some (.ref l), some (.ref u), some (.ref p), v4] ∧
      H' u = some (.lst ls) ∧ H' p = some (.lst fs) ∧ (ls ++ fs).Perm xs ∧ fs.length = i ∧ Kp a H H') ⟨xs, [], _, rfl, by rw [upd_ne up, upd_same], upd_same, by rw [List.append_nil], rfl, Kp.same ta s2⟩ ?_ ?_⟩
    · rintro i σ' H' hi ⟨ls, fs, v4, rfl, eu, ep, pm, hf, k⟩
      have hsum : ls.length + fs.length = xs.length := by rw [← List.length_append]; exact pm.length_eq
      refine ⟨_, rfl, .inl ⟨rfl, _, SqL.of ep⟩, _, rfl, .inl ⟨rfl, _, SqL.of eu⟩, _, rfl, _, rfl, u, ls, rfl, .inl (SqL.of eu), ?_⟩
      refine ⟨a, _, rfl, k.2, by omega, by omega, fun r H2 r0 r1 Fr => ?_⟩
      have eu2 : H2 u = some (.lst ls) := by rw [Fr.1 u ua]; exact eu
      have ep2 : H2 p = some (.lst fs) := by rw [Fr.1 p pa]; exact ep
      have hk : r.toNat < ls.length := by omega
      refine ⟨u, ls, r, r.toNat, ls[r.toNat], rfl, rfl, eu2, by omega, by omega, seqIndex_of r0 r1, List.getElem?_eq_getElem hk, ?_⟩
      refine ⟨p, fs, _, rfl, rfl, by rw [upd_ne (Ne.symm up)]; exact ep2, small1000 (by omega), ?_⟩
      refine ⟨ls.eraseIdx r.toNat, fs ++ [ls[r.toNat]], _, rfl, by rw [upd_ne up, upd_same], upd_same, perm_pop pm (List.getElem?_eq_getElem hk), by rw [List.length_append, hf]; rfl, ?_⟩
      have kk := k.trans (Kp.of Fr)
      refine ⟨fun b o hb e => ?_, ?_⟩
      · have hbp : b ≠ p := fun z => by rw [z, hpH] at e; cases e
        have hbu : b ≠ u := fun z => by rw [z, hu] at e; cases e
        rw [upd_ne hbp, upd_ne hbu]
        exact kk.1 b o hb e
      · obtain ⟨A, B, e, ok⟩ := kk.2
        exact ⟨A, B, by rw [upd_ne (Ne.symm pa), upd_ne (Ne.symm ua)]; exact e, ok⟩
    · rintro σ' H' ⟨ls, fs, v4, rfl, eu, ep, pm, hf, k⟩
      have hsum : ls.length + fs.length = xs.length := by rw [← List.length_append]; exact pm.length_eq
      have hn : ls = [] := List.eq_nil_of_length_eq_zero (by omega)
      rw [hn, List.nil_append] at pm
      exact ⟨_, rfl, q p H' fs pm k hpH ep⟩
/-! ### the law's head -/
def azL : List Nat := [97, 98, 99, 100, 101, 102, 103, 104, 105, 106, 107, 108, 109, 110, 111, 112, 113, 114, 115, 116, 117, 118, 119, 120, 121, 122, 65, 66, 67, 68, 69, 70, 71, 72, 73, 74, 75, 76, 77, 78, 79, 80, 81, 82, 83, 84, 85, 86, 87, 88, 89, 90]
def ltr (c : Nat) : Bool := (decide (97 ≤ c) && decide (c ≤ 122)) || (decide (65 ≤ c) && decide (c ≤ 90))
theorem az_ltr : ∀ j : Nat, j < 52 → ∃ c, azL[j]? = some c ∧ ltr c = true := by decide +kernel
/-- words of letters, each with a space behind it -/
def headOf (ws : List (List Nat)) : List Nat := (ws.map fun w => w ++ [32]).flatten
def WordsOk (ws : List (List Nat)) : Prop := ∀ w ∈ ws, 1 ≤ w.length ∧ w.length ≤ 9 ∧ w.all ltr = true
theorem headOf_len : ∀ {ws : List (List Nat)}, WordsOk ws → (headOf ws).length ≤ 10 * ws.length
  | [], _ => Nat.le_refl _
  | w :: ws, h => by
    have q := h w (List.mem_cons_self ..)
    have r := headOf_len (ws := ws) fun x hx => h x (List.mem_cons_of_mem _ hx)
    unfold headOf at r ⊢
    rw [List.map_cons, List.flatten_cons, List.length_append, List.length_append, List.length_cons]
    simp only [List.length_cons, List.length_nil]
    omega
theorem headOf_snoc (ws : List (List Nat)) (w : List Nat) : headOf (ws ++ [w]) = headOf ws ++ w ++ [32] := by
  unfold headOf
  simp
abbrev sHead : Stmt := top 43
theorem scHead : FnScope ["_law_tape_here", "_law_alphabet", "_law_head_here", "_law_lap", "_law_spot"] ["_law_tape_here"] (defScope sHead) := ⟨rfl, rfl, rfl, by decide +kernel, rfl, by decide +kernel, by decide +kernel⟩
def spHead : Sp := fun vs H Q _ => ∃ a : Addr, vs = [.ref a] ∧ TapeAt H a ∧ ∀ (ws : List (List Nat)) (H' : Hp), WordsOk ws → ws.length ≤ 3 → Frm a H H' → Q (.str (S (headOf ws))) H'
theorem ok_head (T : Txt K mg c) (dP : DefAt K mg "_law_pick" sPick ["_law_tape_here", "_law_many"]) {f : Addr} {fd : FuncData} (F : Fun K "_law_head" "_law_head" sHead f fd) : FnOk P w K mg base CX0 2 f fd ["_law_tape_here"] spHead := by
  have cP : Cal P w K mg base CX0 1 "_law_pick" spPick := cal_of dP fun f fd F => ok_pick T F
  refine F.ok scHead (fun vs H Q E h => ?_) (fun cdv A outer s H vs Q E hr h => ?_)
  · obtain ⟨a, rfl, _⟩ := h
    rfl
  · obtain ⟨a, rfl, ta, q⟩ := h
    refine ⟨_, (pss_cons (ps_set (i := 1) scHead.nd rfl (Or.inl rfl) (pe_strS [97, 98, 99, 100, 101, 102, 103, 104, 105, 106, 107, 108, 109, 110, 111, 112, 113, 114, 115, 116, 117, 118, 119, 120, 121, 122, 65, 66, 67, 68, 69, 70, 71, 72, 73, 74, 75, 76, 77, 78, 79, 80, 81, 82, 83, 84, 85, 86, 87, 88, 89, 90] (by decide +kernel)))
  (pss_cons (ps_set (i := 2) scHead.nd rfl (Or.inl rfl) (pe_strS ([] : List Nat) (by decide +kernel)))
  (pss_cons (ps_for PassesOwn.never rfl (pi_range1 (by rfl) T.z_range (pa_cons (pe_c cP hr (by decide) rfl (pa_cons (pv 0) (pa_cons pe_int pa_nil))) pa_nil)) (pg_name (i := 3) scHead.nd rfl (Or.inl rfl))
  (pss_cons (ps_for PassesOwn.never rfl (pi_range1 (by rfl) T.z_range (pa_cons (pe_op op_add pe_int (pe_c cP hr (by decide) rfl (pa_cons (pv 0) (pa_cons pe_int pa_nil)))) pa_nil)) (pg_name (i := 4) scHead.nd rfl (Or.inl rfl))
  (pss_one (ps_set (i := 2) scHead.nd rfl (Or.inl rfl) (pe_op op_catS (pv 2) (pe_ix ix_S (pv 1) (pe_c cP hr (by decide) rfl (pa_cons (pv 0) (pa_cons pe_int pa_nil))) (fun _ _ => rfl))))))
  (pss_one (ps_set (i := 2) scHead.nd rfl (Or.inl rfl) (pe_op op_catS (pv 2) (pe_strS [32] (by decide +kernel)))))))
  (pss_one (ps_ret (pv 2)))))), ?_⟩
    refine ⟨_, rfl, a, 4, rfl, ta, by decide, by decide, fun r H1 r0 r1 F1 => ?_⟩
    refine ⟨r, rfl, by omega, by omega, for_range (lo := 0) (n := r.toNat) (fun i σ' H' => ∃ (ws : List (List Nat)) (v4 v5 : Option V), σ' = [some (.ref a), some (.str (S azL)), some (.str (S (headOf ws))), v4, v5] ∧ ws.length = i ∧ WordsOk ws ∧ Frm a H H')
      ⟨[], _, _, rfl, rfl, (fun w hw => absurd hw (List.not_mem_nil)), F1⟩ ?_ ?_⟩
    · rintro i σ' H' hi ⟨ws, v4, v5, rfl, hw, ok, Fr⟩
      refine ⟨_, rfl, a, 9, rfl, Fr.2, by decide, by decide, fun z H2 z0 z1 F2 => ?_⟩
      have hz : 0 ≤ 1 + z ∧ 1 + z ≤ 9 := by omega
      have hwl : ws.length ≤ 3 := by omega
      have hl := headOf_len ok
      refine ⟨_, _, rfl, rfl, 1 + z, rfl, by omega, by omega, for_range (lo := 0) (n := (1 + z).toNat) (fun j σ' H' => ∃ (w : List Nat) (v5 : Option V), σ' = [some (.ref a), some (.str (S azL)), some (.str (S (headOf ws ++ w))), some (.int (0 + (i : Int))), v5] ∧ w.length = j ∧ w.all ltr = true ∧ Frm a H H')
        ⟨[], _, by rw [List.append_nil]; rfl, rfl, rfl, Fr.trans F2⟩ ?_ ?_⟩
      · rintro j σ' H' hj ⟨w, v5, rfl, hw2, al, Fr2⟩
        refine ⟨_, rfl, _, rfl, _, rfl, a, 52, rfl, Fr2.2, by decide, by decide, fun y H3 y0 y1 F3 => ?_⟩
        obtain ⟨c, hc, lc⟩ := az_ltr y.toNat (by omega)
        have hat := atI_nat hc
        rw [show ((y.toNat : Nat) : Int) = y by omega] at hat
        refine ⟨azL, y, c, rfl, rfl, by decide, hat, headOf ws ++ w, [c], rfl, rfl, by rw [List.length_append, List.length_singleton]; omega, ?_⟩
        refine ⟨w ++ [c], _, by rw [List.append_assoc]; rfl, by rw [List.length_append, hw2]; rfl, by rw [List.all_append, al]; simp [lc], Fr2.trans F3⟩
      · rintro σ' H' ⟨w, v5, rfl, hw2, al, Fr2⟩
        refine ⟨_, rfl, headOf ws ++ w, [32], rfl, rfl, by rw [List.length_append, List.length_singleton]; omega, ?_⟩
        refine ⟨ws ++ [w], _, _, by rw [headOf_snoc]; rfl, by rw [List.length_append, hw]; rfl, fun x hx => ?_, Fr2⟩
        rcases List.mem_append.mp hx with hx | hx
        · exact ok x hx
        · rw [List.mem_singleton.mp hx]
          exact ⟨by omega, by omega, al⟩
    · rintro σ' H' ⟨ws, v4, v5, rfl, hw, ok, Fr⟩
      exact ⟨_, rfl, q ws H' ok (by omega) Fr⟩
/-! ### the law's word and figure -/
def spWord2 : Sp := fun vs H Q _ => ∃ n : Nat, vs = [.int n] ∧ n < 10 ^ 60 ∧ Q (.str (S (lettersL n))) H
abbrev sWord : Stmt := top 41
theorem scWord : FnScope ["_law_number_here", "_law_found"] ["_law_number_here"] (defScope sWord) := ⟨rfl, rfl, rfl, by decide +kernel, rfl, by decide +kernel, by decide +kernel⟩
theorem ok_word (T : Txt K mg c) {f : Addr} {fd : FuncData} (F : Fun K "_law_word" "_law_word" sWord f fd) : FnOk P w K mg base CX0 1 f fd ["_law_number_here"] spWord2 := by
  refine F.ok scWord (fun vs H Q E h => ?_) (fun cdv A outer s H vs Q E hr h => ?_)
  · obtain ⟨n, rfl, _⟩ := h
    rfl
  · obtain ⟨n, rfl, hn, q⟩ := h
    refine ⟨_, (pss_cons (ps_if (pt_cmpR op_eq (pv 0) pe_int (nomark _)) (pss_one (ps_ret (pe_strS [45] (by decide +kernel)))) pss_nil)
  (pss_cons (ps_set (i := 1) scWord.nd rfl (Or.inl rfl) (pe_strS ([] : List Nat) (by decide +kernel)))
  (pss_cons (ps_while PassesOwn.never (pt_cmpR op_gt (pv 0) pe_int (nomark _))
  (pss_cons (ps_set (i := 0) scWord.nd rfl (Or.inl rfl) (pe_op op_sub (pv 0) pe_int))
  (pss_cons (ps_set (i := 1) scWord.nd rfl (Or.inl rfl) (pe_op op_catS (pe_ix ix_S (pe_strS [97, 98, 99, 100, 101, 102, 103, 104, 105, 106, 107, 108, 109, 110, 111, 112, 113, 114, 115, 116, 117, 118, 119, 120, 121, 122] (by decide +kernel)) (pe_op op_mod (pe_callTy call_int1 (by rfl) T.z_int (by decide +kernel) (pa_cons (pv 0) pa_nil)) pe_int) (fun _ _ => rfl)) (pv 1)))
  (pss_one (ps_set (i := 0) scWord.nd rfl (Or.inl rfl) (pe_op op_fdivW (pv 0) pe_int))))))
  (pss_one (ps_ret (pv 1)))))), ?_⟩
    refine ⟨_, rfl, rfl, _, rfl, ?_⟩
    by_cases h0 : n = 0
    · subst h0
      refine if_true_of (by decide) ?_
      exact q
    refine if_false_of (decide_eq_false fun z => h0 (by have := V.int.inj z; omega)) ?_
    have hlen : (wordN n).length ≤ 43 := wordN_len (Nat.lt_trans hn (by decide +kernel))
    refine ⟨fun m σ' H' => ∃ ws : List Nat, σ' = [some (.int (m : Int)), some (.str (S ws))] ∧ wordN n = wordN m ++ ws ∧ H' = H, ⟨n, [], rfl, by simp, rfl⟩, ?_⟩
    rintro m σ' H1 ⟨ws, rfl, hw, rfl⟩
    have hws : ws.length ≤ 43 := by
      have e := congrArg List.length hw
      rw [List.length_append] at e
      omega
    refine ⟨_, rfl, _, _, rfl, rfl, _, rfl, ?_⟩
    by_cases hm : 0 < m
    · refine if_true_of (decide_eq_true (by omega)) ?_
      refine ⟨fun σ' H' => ∃ ws : List Nat, σ' = [some (.int (((m - 1) / 26 : Nat) : Int)), some (.str (S ws))] ∧ wordN n = wordN ((m - 1) / 26) ++ ws ∧ H' = H1, fun σ' H' z => ⟨(m - 1) / 26, by omega, z⟩, ?_⟩
      have hr26 : atI alphaL (((m : Int) - 1) % 26) = some (97 + (((m : Int) - 1) % 26).toNat) := at_alpha (Int.emod_nonneg _ (by decide)) (Int.emod_lt_of_pos _ (by decide))
      refine ⟨_, rfl, _, _, rfl, rfl, ?_⟩
      refine ⟨_, rfl, .inl ⟨_, rfl, _, _, rfl, rfl, (by show (0 : Int) < 26; decide), alphaL, _, _, rfl, rfl, by decide, hr26, _, rfl, [97 + (((m : Int) - 1) % 26).toNat], ws, rfl, rfl, (by rw [List.length_singleton]; omega), ?_⟩⟩
      refine ⟨_, rfl, _, _, rfl, rfl, wide_div (b := 10) (by decide) (by decide) (by decide) (by decide), ?_⟩
      refine ⟨[97 + (((m : Int) - 1) % 26).toNat] ++ ws, ?_, ?_, rfl⟩
      · have e : ((m : Int) - 1) / 26 = (((m - 1) / 26 : Nat) : Int) := by omega
        rw [← e]
        rfl
      · obtain ⟨k, rfl⟩ : ∃ k, m = k + 1 := ⟨m - 1, by omega⟩
        rw [hw, wordN_succ]
        have e : ((((k + 1 : Nat) : Int) - 1) % 26).toNat = k % 26 := by omega
        rw [e]
        simp
    · refine if_false_of (decide_eq_false (by omega)) ?_
      have e0 : m = 0 := by omega
      subst e0
      rw [wordN_zero, List.nil_append] at hw
      rw [lettersL_low (by omega), hw] at q
      exact ⟨_, rfl, q⟩
abbrev sFigr : Stmt := top 42
theorem scFigr : FnScope ["_law_form", "_law_number_here"] ["_law_form", "_law_number_here"] (defScope sFigr) := ⟨rfl, rfl, rfl, by decide +kernel, rfl, by decide +kernel, by decide +kernel⟩
def spFigr : Sp := fun vs H Q _ => ∃ (b : Bool) (n : Nat), vs = [.str (S (formL b)), .int n] ∧ n < 10 ^ 60 ∧ Q (.str (S (numT b n))) H
theorem ok_figr (T : Txt K mg c) (dW : DefAt K mg "_law_word" sWord ["_law_number_here"]) {f : Addr} {fd : FuncData} (F : Fun K "_law_figure" "_law_figure" sFigr f fd) : FnOk P w K mg base CX0 2 f fd ["_law_form", "_law_number_here"] spFigr := by
  have cW : Cal P w K mg base CX0 1 "_law_word" spWord2 := cal_of dW fun f fd F => ok_word T F
  refine F.ok scFigr (fun vs H Q E h => ?_) (fun cdv A outer s H vs Q E hr h => ?_)
  · obtain ⟨b, n, rfl, _⟩ := h
    rfl
  · obtain ⟨b, n, rfl, hn, q⟩ := h
    refine ⟨_, (pss_one (ps_ret (pe_ifExp (pt_cmpR op_eq (pv 0) (pe_strS [102, 105, 103, 117, 114, 101, 115] (by decide +kernel)) (nomark _)) (pe_callTy call_str_int (by rfl) T.z_str (by decide +kernel) (pa_cons (pv 1) pa_nil)) (pe_c cW hr (by decide) rfl (pa_cons (pv 1) pa_nil))))), ?_⟩
    have hlog : ((n : Nat) : Int).natAbs.log2 < 1920 := by
      rw [Int.natAbs_natCast]
      by_cases h0 : n = 0
      · subst h0
        decide
      · exact (Nat.log2_lt h0).mpr (Nat.lt_trans hn (by decide +kernel))
    cases b with
    | true =>
      refine ⟨_, rfl, rfl, _, rfl, if_false_of (by decide +kernel) ?_⟩
      exact ⟨_, rfl, n, rfl, hn, q⟩
    | false =>
      refine ⟨_, rfl, rfl, _, rfl, if_true_of (by decide +kernel) ?_⟩
      refine ⟨_, rfl, _, rfl, hlog, ?_⟩
      have z : Q (.str (S (TL.numL n))) H := q
      rw [← SX.num_S] at z
      exact z
/-! ### texts put together -/
/-- joints and the texts behind them -/
def tailT : List Nat → List (List Nat) → List Nat
  | d :: ds, x :: xs => [d] ++ x ++ tailT ds xs
  | _, _ => []
def joinT (hd : List Nat) (js : List Nat) (ws : List (List Nat)) : List Nat := match ws with
  | [] => hd
  | x :: xs => hd ++ x ++ tailT js xs
theorem tailT_snoc : ∀ {ds : List Nat} {xs : List (List Nat)} {d : Nat} {x : List Nat}, ds.length = xs.length → tailT (ds ++ [d]) (xs ++ [x]) = tailT ds xs ++ [d] ++ x
  | [], [], d, x, _ => by simp [tailT]
  | e :: ds, y :: xs, d, x, h => by
    have r := tailT_snoc (ds := ds) (xs := xs) (d := d) (x := x) (by simpa using h)
    simp only [List.cons_append, tailT, r, List.append_assoc]
  | [], y :: xs, _, _, h => by simp at h
  | e :: ds, [], _, _, h => by simp at h
theorem tailT_len : ∀ {ds : List Nat} {xs : List (List Nat)} {n : Nat}, (∀ x ∈ xs, x.length ≤ n) → (tailT ds xs).length ≤ (n + 1) * ds.length
  | [], _, n, _ => by simp [tailT]
  | d :: ds, [], n, _ => by simp [tailT]
  | d :: ds, x :: xs, n, h => by
    have r := tailT_len (ds := ds) (xs := xs) (n := n) fun y hy => h y (List.mem_cons_of_mem _ hy)
    have q := h x (List.mem_cons_self ..)
    simp only [tailT, List.length_append, List.length_cons, List.length_nil]
    rw [Nat.mul_succ]
    omega
abbrev sLjn : Stmt := top 46
theorem scLjn : FnScope ["_law_plan_here", "_law_words", "_law_found", "_law_k"] ["_law_plan_here", "_law_words"] (defScope sLjn) := ⟨rfl, rfl, rfl, by decide +kernel, rfl, by decide +kernel, by decide +kernel⟩
def spLjn : Sp := fun vs H Q _ => ∃ (P A B W : Addr) (hd js : List Nat) (w0 : List Nat) (ws : List (List Nat)), vs = [.ref P, .ref W] ∧ H P = some (.lst [.str (S hd), .ref A, .ref B]) ∧ H B = some (.lst (js.map fun d => V.str (S [d]))) ∧
  H W = some (.lst ((w0 :: ws).map fun x => V.str (S x))) ∧ js.length = ws.length ∧ js.length ≤ 100 ∧ hd.length ≤ 1000 ∧ w0.length ≤ 1000 ∧ (∀ x ∈ ws, x.length ≤ 1000) ∧ Q (.str (S (joinT hd js (w0 :: ws)))) H
theorem ok_ljn (T : Txt K mg c) {f : Addr} {fd : FuncData} (F : Fun K "_law_joined" "_law_joined" sLjn f fd) : FnOk P w K mg base CX0 1 f fd ["_law_plan_here", "_law_words"] spLjn := by
  refine F.ok scLjn (fun vs H Q E h => ?_) (fun cdv A outer s H vs Q E hr h => ?_)
  · obtain ⟨P, A, B, W, hd, js, w0, ws, rfl, _⟩ := h
    rfl
  · obtain ⟨P, A, B, W, hd, js, w0, ws, rfl, hP, hB, hW, hl, hj, h1, h2, h3, q⟩ := h
    refine ⟨_, (pss_cons (ps_set (i := 2) scLjn.nd rfl (Or.inl rfl) (pe_op op_catS (pe_ix ix_list (pv 0) pe_int (fun _ _ => rfl)) (pe_ix ix_list (pv 1) pe_int (fun _ _ => rfl))))
  (pss_cons (ps_for PassesOwn.never rfl (pi_range1 (by rfl) T.z_range (pa_cons (pe_callB call_len_seq (by rfl) T.z_len (by decide +kernel) (pa_cons (pe_ix ix_list (pv 0) pe_int (fun _ _ => rfl)) pa_nil)) pa_nil)) (pg_name (i := 3) scLjn.nd rfl (Or.inl rfl))
  (pss_one (ps_set (i := 2) scLjn.nd rfl (Or.inl rfl) (pe_op op_catS (pe_op op_catS (pv 2) (pe_ix ix_list (pe_ix ix_list (pv 0) pe_int (fun _ _ => rfl)) (pv 3) (fun _ _ => rfl))) (pe_ix ix_list (pv 1) (pe_op op_add (pv 3) pe_int) (fun _ _ => rfl))))))
  (pss_one (ps_ret (pv 2))))), ?_⟩
    refine ⟨_, rfl, P, _, 0, _, rfl, rfl, SqL.of hP, rfl, _, rfl, W, _, 0, _, rfl, rfl, SqL.of hW, at_of (j := 0) rfl rfl, hd, w0, rfl, rfl, by omega, ?_⟩
    refine ⟨_, rfl, P, _, 2, _, rfl, rfl, SqL.of hP, rfl, B, _, rfl, .inl (SqL.of hB), (js.length : Int), by rw [List.length_map], by omega, by omega, ?_⟩
    refine for_range (lo := 0) (n := js.length) (fun i σ' H' => ∃ v3 : Option V, σ' = [some (.ref P), some (.ref W), some (.str (S (hd ++ w0 ++ tailT (js.take i) (ws.take i)))), v3] ∧ H' = H) ⟨_, by simp [tailT]; rfl, rfl⟩ (fun i σ' H' hi hP2 => ?_) (fun σ' H' hP2 => ?_)
    · obtain ⟨v3, rfl, rfl⟩ := hP2
      have hjd : js[i]? = some js[i] := List.getElem?_eq_getElem hi
      have hwi : i < ws.length := by omega
      have hwd : ws[i]? = some ws[i] := List.getElem?_eq_getElem hwi
      have tl := tailT_len (ds := js.take i) (xs := ws.take i) (n := 1000) fun x hx => h3 x (List.mem_of_mem_take hx)
      have tk : (js.take i).length ≤ 100 := by rw [List.length_take]; omega
      have hx := h3 ws[i] (List.getElem_mem hwi)
      have at1 : atI (js.map fun d => V.str (S [d])) (0 + (i : Int)) = some (.str (S [js[i]])) := at_of (j := i) (by omega) (by rw [List.getElem?_map, hjd]; rfl)
      have at2 : atI ((w0 :: ws).map fun x => V.str (S x)) (0 + (i : Int) + 1) = some (.str (S ws[i])) := at_of (j := i + 1) (by omega) (by rw [List.map_cons, List.getElem?_cons_succ, List.getElem?_map, hwd]; rfl)
      have e : hd ++ w0 ++ tailT (js.take (i + 1)) (ws.take (i + 1)) = hd ++ w0 ++ tailT (js.take i) (ws.take i) ++ [js[i]] ++ ws[i] := by
        rw [List.take_succ, List.take_succ, hjd, hwd]
        show hd ++ w0 ++ tailT (js.take i ++ [js[i]]) (ws.take i ++ [ws[i]]) = _
        rw [tailT_snoc (by rw [List.length_take, List.length_take, hl])]
        simp only [List.append_assoc]
      have big : (hd ++ w0 ++ tailT (js.take i) (ws.take i)).length ≤ 200000 := by
        rw [List.length_append, List.length_append]
        omega
      refine ⟨_, rfl, _, rfl, P, _, 2, _, rfl, rfl, SqL.of hP, rfl, _, rfl, B, _, _, _, rfl, rfl, SqL.of hB, at1, _, [js[i]], rfl, rfl, by rw [List.length_singleton]; omega, ?_⟩
      refine ⟨_, rfl, _, rfl, _, _, rfl, rfl, W, _, _, _, rfl, rfl, SqL.of hW, at2, _, ws[i], rfl, rfl, by rw [List.length_append, List.length_singleton]; omega, ?_⟩
      exact ⟨_, by rw [e]; rfl, rfl⟩
    · obtain ⟨v3, rfl, rfl⟩ := hP2
      rw [List.take_length, hl, List.take_length]
      exact ⟨_, rfl, q⟩
/-! ### a counter's piece of a label's text -/
def pieceC (l : List Nat) : List Nat := (cutAt 58 (cutAt 125 l).1).1
def pieceB (l : List Nat) : Bool := decide ((cutAt 58 (cutAt 125 l).1).2 = [97])
abbrev sRsh : Stmt := top 34
theorem scRsh : FnScope ["piece", "inside", "counter", "_", "mark"] ["piece"] (defScope sRsh) := ⟨rfl, rfl, rfl, by decide +kernel, rfl, by decide +kernel, by decide +kernel⟩
def spRsh : Sp := fun vs H Q _ => ∃ l : List Nat, vs = [.str (S l)] ∧ l.length ≤ 1000000 ∧ ∀ (p : Addr) (H' : Hp), Same H H' → H p = none → H' p = some (.tup [.str (S (pieceC l)), .str (S (formL (pieceB l)))]) → Q (.ref p) H'
theorem ok_rsh (T : Txt K mg c) {f : Addr} {fd : FuncData} (F : Fun K "read_shown" "read_shown" sRsh f fd) : FnOk P w K mg base CX0 1 f fd ["piece"] spRsh := by
  refine F.ok scRsh (fun vs H Q E h => ?_) (fun cdv A outer s H vs Q E hr h => ?_)
  · obtain ⟨l, rfl, _⟩ := h
    rfl
  · obtain ⟨l, rfl, hl, q⟩ := h
    refine ⟨_, (pss_cons (ps_set (i := 1) scRsh.nd rfl (Or.inl rfl) (pe_ix ix_tup (pe_bm PySem.F.plainAttrs_str PySem.F.slot_str_partition PySem.F.type_str_partition mt_partition (pv 0) (pa_cons (pe_strS [125] (by decide +kernel)) pa_nil)) pe_int (fun _ _ => rfl)))
  (pss_cons (ps_asg (pe_bm PySem.F.plainAttrs_str PySem.F.slot_str_partition PySem.F.type_str_partition mt_partition (pv 1) (pa_cons (pe_strS [58] (by decide +kernel)) pa_nil)) (pg_tup (by rfl) (pgs_cons (pg_name (i := 2) scRsh.nd rfl (.inl rfl)) (pgs_cons (pg_name (i := 3) scRsh.nd rfl (.inl rfl)) (pgs_cons (pg_name (i := 4) scRsh.nd rfl (.inl rfl)) pgs_nil)))))
  (pss_cons (ps_if (pt_cmpR op_eq (pv 4) (pe_strS [97] (by decide +kernel)) (nomark _)) (pss_one (ps_ret (pe_tup (pa_cons (pv 2) (pa_cons (pe_strS [108, 101, 116, 116, 101, 114, 115] (by decide +kernel)) pa_nil))))) pss_nil)
  (pss_one (ps_ret (pe_tup (pa_cons (pv 2) (pa_cons (pe_strS [102, 105, 103, 117, 114, 101, 115] (by decide +kernel)) pa_nil)))))))), ?_⟩
    have c1 := (cut_len 125 l).1
    refine ⟨_, rfl, rfl, S l, S [125], rfl, rfl, (by rw [S_len]; rfl), (by rw [S_len, sizeLine_eq]; omega), fun p hp => ?_⟩
    rw [(part_S 125 l).1]
    refine ⟨p, _, 0, _, rfl, rfl, SqT.of upd_same, rfl, ?_⟩
    have s1 := same_new (o := .tup [.str (S (cutAt 125 l).1), .str (Txt.partition (S l) (S [125])).2.1, .str (Txt.partition (S l) (S [125])).2.2]) hp
    refine ⟨_, rfl, rfl, S (cutAt 125 l).1, S [58], rfl, rfl, (by rw [S_len]; rfl), (by rw [S_len, sizeLine_eq]; omega), fun p2 hp2 => ?_⟩
    rw [(part_S 58 (cutAt 125 l).1).1, (part_S 58 (cutAt 125 l).1).2]
    refine ⟨p2, _, rfl, SqT.of upd_same, rfl, _, _, rfl, _, _, rfl, _, _, rfl, rfl, ?_⟩
    have s2 := s1.trans (same_new (o := .tup [.str (S (cutAt 58 (cutAt 125 l).1).1), .str (Txt.partition (S (cutAt 125 l).1) (S [58])).2.1, .str (S (cutAt 58 (cutAt 125 l).1).2)]) hp2)
    have free : ∀ {p3 : Addr} {H3 : Hp}, Same H H3 → H3 p3 = none → H p3 = none := fun {p3 H3} s hp3 => by
      cases e : H p3 with
      | none => rfl
      | some o =>
        rw [s _ _ e] at hp3
        cases hp3
    refine ⟨_, rfl, rfl, _, rfl, ?_⟩
    rw [S_dec]
    by_cases hm : (cutAt 58 (cutAt 125 l).1).2 = [97]
    · refine if_true_of (decide_eq_true hm) ?_
      refine ⟨_, rfl, (by show 2 ≤ sizeLine; decide), fun p3 hp3 => ?_⟩
      refine q p3 _ (s2.trans (same_new hp3)) (free s2 hp3) ?_
      rw [upd_same]
      unfold pieceB
      rw [decide_eq_true hm]
      rfl
    · refine if_false_of (decide_eq_false hm) ?_
      refine ⟨_, rfl, (by show 2 ≤ sizeLine; decide), fun p3 hp3 => ?_⟩
      refine q p3 _ (s2.trans (same_new hp3)) (free s2 hp3) ?_
      rw [upd_same]
      unfold pieceB
      rw [decide_eq_false hm]
      rfl
/-! ### names -/
def lowc (c : Nat) : Bool := decide (97 ≤ c) && decide (c ≤ 122)
def nameL (l : List Nat) : Bool := decide (1 ≤ l.length) && decide (l.length ≤ 8) && l.all lowc
theorem nuni_alpha : ∀ c : Nat, c < 128 → Unicode.isAlpha c = ((decide (65 ≤ c) && decide (c ≤ 90)) || lowc c) := by decide +kernel
theorem nuni_lower : ∀ c : Nat, c < 128 → Unicode.isLower c = lowc c := by decide +kernel
theorem nuni_upper : ∀ c : Nat, c < 128 → (Unicode.isUpper c || Unicode.isTitle c) = (decide (65 ≤ c) && decide (c ≤ 90)) := by decide +kernel
theorem name_val {l : List Nat} (h8 : l.length ≤ 8) : (Txt.isascii (S l) && (Txt.isalpha (S l) && Txt.islower (S l))) = nameL l := by
  have e1 : Txt.isascii (S l) = l.all (fun c => decide (c < 128)) := by unfold Txt.isascii; simp
  have e2 : Txt.isalpha (S l) = (decide (0 < l.length) && l.all Unicode.isAlpha) := by unfold Txt.isalpha; rw [S_len]; simp
  have e3 : Txt.islower (S l) = (l.any Unicode.isLower && !l.any fun c => Unicode.isUpper c || Unicode.isTitle c) := by unfold Txt.islower; simp
  rw [e1, e2, e3, Bool.eq_iff_iff]
  unfold nameL
  simp only [Bool.and_eq_true, List.all_eq_true, decide_eq_true_eq, Bool.not_eq_true', List.any_eq_true, List.any_eq_false]
  constructor
  · rintro ⟨a, ⟨b, c⟩, d, e⟩
    refine ⟨⟨b, h8⟩, fun x hx => ?_⟩
    have q := c x hx
    rw [nuni_alpha x (a x hx)] at q
    have q2 := e x hx
    rw [nuni_upper x (a x hx)] at q2
    rw [Bool.or_eq_true] at q
    exact q.resolve_left q2
  · rintro ⟨⟨a, _⟩, b⟩
    have lt : ∀ x ∈ l, x < 128 := fun x hx => by
      have q := b x hx
      unfold lowc at q
      rw [Bool.and_eq_true, decide_eq_true_eq, decide_eq_true_eq] at q
      omega
    refine ⟨lt, ⟨a, fun x hx => ?_⟩, ?_, fun x hx => ?_⟩
    · rw [nuni_alpha x (lt x hx), b x hx, Bool.or_true]
    · cases l with
      | nil => exact absurd a (by decide)
      | cons c r => exact ⟨c, List.mem_cons_self .., by rw [nuni_lower c (lt c (List.mem_cons_self ..))]; exact b c (List.mem_cons_self ..)⟩
    · rw [nuni_upper x (lt x hx)]
      have q := b x hx
      unfold lowc at q
      rw [Bool.and_eq_true, decide_eq_true_eq, decide_eq_true_eq] at q
      simp only [Bool.and_eq_true, decide_eq_true_eq]
      omega
theorem nameL_long {l : List Nat} (h : 8 < l.length) : nameL l = false := by
  unfold nameL
  rw [decide_eq_false (show ¬ l.length ≤ 8 by omega)]
  simp
theorem nameL_bad {l : List Nat} {c : Nat} (h : c ∈ l) (hc : lowc c = false) : nameL l = false := by
  unfold nameL
  have e : l.all lowc = false := by
    rw [Bool.eq_false_iff]
    intro q
    rw [List.all_eq_true] at q
    rw [q c h] at hc
    cases hc
  rw [e, Bool.and_false]
theorem nameL_low {l : List Nat} (h : ∀ c ∈ l, lowc c = true) : nameL l = (decide (1 ≤ l.length) && decide (l.length ≤ 8)) := by
  unfold nameL
  rw [List.all_eq_true.mpr h, Bool.and_true]

def spName : Sp := fun vs H Q _ => ∃ l : List Nat, vs = [.str (S l)] ∧ l.length ≤ 1000000 ∧ Q (.bl (nameL l)) H
abbrev sName : Stmt := top 19
theorem scName : FnScope ["text"] ["text"] (defScope sName) := ⟨rfl, rfl, rfl, by decide +kernel, rfl, by decide +kernel, by decide +kernel⟩
theorem ok_name (T : Txt K mg c) {f : Addr} {fd : FuncData} (F : Fun K "is_name" "is_name" sName f fd) : FnOk P w K mg base CX0 1 f fd ["text"] spName := by
  refine F.ok scName (fun vs H Q E h => ?_) (fun cdv A outer s H vs Q E hr h => ?_)
  · obtain ⟨l, rfl, _⟩ := h
    rfl
  · obtain ⟨l, rfl, hl, q⟩ := h
    refine ⟨_, (pss_cons (ps_if (PW.pt (pw_or (pt_not (pt_val (pe_callB call_isi (by rfl) T.z_isinstance (by decide +kernel) (pa_cons (pv 0) (pa_cons (pe_bltn (v := .ty "str") (by rfl) T.z_str (by decide +kernel) rfl) pa_nil))))) (pw_or1 (pt_cmpR op_gt (pe_callB call_lenS (by rfl) T.z_len (by decide +kernel) (pa_cons (pv 0) pa_nil)) (C8.pe_gc rfl T.g_LONGEST) (nomark _))))) (pss_one (ps_ret pe_bl)) pss_nil)
  (pss_one (ps_ret (pe_and (pe_bm0 PySem.F.plainAttrs_str PySem.F.slot_str_isascii PySem.F.type_str_isascii mt_isascii (pv 0)) (pe_and (pe_bm0 PySem.F.plainAttrs_str PySem.F.slot_str_isalpha PySem.F.type_str_isalpha mt_isalpha (pv 0)) (pe_one (pe_bm0 PySem.F.plainAttrs_str PySem.F.slot_str_islower PySem.F.type_str_islower mt_islower (pv 0)))))))), ?_⟩
    refine ⟨_, rfl, _, _, _, _, true, rfl, .ty _, .base (.str _), kit_ty (by decide +kernel), _, rfl, ?_⟩
    refine if_false_of rfl ?_
    refine ⟨_, rfl, l, rfl, hl, _, _, rfl, rfl, _, rfl, ?_⟩
    by_cases c : (8 : Int) < (l.length : Int)
    · refine if_true_of (decide_eq_true c) ?_
      rw [nameL_long (by omega)] at q
      exact q
    · refine if_false_of (decide_eq_false c) ?_
      rw [← name_val (by omega)] at q
      exact ⟨_, rfl, rfl, _, rfl, rfl, trivial, _, rfl, ite_bl q fun q1 => ⟨_, rfl, rfl, _, rfl, rfl, trivial, _, rfl, ite_bl q1 fun q2 => ⟨_, rfl, rfl, _, rfl, rfl, trivial, q2⟩⟩⟩
/-! ### the law's plan, as data -/
/-- the tuples at ts: names and formats -/
def SlotsAt (H : Hp) (ts : List Addr) (sl : List (List Nat × Bool)) : Prop := ts.length = sl.length ∧ ∀ (i : Nat) (t : Addr) (x : List Nat × Bool), ts[i]? = some t → sl[i]? = some x → H t = some (.tup [.str (S x.1), .str (S (formL x.2))])
structure PlanAt (H : Hp) (P A B : Addr) (ts : List Addr) (hd : List Nat) (sl : List (List Nat × Bool)) (js : List Nat) : Prop where
  p : H P = some (.lst [.str (S hd), .ref A, .ref B])
  a : H A = some (.lst (ts.map V.ref))
  b : H B = some (.lst (js.map fun d => V.str (S [d])))
  t : SlotsAt H ts sl
  l : sl.length = js.length + 1
  lj : js.length ≤ 10
  lh : hd.length ≤ 100
  ln : ∀ x ∈ sl, x.1.length ≤ 100
theorem PlanAt.same {H H' : Hp} {P A B : Addr} {ts : List Addr} {hd : List Nat} {sl : List (List Nat × Bool)} {js : List Nat} (h : PlanAt H P A B ts hd sl js) (s : Same H H') : PlanAt H' P A B ts hd sl js :=
  ⟨s _ _ h.p, s _ _ h.a, s _ _ h.b, ⟨h.t.1, fun i t x e1 e2 => s _ _ (h.t.2 i t x e1 e2)⟩, h.l, h.lj, h.lh, h.ln⟩
/-- the label as a text -/
def faceT (hd : List Nat) (sl : List (List Nat × Bool)) (js : List Nat) : List Nat := joinT hd js (sl.map fun x => faceL x.1 x.2)
abbrev sFace : Stmt := top 48
theorem scFace : FnScope ["_law_plan_here", "_law_name", "_law_form"] ["_law_plan_here"] (defScope sFace) := ⟨rfl, rfl, rfl, by decide +kernel, rfl, by decide +kernel, by decide +kernel⟩
def spFace : Sp := fun vs H Q _ => ∃ (P A B : Addr) (ts : List Addr) (hd : List Nat) (sl : List (List Nat × Bool)) (js : List Nat), vs = [.ref P] ∧ PlanAt H P A B ts hd sl js ∧ ∀ H', Same H H' → Q (.str (S (faceT hd sl js))) H'
theorem faceL_len (l : List Nat) (b : Bool) : (faceL l b).length ≤ l.length + 4 := by
  unfold faceL
  cases b <;> simp
theorem ok_face (T : Txt K mg c) (dJ : DefAt K mg "_law_joined" sLjn ["_law_plan_here", "_law_words"]) {f : Addr} {fd : FuncData} (F : Fun K "_law_face" "_law_face" sFace f fd) : FnOk P w K mg base CX0 2 f fd ["_law_plan_here"] spFace := by
  have cJ : Cal P w K mg base CX0 1 "_law_joined" spLjn := cal_of dJ fun f fd F => ok_ljn T F
  refine F.ok scFace (fun vs H Q E h => ?_) (fun cdv A' outer s H vs Q E hr h => ?_)
  · obtain ⟨P, A, B, ts, hd, sl, js, rfl, _⟩ := h
    rfl
  · obtain ⟨P, A, B, ts, hd, sl, js, rfl, pl, q⟩ := h
    refine ⟨_, (pss_one (ps_ret (pe_c cJ hr (by decide) rfl (pa_cons (pv 0) (pa_cons (pe_lc (own := [("_law_name", 1), ("_law_form", 2)]) (g := (gTup K 2 (gCons (gName 1) (gCons (gName 2) gNil)))) (tt := tYes) rfl scFace.nd (pi_list (pe_ix ix_list (pv 0) pe_int (fun _ _ => rfl))) (blkOk_by (N := ["_law_plan_here", "_law_name", "_law_form"]) (sc := defScope sFace) (by decide +kernel)) (fun _ _ _ _ _ => pg_tup (by rfl) (pgs_cons (pg_name (i := 1) scFace.nd rfl (Or.inl rfl)) (pgs_cons (pg_name (i := 2) scFace.nd rfl (Or.inl rfl)) pgs_nil))) (fun _ _ _ _ _ => pts_nil) (fun _ _ _ _ _ => (pe_op op_catS (pe_op op_catS (pe_op op_catS (pe_strS [123] (by decide +kernel)) (pv 1)) (pe_ix (show IxR _ (rIxL K) from ix_list) (pe_lst (pa_cons (pe_strS ([] : List Nat) (by decide +kernel)) (pa_cons (pe_strS [58, 97] (by decide +kernel)) pa_nil))) (pe_callTy call_int1 (by rfl) T.z_int (by decide +kernel) (pa_cons (pe_cmpR op_eq (pv 2) (pe_strS [108, 101, 116, 116, 101, 114, 115] (by decide +kernel)) (nomark _)) pa_nil)) (fun _ _ => rfl))) (pe_strS [125] (by decide +kernel))))) pa_nil))))), ?_⟩
    refine ⟨_, rfl, ?_⟩
    refine ⟨_, rfl, P, _, 1, _, rfl, rfl, SqL.of pl.p, rfl, A, rfl, ⟨_, SqL.of pl.a⟩, fun D hD => lc_list (a := A) (xs := ts.map V.ref) (fun i H' => Same H H' ∧ H' D = some (.lst ((sl.take i).map fun x => V.str (S (faceL x.1 x.2))))) ⟨same_new hD, upd_same⟩ (fun i H' hi z => SqL.of (z.1 _ _ pl.a)) (fun i y H' hy z => ?_) (fun H' z => ?_)⟩
    · obtain ⟨s1, hz⟩ := z
      rw [List.getElem?_map] at hy
      obtain ⟨t, ht, rfl⟩ := Option.map_eq_some_iff.mp hy
      have hi : i < sl.length := by
        rw [← pl.t.1]
        exact (List.getElem?_eq_some_iff.mp ht).1
      have hx : sl[i]? = some sl[i] := List.getElem?_eq_getElem hi
      have et := s1 _ _ (pl.t.2 i t _ ht hx)
      have hn := pl.ln sl[i] (List.getElem_mem hi)
      refine ⟨t, _, rfl, SqT.of et, rfl, _, _, rfl, _, _, rfl, rfl, rfl, ?_⟩
      refine ⟨_, rfl, _, sl[i].1, rfl, rfl, (by simp; omega), ?_⟩
      refine ⟨(by show 2 ≤ sizeLine; decide), fun p hp => ?_⟩
      have eb : decide (V.str (S (formL sl[i].2)) = V.str (S [108, 101, 116, 116, 101, 114, 115])) = sl[i].2 := by
        generalize sl[i].2 = b
        cases b <;> decide +kernel
      refine ⟨_, rfl, rfl, .inr ⟨_, rfl, ?_⟩⟩
      rw [eb]
      have at1 : atI [V.str (S []), V.str (S [58, 97])] (if sl[i].2 = true then 1 else 0) = some (.str (S (if sl[i].2 = true then [58, 97] else []))) := by
        generalize sl[i].2 = b
        cases b <;> rfl
      have ef : ([123] ++ sl[i].1 ++ (if sl[i].2 = true then [58, 97] else [])) ++ [125] = faceL sl[i].1 sl[i].2 := by
        generalize sl[i].2 = b
        cases b <;> simp [faceL]
      have l2 : (if sl[i].2 = true then ([58, 97] : List Nat) else []).length ≤ 2 := by
        generalize sl[i].2 = b
        cases b <;> decide
      have pd : D ≠ p := fun z => by rw [← z, hz] at hp; cases hp
      refine ⟨p, _, _, _, rfl, rfl, SqL.of upd_same, at1, [123] ++ sl[i].1, (if sl[i].2 = true then [58, 97] else []), rfl, rfl, (by rw [List.length_append, List.length_singleton]; omega), _, [125], rfl, rfl, (by rw [List.length_append, List.length_append, List.length_singleton, List.length_singleton]; omega), ?_⟩
      rw [ef]
      refine ⟨_, by rw [upd_ne pd]; exact hz, (by rw [List.length_map, List.length_take]; have := pl.l; have := pl.lj; exact small1000 (by omega)), same_mut (s1.trans (same_new hp)) hD, ?_⟩
      rw [upd_same, List.take_succ, hx, List.map_append]
      rfl
    · obtain ⟨s1, hz⟩ := z
      have ll : (ts.map V.ref).length = sl.length := by rw [List.length_map]; exact pl.t.1
      rw [ll, List.take_length] at hz
      have hl := pl.l
      have hn := pl.ln
      cases sl with
      | nil => simp at hl
      | cons x0 xs =>
        refine ⟨P, A, B, D, hd, js, faceL x0.1 x0.2, xs.map (fun x : List Nat × Bool => faceL x.1 x.2), rfl, s1 _ _ pl.p, s1 _ _ pl.b, ?_, ?_, by have := pl.lj; omega, by have := pl.lh; omega, ?_, ?_, q H' s1⟩
        · rw [hz, List.map_cons, List.map_cons, List.map_map]
          rfl
        · rw [List.length_map]
          simpa using hl.symm
        · have := faceL_len x0.1 x0.2
          have := hn x0 (List.mem_cons_self ..)
          omega
        · intro y hy
          obtain ⟨x, hx, rfl⟩ := List.mem_map.mp hy
          have := faceL_len x.1 x.2
          have := hn x (List.mem_cons_of_mem _ hx)
          omega
/-! ### the text that is due -/
theorem numT_len (b : Bool) {n : Nat} (h : n < 10 ^ 60) : (numT b n).length ≤ 100 := by
  unfold numT
  cases b with
  | true =>
    rw [if_pos rfl]
    unfold lettersL
    split
    · decide
    · have z : (wordN n).length ≤ 43 := wordN_len (Nat.lt_trans h (by decide +kernel))
      omega
  | false =>
    rw [if_neg (by decide)]
    exact Nat.le_trans (TL.numL_len (n := n) (k := 60) (by decide) h) (by decide)
def dueT (num : List Nat → Nat) (hd : List Nat) (sl : List (List Nat × Bool)) (js : List Nat) : List Nat := joinT hd js (sl.map fun x => numT x.2 (num x.1))
abbrev sDue : Stmt := top 47
theorem scDue : FnScope ["_law_plan_here", "_law_numbers_here", "_law_name", "_law_form"] ["_law_plan_here", "_law_numbers_here"] (defScope sDue) := ⟨rfl, rfl, rfl, by decide +kernel, rfl, by decide +kernel, by decide +kernel⟩
def spDue : Sp := fun vs H Q _ => ∃ (P A B d : Addr) (ts : List Addr) (hd : List Nat) (sl : List (List Nat × Bool)) (js : List Nat) (kvs : List (Key × V)) (num : List Nat → Nat), vs = [.ref P, .ref d] ∧ PlanAt H P A B ts hd sl js ∧ H d = some (.dK kvs) ∧
  (∀ x ∈ sl, valV kvs (Sum.inr (S x.1)) = some (.int (num x.1)) ∧ num x.1 < 10 ^ 60) ∧ ∀ H', Same H H' → Q (.str (S (dueT num hd sl js))) H'
theorem ok_due (T : Txt K mg c) (dW : DefAt K mg "_law_word" sWord ["_law_number_here"]) (dF : DefAt K mg "_law_figure" sFigr ["_law_form", "_law_number_here"]) (dJ : DefAt K mg "_law_joined" sLjn ["_law_plan_here", "_law_words"]) {f : Addr} {fd : FuncData} (F : Fun K "_law_due" "_law_due" sDue f fd) : FnOk P w K mg base CX0 3 f fd ["_law_plan_here", "_law_numbers_here"] spDue := by
  have cJ : Cal P w K mg base CX0 1 "_law_joined" spLjn := cal_of dJ fun f fd F => ok_ljn T F
  have cFg : Cal P w K mg base CX0 2 "_law_figure" spFigr := cal_of dF fun f fd F => ok_figr T dW F
  refine F.ok scDue (fun vs H Q E h => ?_) (fun cdv A' outer s H vs Q E hr h => ?_)
  · obtain ⟨P, A, B, d, ts, hd, sl, js, kvs, num, rfl, _⟩ := h
    rfl
  · obtain ⟨P, A, B, d, ts, hd, sl, js, kvs, num, rfl, pl, ed, hnum, q⟩ := h
    refine ⟨_, (pss_one (ps_ret (pe_c cJ hr (by decide) rfl (pa_cons (pv 0) (pa_cons (pe_lc (own := [("_law_name", 2), ("_law_form", 3)]) (g := (gTup K 2 (gCons (gName 2) (gCons (gName 3) gNil)))) (tt := tYes) rfl scDue.nd (pi_list (pe_ix ix_list (pv 0) pe_int (fun _ _ => rfl))) (blkOk_by (N := ["_law_plan_here", "_law_numbers_here", "_law_name", "_law_form"]) (sc := defScope sDue) (by decide +kernel)) (fun _ _ _ _ _ => pg_tup (by rfl) (pgs_cons (pg_name (i := 2) scDue.nd rfl (Or.inl rfl)) (pgs_cons (pg_name (i := 3) scDue.nd rfl (Or.inl rfl)) pgs_nil))) (fun _ _ _ _ _ => pts_nil) (fun _ _ _ _ _ => (pe_c cFg hr (by decide) rfl (pa_cons (pv 3) (pa_cons (pe_dget (hu_of hr) (pv 1) (pv 2) (fun _ _ => rfl)) pa_nil))))) pa_nil))))), ?_⟩
    refine ⟨_, rfl, ?_⟩
    refine ⟨_, rfl, P, _, 1, _, rfl, rfl, SqL.of pl.p, rfl, A, rfl, ⟨_, SqL.of pl.a⟩, fun D hD => lc_list (a := A) (xs := ts.map V.ref) (fun i H' => Same H H' ∧ H' D = some (.lst ((sl.take i).map fun x => V.str (S (numT x.2 (num x.1)))))) ⟨same_new hD, upd_same⟩ (fun i H' hi z => SqL.of (z.1 _ _ pl.a)) (fun i y H' hy z => ?_) (fun H' z => ?_)⟩
    · obtain ⟨s1, hz⟩ := z
      rw [List.getElem?_map] at hy
      obtain ⟨t, ht, rfl⟩ := Option.map_eq_some_iff.mp hy
      have hi : i < sl.length := by
        rw [← pl.t.1]
        exact (List.getElem?_eq_some_iff.mp ht).1
      have hx : sl[i]? = some sl[i] := List.getElem?_eq_getElem hi
      have et := s1 _ _ (pl.t.2 i t _ ht hx)
      have hn := hnum sl[i] (List.getElem_mem hi)
      refine ⟨t, _, rfl, SqT.of et, rfl, _, _, rfl, _, _, rfl, rfl, rfl, ?_⟩
      refine ⟨_, rfl, _, rfl, _, rfl, d, _, rfl, (by have z := DGet.k (k := Sum.inr (S sl[i].1)) (s1 _ _ ed); rw [hn.1] at z; exact z), sl[i].2, num sl[i].1, rfl, hn.2, ?_⟩
      refine ⟨_, hz, (by rw [List.length_map, List.length_take]; have := pl.l; have := pl.lj; exact small1000 (by omega)), same_mut s1 hD, ?_⟩
      rw [upd_same, List.take_succ, hx, List.map_append]
      rfl
    · obtain ⟨s1, hz⟩ := z
      have ll : (ts.map V.ref).length = sl.length := by rw [List.length_map]; exact pl.t.1
      rw [ll, List.take_length] at hz
      have hl := pl.l
      cases sl with
      | nil => simp at hl
      | cons x0 xs =>
        refine ⟨P, A, B, D, hd, js, numT x0.2 (num x0.1), xs.map (fun x : List Nat × Bool => numT x.2 (num x.1)), rfl, s1 _ _ pl.p, s1 _ _ pl.b, ?_, ?_, by have := pl.lj; omega, by have := pl.lh; omega, ?_, ?_, q H' s1⟩
        · rw [hz, List.map_cons, List.map_cons, List.map_map]
          rfl
        · rw [List.length_map]
          simpa using hl.symm
        · exact Nat.le_trans (numT_len _ (hnum x0 (List.mem_cons_self ..)).2) (by decide)
        · intro y hy
          obtain ⟨x, hx, rfl⟩ := List.mem_map.mp hy
          exact Nat.le_trans (numT_len _ (hnum x (List.mem_cons_of_mem _ hx)).2) (by decide)
end
section
variable {P : Program} {w : World} {K : PySem.W.Frag} {mg : Str → Option Value} {base : Heap} {c : Cs}
/-! ### texts joined; heads; joints; what is shown -/
theorem cut_tail (xs : List V) : cutV xs (some 1) none = xs.drop 1 := by
  unfold cutV HT.sIx
  cases xs with
  | nil => rfl
  | cons x r => simp [List.take_length]
theorem cut_init (xs : List V) : cutV xs none (some (-1)) = xs.dropLast := by
  unfold cutV HT.sIx
  rw [List.dropLast_eq_take]
  simp
  congr 1
  omega
abbrev sJnd : Stmt := top 35
theorem scJnd : FnScope ["texts", "joints", "pieces", "joint", "text"] ["texts", "joints"] (defScope sJnd) := ⟨rfl, rfl, rfl, by decide +kernel, rfl, by decide +kernel, by decide +kernel⟩
def spJnd (K : PySem.W.Frag) : Sp := fun vs H Q _ => ∃ (W B : Addr) (js : List Nat) (w0 : List Nat) (ws : List (List Nat)), vs = [.ref W, .ref B] ∧ SqL K H W ((w0 :: ws).map fun x => V.str (S x)) ∧ SqT K H B (js.map fun d => V.str (S [d])) ∧
  js.length = ws.length ∧ js.length ≤ 100 ∧ w0.length ≤ 1000 ∧ (∀ x ∈ ws, x.length ≤ 1000) ∧ ∀ H', Same H H' → Q (.str (S (joinT [] js (w0 :: ws)))) H'
theorem ok_jnd (T : Txt K mg c) {f : Addr} {fd : FuncData} (F : Fun K "joined" "joined" sJnd f fd) : FnOk P w K mg base CX0 1 f fd ["texts", "joints"] (spJnd K) := by
  refine F.ok scJnd (fun vs H Q E h => ?_) (fun cdv A outer s H vs Q E hr h => ?_)
  · obtain ⟨W, B, js, w0, ws, rfl, _⟩ := h
    rfl
  · obtain ⟨W, B, js, w0, ws, rfl, hW, hB, hl, hj, h0, h1, q⟩ := h
    refine ⟨_, (pss_cons (ps_set (i := 2) scJnd.nd rfl (Or.inl rfl) (pe_lst (pa_cons (pe_ix ix_list (pv 0) pe_int (fun _ _ => rfl)) pa_nil)))
  (pss_cons (ps_for PassesOwn.never rfl (pi_zipM (by rfl) T.z_zip (pa_cons (pv 1) (pa_cons (pe_slice sl_list (pv 0) (po_some pe_int) po_none) pa_nil))) (pg_tup (by rfl) (pgs_cons (pg_name (i := 3) scJnd.nd rfl (Or.inl rfl)) (pgs_cons (pg_name (i := 4) scJnd.nd rfl (Or.inl rfl)) pgs_nil)))
  (pss_cons (ps_expr (pe_bm PySem.F.plainAttrs_list PySem.F.slot_list_append PySem.F.type_list_append mt_append (pv 2) (pa_cons (pv 3) pa_nil)))
  (pss_one (ps_expr (pe_bm PySem.F.plainAttrs_list PySem.F.slot_list_append PySem.F.type_list_append mt_append (pv 2) (pa_cons (pv 4) pa_nil))))))
  (pss_one (ps_ret (pe_bm PySem.F.plainAttrs_str PySem.F.slot_str_join PySem.F.type_str_join mt_joinE (pe_strS ([] : List Nat) (by decide +kernel)) (pa_cons (pv 2) pa_nil)))))), ?_⟩
    refine ⟨_, rfl, W, _, 0, _, rfl, rfl, hW, at_of (j := 0) rfl rfl, (by show 1 ≤ sizeLine; decide), fun pl hpl => ?_⟩
    have s1 := same_new (o := .lst [V.str (S w0)]) hpl
    refine ⟨_, rfl, _, rfl, _, rfl, W, _, rfl, SqL.sm hW s1, fun tl htl => ?_⟩
    rw [cut_tail]
    have s2 := s1.trans (same_new (o := .lst (ws.map fun x => V.str (S x))) htl)
    have ptl : pl ≠ tl := fun z => by rw [← z, upd_same] at htl; cases htl
    have tlH : H tl = none := s1.free htl
    refine ⟨B, tl, _, ws.map (fun x => V.str (S x)), rfl, SqT.sm hB s2, SqL.of upd_same, ?_⟩
    refine for_at (n := ws.length) (Y := yZip (js.map fun d => V.str (S [d])) (ws.map fun x => V.str (S x))) (fun i σ' H' => ∃ (ps : List (List Nat)) (v3 v4 : Option V), σ' = [some (.ref W), some (.ref B), some (.ref pl), v3, v4] ∧
      ps.flatten = w0 ++ tailT (js.take i) (ws.take i) ∧ ps.length = 1 + 2 * i ∧ H' pl = some (.lst (ps.map fun l => V.str (S l))) ∧ H' tl = some (.lst (ws.map fun x => V.str (S x))) ∧ Same H H') ⟨[w0], _, _, rfl, by simp [tailT], rfl, by rw [upd_ne ptl]; exact upd_same, upd_same, s2⟩ ?_ ?_ ?_
    · rintro i σ' H' hi ⟨ps, v3, v4, rfl, hf, hn, hp, ht, s3⟩
      exact walks_z (SqT.sm hB s3) (SqL.of ht) (by rw [List.length_map]; exact hl) (by rw [List.length_map])
    · rintro i x σ' H' H2 hi ⟨t, d, y, rfl, hT, rfl, hd, hy⟩ ⟨ps, v3, v4, rfl, hf, hn, hp, ht, s3⟩
      rw [List.getElem?_map] at hd hy
      obtain ⟨jd, hjd, rfl⟩ := Option.map_eq_some_iff.mp hd
      obtain ⟨wd, hwd, rfl⟩ := Option.map_eq_some_iff.mp hy
      have pt : pl ≠ t := fun z => by rw [← z, hp] at hT; cases hT
      have tt : tl ≠ t := fun z => by rw [← z, ht] at hT; cases hT
      refine ⟨t, _, rfl, SqT.of upd_same, rfl, _, _, rfl, _, _, rfl, rfl, ?_⟩
      refine ⟨_, rfl, .inl ⟨rfl, _, SqL.of (by rw [upd_ne pt]; exact hp)⟩, _, rfl, pl, _, _, rfl, rfl, by rw [upd_ne pt]; exact hp, by rw [List.length_map, hn]; exact small1000 (by omega), ?_⟩
      refine ⟨_, rfl, .inl ⟨rfl, _, SqL.of upd_same⟩, _, rfl, pl, _, _, rfl, rfl, upd_same, by rw [List.length_append, List.length_map, hn]; exact small1000 (by simp; omega), ?_⟩
      rw [upd_upd]
      refine ⟨ps ++ [[jd]] ++ [wd], _, _, rfl, ?_, by simp [hn]; omega, by rw [upd_same]; simp, by rw [upd_ne (Ne.symm ptl), upd_ne tt]; exact ht, same_mut (s3.trans (same_new hT)) hpl⟩
      rw [List.take_succ, List.take_succ, hjd, hwd]
      show _ = w0 ++ tailT (js.take i ++ [jd]) (ws.take i ++ [wd])
      rw [tailT_snoc (by rw [List.length_take, List.length_take, hl])]
      simp [hf]
    · rintro σ' H' ⟨ps, v3, v4, rfl, hf, hn, hp, ht, s3⟩
      have tl2 := tailT_len (ds := js.take ws.length) (xs := ws.take ws.length) (n := 1000) fun x hx => h1 x (List.mem_of_mem_take hx)
      refine ⟨rfl, _, rfl, pl, ps, rfl, rfl, SqL.of hp, ?_, ?_⟩
      · rw [hf, List.length_append]
        have : (js.take ws.length).length ≤ 100 := by rw [List.length_take]; omega
        omega
      · rw [hf, List.take_length, ← hl, List.take_length]
        exact q H' s3
theorem at_neg1 {α : Type} (xs : List α) {y : α} (h : xs.getLast? = some y) : atI xs (-1) = some y := by
  cases xs with
  | nil => cases h
  | cons x r =>
    unfold atI ixN
    rw [if_neg (by decide), if_pos (by simp; omega)]
    rw [List.getLast?_eq_getElem?] at h
    show (x :: r)[(-1 + (((x :: r).length : Nat) : Int)).toNat]? = some y
    rw [show (-1 + (((x :: r).length : Nat) : Int)).toNat = (x :: r).length - 1 by omega]
    exact h
/-- a text cut at each d -/
def splL (d : Nat) : List Nat → List (List Nat)
  | [] => [[]]
  | x :: r => if x = d then [] :: splL d r else match splL d r with
    | [] => [[x]]
    | p :: ps => (x :: p) :: ps
theorem splL_ne (d : Nat) : ∀ l, splL d l ≠ []
  | [] => by simp [splL]
  | x :: r => by
    unfold splL
    split
    · simp
    · split <;> simp
theorem spl_acc (d : Nat) : ∀ (l acc : List Nat), TL.spl [d] 0 acc l = (match splL d l with
    | [] => [acc]
    | p :: ps => (acc ++ p) :: ps)
  | [], acc => by simp [splL, TL.spl]
  | x :: r, acc => by
    unfold TL.spl splL
    have ne := splL_ne d r
    by_cases h : x = d
    · subst h
      rw [if_pos (by simp [TL.pre]), if_pos rfl]
      show acc :: TL.spl [x] 0 [] r = _
      rw [spl_acc x r []]
      cases e : splL x r with
      | nil => exact absurd e ne
      | cons p ps => simp
    · rw [if_neg (by simp [TL.pre]; exact h), if_neg h, spl_acc d r (acc ++ [x])]
      cases e : splL d r with
      | nil => exact absurd e ne
      | cons p ps => simp
theorem split_one {d : Nat} (h : d < 256) (l : List Nat) : PySem.Txt.split (S l) (S [d]) = (splL d l).map S := by
  rw [SX.split_S (by simp) (by simp [h]), spl_acc]
  cases e : splL d l with
  | nil => exact absurd e (splL_ne d l)
  | cons p ps => simp
theorem splL_app {d : Nat} : ∀ {w : List Nat} (q : List Nat), d ∉ w → splL d (w ++ [d] ++ q) = w :: splL d q
  | [], q, _ => by simp [splL]
  | x :: w, q, h => by
    have n : x ≠ d := fun e => h (by simp [e])
    have r := splL_app (w := w) q fun z => h (List.mem_cons_of_mem _ z)
    show splL d (x :: (w ++ [d] ++ q)) = _
    conv => lhs; unfold splL
    rw [if_neg n, r]
theorem splL_none {d : Nat} : ∀ {w : List Nat}, d ∉ w → splL d w = [w]
  | [], _ => rfl
  | x :: w, h => by
    have n : x ≠ d := fun e => h (by simp [e])
    unfold splL
    rw [if_neg n, splL_none fun z => h (List.mem_cons_of_mem _ z)]
theorem splL_len (d : Nat) : ∀ l : List Nat, (splL d l).length ≤ l.length + 1 ∧ ∀ p ∈ splL d l, p.length ≤ l.length
  | [] => ⟨Nat.le_refl _, fun p hp => by simp [splL] at hp; simp [hp]⟩
  | x :: r => by
    obtain ⟨h1, h2⟩ := splL_len d r
    unfold splL
    split
    · refine ⟨by simp; exact h1, fun p hp => ?_⟩
      rcases List.mem_cons.mp hp with rfl | hp
      · exact Nat.zero_le _
      · exact Nat.le_succ_of_le (h2 p hp)
    · split
      · exact ⟨by simp, fun p hp => by simp at hp; simp [hp]⟩
      · rename_i e
        rw [e] at h1 h2
        refine ⟨by simp only [List.length_cons] at h1 ⊢; omega, fun p hp => ?_⟩
        rcases List.mem_cons.mp hp with rfl | hp
        · have := h2 _ (List.mem_cons_self ..)
          simp only [List.length_cons]
          omega
        · exact Nat.le_succ_of_le (h2 p (List.mem_cons_of_mem _ hp))
/-- a word of letters -/
def wordB (w : List Nat) : Bool := decide (1 ≤ w.length) && w.all ltr
theorem word_val (w : List Nat) : (Txt.isascii (S w) && Txt.isalpha (S w)) = wordB w := by
  have e1 : Txt.isascii (S w) = w.all (fun c => decide (c < 128)) := by unfold Txt.isascii; simp
  have e2 : Txt.isalpha (S w) = (decide (0 < w.length) && w.all Unicode.isAlpha) := by unfold Txt.isalpha; rw [S_len]; simp
  rw [e1, e2, Bool.eq_iff_iff]
  unfold wordB
  simp only [Bool.and_eq_true, List.all_eq_true, decide_eq_true_eq]
  have le : ∀ x, x < 128 → Unicode.isAlpha x = ltr x := fun x hx => by
    rw [nuni_alpha x hx]
    unfold ltr lowc
    exact Bool.or_comm _ _
  have lt : ∀ x, ltr x = true → x < 128 := fun x hx => by
    unfold ltr at hx
    simp only [Bool.or_eq_true, Bool.and_eq_true, decide_eq_true_eq] at hx
    omega
  constructor
  · rintro ⟨a, b, d⟩
    exact ⟨b, fun x hx => by rw [← le x (a x hx)]; exact d x hx⟩
  · rintro ⟨b, d⟩
    exact ⟨fun x hx => lt x (d x hx), b, fun x hx => by rw [le x (lt x (d x hx))]; exact d x hx⟩
/-- a head -/
def headB (l : List Nat) : Bool := decide (l.length ≤ 30) && (decide ((splL 32 l).getLast? = some []) && (splL 32 l).dropLast.all wordB)
abbrev sIsh : Stmt := top 27
theorem scIsh : FnScope ["value", "words", "word"] ["value"] (defScope sIsh) := ⟨rfl, rfl, rfl, by decide +kernel, rfl, by decide +kernel, by decide +kernel⟩
def spIsh : Sp := fun vs H Q _ => ∃ l : List Nat, vs = [.str (S l)] ∧ l.length ≤ 1000000 ∧ ∀ H', Same H H' → Q (.bl (headB l)) H'
theorem ok_ish (T : Txt K mg c) {f : Addr} {fd : FuncData} (F : Fun K "is_head" "is_head" sIsh f fd) : FnOk P w K mg base CX0 1 f fd ["value"] spIsh := by
  refine F.ok scIsh (fun vs H Q E h => ?_) (fun cdv A outer s H vs Q E hr h => ?_)
  · obtain ⟨l, rfl, _⟩ := h
    rfl
  · obtain ⟨l, rfl, hl, q⟩ := h
    refine ⟨_, (pss_cons (ps_if (PW.pt (pw_or (pt_not (pt_val (pe_callB call_isi (by rfl) T.z_isinstance (by decide +kernel) (pa_cons (pv 0) (pa_cons (pe_bltn (v := .ty "str") (by rfl) T.z_str (by decide +kernel) rfl) pa_nil))))) (pw_or1 (pt_cmpR op_gt (pe_callB call_lenS (by rfl) T.z_len (by decide +kernel) (pa_cons (pv 0) pa_nil)) (C8.pe_gc rfl T.g_LONGEST_HEAD) (nomark _))))) (pss_one (ps_ret pe_bl)) pss_nil)
  (pss_cons (ps_set (i := 1) scIsh.nd rfl (Or.inl rfl) (pe_bm PySem.F.plainAttrs_str PySem.F.slot_str_split PySem.F.type_str_split mt_split (pv 0) (pa_cons (pe_strS [32] (by decide +kernel)) pa_nil)))
  (pss_one (ps_ret (pe_and (pe_cmpR op_eq (pe_ix ix_list (pv 1) (pe_un un_neg pe_int) (fun _ _ => rfl)) (pe_strS ([] : List Nat) (by decide +kernel)) (nomark _)) (pe_one (pe_callB (cr_all rfl) (by rfl) T.z_all (by decide +kernel) (pa_cons (pe_lc (own := [("word", 2)]) (g := (gName 2)) (tt := tYes) rfl scIsh.nd (pi_list (pe_slice sl_list (pv 1) po_none (po_some (pe_un un_neg pe_int)))) (blkOk_by (N := ["value", "words", "word"]) (sc := defScope sIsh) (by decide +kernel)) (fun _ _ _ _ _ => (pg_name (i := 2) scIsh.nd rfl (Or.inl rfl))) (fun _ _ _ _ _ => pts_nil) (fun _ _ _ _ _ => (pe_and (pe_bm0K (K := K) rfl PySem.F.plainAttrs_str PySem.F.slot_str_isascii PySem.F.type_str_isascii mt_isascii (pv 2)) (pe_one (pe_bm0K (K := K) rfl PySem.F.plainAttrs_str PySem.F.slot_str_isalpha PySem.F.type_str_isalpha mt_isalpha (pv 2)))))) pa_nil)))))))), ?_⟩
    refine ⟨_, rfl, _, _, _, _, true, rfl, .ty _, .base (.str _), kit_ty (by decide +kernel), _, rfl, ?_⟩
    refine if_false_of rfl ?_
    refine ⟨_, rfl, l, rfl, hl, _, _, rfl, rfl, _, rfl, ?_⟩
    unfold headB at q
    by_cases c : (30 : Int) < (l.length : Int)
    · refine if_true_of (decide_eq_true c) ?_
      rw [decide_eq_false (by omega), Bool.false_and] at q
      exact q H fun _ _ e => e
    rw [decide_eq_true (by omega), Bool.true_and] at q
    refine if_false_of (decide_eq_false c) ?_
    refine ⟨_, rfl, rfl, S l, S [32], rfl, rfl, (by rw [S_len]; rfl), (by rw [S_len, sizeLine_eq]; omega), fun wl hwl => ?_⟩
    rw [split_one (by decide), List.map_map]
    have s1 := same_new (o := .lst ((splL 32 l).map (V.str ∘ S))) hwl
    have ne := splL_ne 32 l
    obtain ⟨y, hy⟩ : ∃ y, (splL 32 l).getLast? = some y := ⟨_, List.getLast?_eq_some_getLast ne⟩
    rw [hy] at q
    refine ⟨_, rfl, _, rfl, wl, _, _, _, rfl, rfl, SqL.of upd_same, at_neg1 _ (by rw [List.getLast?_map, hy]; rfl), rfl, _, rfl, ?_⟩
    show if decide (V.str (S y) = V.str (S [])) = true then _ else _
    rw [S_dec]
    by_cases hy0 : y = []
    · subst hy0
      refine if_true_of (by decide) ?_
      rw [decide_eq_true rfl, Bool.true_and] at q
      refine ⟨_, rfl, _, rfl, _, rfl, wl, _, rfl, SqL.of upd_same, fun il hil => ?_⟩
      show ∃ a : Addr, _
      have ec : cutV ((splL 32 l).map (V.str ∘ S)) none (some (-1)) = ((splL 32 l).dropLast).map fun x => V.str (S x) := by rw [cut_init, List.map_dropLast]; rfl
      generalize hwd : (splL 32 l).dropLast = wd at q ec
      have hwl2 : wd.length ≤ l.length + 1 := by rw [← hwd, List.length_dropLast]; have := (splL_len 32 l).1; omega
      have ei := upd_same (a := il) (o := HO.lst (cutV ((splL 32 l).map (V.str ∘ S)) none (some (-1)))) (H := upd H wl (HO.lst ((splL 32 l).map (V.str ∘ S))))
      have s2 := s1.trans (same_new (o := HO.lst (cutV ((splL 32 l).map (V.str ∘ S)) none (some (-1)))) hil)
      rw [ec] at ei s2 ⊢
      refine ⟨il, rfl, ⟨_, SqL.of ei⟩, fun D hD => lc_at (n := wd.length) (Y := yIt (wd.map fun x => V.str (S x))) (fun i H' => Same (upd (upd H wl (HO.lst ((splL 32 l).map (V.str ∘ S)))) il (.lst (wd.map fun x => V.str (S x)))) H' ∧ H' D = some (.lst ((wd.take i).map fun x => V.bl (wordB x)))) ⟨same_new hD, upd_same⟩ (fun i H' hi z => ?_) (fun i x H2 H1 hi yy z => ?_) (fun H' z => ?_)⟩
      · have w := walks_l (K := K) (xs := wd.map fun x => V.str (S x)) (i := i) (SqL.of (z.1 _ _ ei))
        rw [List.length_map] at w
        exact w
      · obtain ⟨rfl, hx⟩ := yy
        obtain ⟨s3, hz⟩ := z
        rw [List.getElem?_map] at hx
        obtain ⟨v, hv, rfl⟩ := Option.map_eq_some_iff.mp hx
        have vl : v.length ≤ 1000001 := by
          have m : v ∈ splL 32 l := by
            have := List.mem_of_getElem? hv
            rw [← hwd] at this
            exact (List.dropLast_sublist _).subset this
          have := (splL_len 32 l).2 v m
          omega
        have fin : ∀ b, b = wordB v → ∃ acc, H1 D = some (.lst acc) ∧ acc.length < sizeLine ∧ Same (upd (upd H wl (HO.lst ((splL 32 l).map (V.str ∘ S)))) il (.lst (wd.map fun x => V.str (S x)))) (upd H1 D (.lst (acc ++ [V.bl b]))) ∧ upd H1 D (.lst (acc ++ [V.bl b])) D = some (.lst ((wd.take (i + 1)).map fun x => V.bl (wordB x))) := fun b hb => by
          refine ⟨_, hz, by rw [List.length_map, List.length_take, sizeLine_eq]; omega, same_mut s3 hD, ?_⟩
          rw [upd_same, List.take_succ, hv, List.map_append, hb]
          rfl
        have ev := word_val v
        refine ⟨rfl, _, rfl, rfl, _, rfl, rfl, trivial, _, rfl, ?_⟩
        cases ea : Txt.isascii (S v) with
        | true =>
          rw [ea, Bool.true_and] at ev
          refine if_true_of rfl ⟨_, rfl, rfl, _, rfl, rfl, trivial, ?_⟩
          exact fin _ ev
        | false =>
          rw [ea, Bool.false_and] at ev
          refine if_false_of rfl ?_
          exact fin _ ev
      · obtain ⟨s3, hz⟩ := z
        rw [List.take_length] at hz
        refine ⟨D, wd.map wordB, rfl, SqL.of (by rw [hz, List.map_map]; rfl), ?_⟩
        rw [List.all_map]
        exact q H' (s2.trans s3)
    · refine if_false_of (decide_eq_false hy0) ?_
      rw [decide_eq_false (fun z => hy0 (Option.some.inj z)), Bool.false_and] at q
      exact q _ s1
theorem splL_head : ∀ {ws : List (List Nat)}, (∀ w ∈ ws, (32 : Nat) ∉ w) → splL 32 (headOf ws) = ws ++ [[]]
  | [], _ => rfl
  | w :: ws, hn => by
    have e1 : headOf (w :: ws) = w ++ [32] ++ headOf ws := by unfold headOf; simp
    rw [e1, splL_app _ (hn w (List.mem_cons_self ..)), splL_head fun x hx => hn x (List.mem_cons_of_mem _ hx)]
    rfl
theorem head_good {ws : List (List Nat)} (h : ∀ w ∈ ws, 1 ≤ w.length ∧ w.all ltr = true) (hl : (headOf ws).length ≤ 30) : headB (headOf ws) = true := by
  have no : ∀ w ∈ ws, (32 : Nat) ∉ w := fun w hw z => by
    have q := (List.all_eq_true.mp (h w hw).2) 32 z
    revert q
    decide
  unfold headB
  rw [splL_head no, decide_eq_true hl, List.dropLast_concat, List.getLast?_concat, decide_eq_true rfl, Bool.true_and, Bool.true_and, List.all_eq_true]
  intro w hw
  unfold wordB
  rw [decide_eq_true (h w hw).1, Bool.true_and]
  exact (h w hw).2
/-- a joint -/
def jointB (d : Nat) : Bool := decide (d = 46) || (decide (d = 58) || decide (d = 47))
abbrev sFit : Stmt := top 30
theorem scFit : FnScope ["joints", "shown", "joint"] ["joints", "shown"] (defScope sFit) := ⟨rfl, rfl, rfl, by decide +kernel, rfl, by decide +kernel, by decide +kernel⟩
def spFit (K : PySem.W.Frag) : Sp := fun vs H Q _ => ∃ (A B : Addr) (js : List Nat) (xs : List V), vs = [.ref B, .ref A] ∧ SqA K H B (js.map fun d => V.str (S [d])) ∧ SqA K H A xs ∧ js.length ≤ 1000 ∧ ∀ H', Same H H' → Q (.bl (decide (js.length + 1 = xs.length) && js.all jointB)) H'
theorem ok_fit (T : Txt K mg c) {f : Addr} {fd : FuncData} (F : Fun K "fit_between" "fit_between" sFit f fd) : FnOk P w K mg base CX0 1 f fd ["joints", "shown"] (spFit K) := by
  refine F.ok scFit (fun vs H Q E h => ?_) (fun cdv A' outer s H vs Q E hr h => ?_)
  · obtain ⟨A, B, js, xs, rfl, _⟩ := h
    rfl
  · obtain ⟨A, B, js, xs, rfl, hB, hA, hj, q⟩ := h
    refine ⟨_, (pss_one (ps_ret (pe_and (pe_cmpR op_eq (pe_callB call_len_seq (by rfl) T.z_len (by decide +kernel) (pa_cons (pv 0) pa_nil)) (pe_op op_sub (pe_callB call_len_seq (by rfl) T.z_len (by decide +kernel) (pa_cons (pv 1) pa_nil)) pe_int) (nomark _)) (pe_one (pe_callB (cr_all rfl) (by rfl) T.z_all (by decide +kernel) (pa_cons (pe_lc (own := [("joint", 2)]) (g := (gName 2)) (tt := tYes) rfl scFit.nd (pi_seqA (pv 0)) (blkOk_by (N := ["joints", "shown", "joint"]) (sc := defScope sFit) (by decide +kernel)) (fun _ _ _ _ _ => (pg_name (i := 2) scFit.nd rfl (Or.inl rfl))) (fun _ _ _ _ _ => pts_nil) (fun _ _ _ _ _ => (pe_cmpR (show OpR _ (compareOp .In) (rIn K false) from op_in_seq) (pv 2) (pe_glob (v := .ref c.TJ) rfl T.gt_JOINTS rfl) (by rfl)))) pa_nil)))))), ?_⟩
    refine ⟨_, rfl, B, _, rfl, hB, _, rfl, A, _, rfl, hA, _, _, rfl, rfl, rfl, _, rfl, ?_⟩
    have ed : decide (V.int (((js.map fun d => V.str (S [d])).length : Nat) : Int) = V.int (((xs.length : Nat) : Int) - 1)) = decide (js.length + 1 = xs.length) := decide_eq_decide.mpr ⟨fun z => by have := V.int.inj z; rw [List.length_map] at this; omega, fun z => by rw [List.length_map]; exact congrArg V.int (by omega)⟩
    rw [ed]
    by_cases hd : js.length + 1 = xs.length
    · refine if_true_of (decide_eq_true hd) ?_
      rw [decide_eq_true hd, Bool.true_and] at q
      have step : ∀ (D : Addr) (H' : Hp) (i : Nat) (d : Nat), H D = none → js[i]? = some d → (Same H H' ∧ H' D = some (.lst ((js.take i).map fun x => V.bl (jointB x)))) → ∃ acc, H' D = some (.lst acc) ∧ acc.length < sizeLine ∧ (Same H (upd H' D (.lst (acc ++ [V.bl (jointB d)]))) ∧ upd H' D (.lst (acc ++ [V.bl (jointB d)])) D = some (.lst ((js.take (i + 1)).map fun x => V.bl (jointB x)))) := fun D H' i d hD hd z => by
        refine ⟨_, z.2, by rw [List.length_map, List.length_take]; exact small1000 (by omega), same_mut z.1 hD, ?_⟩
        rw [upd_same, List.take_succ, hd, List.map_append]
        rfl
      have inJ : ∀ d : Nat, inV (V.str (S [d])) [V.str (S [46]), V.str (S [58]), V.str (S [47])] = jointB d := fun d => by
        have e : ∀ k : Nat, eqV (V.str (S [k])) (V.str (S [d])) = decide (d = k) := fun k => by
          rw [show eqV (V.str (S [k])) (V.str (S [d])) = (S [k] == S [d]) from rfl]
          by_cases h : d = k
          · subst h; simp
          · rw [decide_eq_false h]
            simp [S]
            exact fun z => h z.symm
        unfold inV jointB
        simp only [List.any_cons, List.any_nil, Bool.or_false, e]
      rcases hB with hB | hB
      · refine ⟨_, rfl, B, js.map (fun d => V.str (S [d])), rfl, .inl ⟨hB, fun D hD => lc_at (n := js.length) (Y := yIt (js.map fun d => V.str (S [d]))) (fun i H' => Same H H' ∧ H' D = some (.lst ((js.take i).map fun x => V.bl (jointB x)))) ⟨same_new hD, upd_same⟩ (fun i H' hi z => ?_) (fun i x H2 H1 hi yy z => ?_) (fun H' z => ?_)⟩⟩
        · have w := walks_l (K := K) (i := i) (SqL.sm hB z.1)
          rw [List.length_map] at w
          exact w
        · obtain ⟨rfl, hx⟩ := yy
          rw [List.getElem?_map] at hx
          obtain ⟨d, hd', rfl⟩ := Option.map_eq_some_iff.mp hx
          refine ⟨rfl, _, rfl, _, [V.str (S [46]), V.str (S [58]), V.str (S [47])], rfl, .inr (T.tt_JOINTS _), rfl, rfl, ?_⟩
          rw [if_neg (by decide), inJ d]
          exact step D _ i d hD hd' z
        · obtain ⟨s3, hz⟩ := z
          rw [List.take_length] at hz
          refine ⟨D, js.map jointB, rfl, SqL.of (by rw [hz, List.map_map]; rfl), ?_⟩
          rw [List.all_map]
          exact q H' s3
      · refine ⟨_, rfl, B, js.map (fun d => V.str (S [d])), rfl, .inr ⟨hB, fun D hD => lc_at (n := js.length) (Y := yIt (js.map fun d => V.str (S [d]))) (fun i H' => Same H H' ∧ H' D = some (.lst ((js.take i).map fun x => V.bl (jointB x)))) ⟨same_new hD, upd_same⟩ (fun i H' hi z => ?_) (fun i x H2 H1 hi yy z => ?_) (fun H' z => ?_)⟩⟩
        · have w := walks_t (K := K) (i := i) (SqT.sm hB z.1)
          rw [List.length_map] at w
          exact w
        · obtain ⟨rfl, hx⟩ := yy
          rw [List.getElem?_map] at hx
          obtain ⟨d, hd', rfl⟩ := Option.map_eq_some_iff.mp hx
          refine ⟨rfl, _, rfl, _, [V.str (S [46]), V.str (S [58]), V.str (S [47])], rfl, .inr (T.tt_JOINTS _), rfl, rfl, ?_⟩
          rw [if_neg (by decide), inJ d]
          exact step D _ i d hD hd' z
        · obtain ⟨s3, hz⟩ := z
          rw [List.take_length] at hz
          refine ⟨D, js.map jointB, rfl, SqL.of (by rw [hz, List.map_map]; rfl), ?_⟩
          rw [List.all_map]
          exact q H' s3
    · refine if_false_of (decide_eq_false hd) ?_
      rw [decide_eq_false hd, Bool.false_and] at q
      exact q H fun _ _ e => e
abbrev sIss : Stmt := top 29
theorem scIss : FnScope ["item"] ["item"] (defScope sIss) := ⟨rfl, rfl, rfl, by decide +kernel, rfl, by decide +kernel, by decide +kernel⟩
def spIss : Sp := fun vs H Q _ => ∃ (t : Addr) (nm : List Nat) (b : Bool), vs = [.ref t] ∧ H t = some (.tup [.str (S nm), .str (S (formL b))]) ∧ nm.length ≤ 1000000 ∧ Q (.bl (nameL nm)) H
theorem ok_iss (T : Txt K mg c) {f : Addr} {fd : FuncData} (F : Fun K "is_shown" "is_shown" sIss f fd) : FnOk P w K mg base CX0 2 f fd ["item"] spIss := by
  have cNm : Cal P w K mg base CX0 1 "is_name" spName := cal_of T.d_is_name fun f fd F => ok_name T F
  refine F.ok scIss (fun vs H Q E h => ?_) (fun cdv A' outer s H vs Q E hr h => ?_)
  · obtain ⟨t, nm, b, rfl, _⟩ := h
    rfl
  · obtain ⟨t, nm, b, rfl, ht, hn, q⟩ := h
    refine ⟨_, (pss_cons (ps_if (PW.pt (pw_or (pt_not (pt_val (pe_callB call_isi (by rfl) T.z_isinstance (by decide +kernel) (pa_cons (pv 0) (pa_cons (pe_bltn (v := .ty "tuple") (by rfl) T.z_tuple (by decide +kernel) rfl) pa_nil))))) (pw_or1 (pt_cmpR op_ne (pe_callB call_len_seq (by rfl) T.z_len (by decide +kernel) (pa_cons (pv 0) pa_nil)) pe_int (nomark _))))) (pss_one (ps_ret pe_bl)) pss_nil)
  (pss_one (ps_ret (pe_and (pe_c cNm hr (by decide) rfl (pa_cons (pe_ix ix_tup (pv 0) pe_int (fun _ _ => rfl)) pa_nil)) (pe_and (pe_callB call_isi (by rfl) T.z_isinstance (by decide +kernel) (pa_cons (pe_ix ix_tup (pv 0) pe_int (fun _ _ => rfl)) (pa_cons (pe_bltn (v := .ty "str") (by rfl) T.z_str (by decide +kernel) rfl) pa_nil))) (pe_one (pe_cmpR op_in_seq (pe_ix ix_tup (pv 0) pe_int (fun _ _ => rfl)) (pe_glob (v := .ref c.TF) rfl T.gt_FORMATS rfl) (by rfl)))))))), ?_⟩
    refine ⟨_, rfl, _, _, _, _, true, rfl, .ty _, .base (.tup ht), kit_ty (by decide +kernel), _, rfl, ?_⟩
    refine if_false_of rfl ?_
    refine ⟨_, rfl, t, _, rfl, .inr (SqT.of ht), rfl, _, rfl, ?_⟩
    refine if_false_of (by show (!decide (V.int 2 = V.int 2)) = false; decide) ?_
    refine ⟨_, rfl, t, _, 0, _, rfl, rfl, SqT.of ht, at_of (j := 0) rfl rfl, nm, rfl, hn, _, rfl, ?_⟩
    cases hb : nameL nm with
    | false =>
      rw [hb] at q
      exact if_false_of rfl q
    | true =>
      rw [hb] at q
      refine if_true_of rfl ⟨_, rfl, t, _, 1, _, rfl, rfl, SqT.of ht, at_of (j := 1) rfl rfl, _, _, _, _, true, rfl, .ty _, .base (.str _), kit_ty (by decide +kernel), _, rfl, if_true_of rfl ?_⟩
      refine ⟨_, rfl, t, _, 1, _, rfl, rfl, SqT.of ht, at_of (j := 1) rfl rfl, _, [V.str (S [102, 105, 103, 117, 114, 101, 115]), V.str (S [108, 101, 116, 116, 101, 114, 115])], rfl, .inr (T.tt_FORMATS _), rfl, rfl, ?_⟩
      rw [if_neg (by decide)]
      have e : inV (V.str (S (formL b))) [V.str (S [102, 105, 103, 117, 114, 101, 115]), V.str (S [108, 101, 116, 116, 101, 114, 115])] = true := by cases b <;> decide +kernel
      rw [e]
      exact q
theorem eqV_S (a b : List Nat) : eqV (V.str (S a)) (V.str (S b)) = decide (a = b) := by
  rw [show eqV (V.str (S a)) (V.str (S b)) = (S a == S b) from rfl]
  by_cases h : a = b
  · subst h; simp
  · rw [decide_eq_false h, beq_eq_false_iff_ne]
    intro z
    have e := S_dec (a := a) (b := b)
    rw [decide_eq_false h, z] at e
    simp at e
theorem inV_strs (a : List Nat) (l : List (List Nat)) : inV (V.str (S a)) (l.map fun x => V.str (S x)) = decide (a ∈ l) := by
  unfold inV
  rw [List.any_map, Bool.eq_iff_iff, List.any_eq_true, decide_eq_true_eq]
  constructor
  · rintro ⟨x, hx, e⟩
    simp only [Function.comp, eqV_S, decide_eq_true_eq] at e
    rw [← e]
    exact hx
  · intro h
    exact ⟨a, h, by simp [Function.comp, eqV_S]⟩
theorem flat_strs (l : List (List Nat)) : (l.map fun x => V.str (S x)).all flatV = true := by
  rw [List.all_map, List.all_eq_true]
  intro x _
  rfl
/-- what a label may show -/
structure GoodSl (sl : List (List Nat × Bool)) : Prop where
  ne : sl ≠ []
  le : sl.length ≤ 4
  nm : ∀ x ∈ sl, nameL x.1 = true
  nd : (sl.map (·.1)).Nodup
theorem nameL_len {l : List Nat} (h : nameL l = true) : l.length ≤ 8 := by
  unfold nameL at h
  simp only [Bool.and_eq_true, decide_eq_true_eq] at h
  exact h.1.2
abbrev sWit : Stmt := top 28
theorem scWit : FnScope ["shown", "counters", "index", "item"] ["shown"] (defScope sWit) := ⟨rfl, rfl, rfl, by decide +kernel, rfl, by decide +kernel, by decide +kernel⟩
def spWit (K : PySem.W.Frag) : Sp := fun vs H Q _ => ∃ (A : Addr) (ts : List Addr) (sl : List (List Nat × Bool)), vs = [.ref A] ∧ SqA K H A (ts.map V.ref) ∧ SlotsAt H ts sl ∧ GoodSl sl ∧ ∀ H', Same H H' → Q .non H'
theorem SlotsAt.sm {H H' : Hp} {ts : List Addr} {sl : List (List Nat × Bool)} (h : SlotsAt H ts sl) (s : Same H H') : SlotsAt H' ts sl := ⟨h.1, fun i t x e1 e2 => s _ _ (h.2 i t x e1 e2)⟩
theorem ok_wit (T : Txt K mg c) {f : Addr} {fd : FuncData} (F : Fun K "wrong_item" "wrong_item" sWit f fd) : FnOk P w K mg base CX0 3 f fd ["shown"] (spWit K) := by
  have cS : Cal P w K mg base CX0 2 "is_shown" spIss := cal_of T.d_is_shown fun f fd F => ok_iss T F
  refine F.ok scWit (fun vs H Q E h => ?_) (fun cdv A' outer s H vs Q E hr h => ?_)
  · obtain ⟨A, ts, sl, rfl, _⟩ := h
    rfl
  · obtain ⟨A, ts, sl, rfl, hA, hT, g, q⟩ := h
    refine ⟨_, (pss_cons (ps_if (pt_cmpR op_eq (pe_callB call_len_seq (by rfl) T.z_len (by decide +kernel) (pa_cons (pv 0) pa_nil)) pe_int (nomark _)) (pss_one (ps_ret pe_int)) pss_nil)
  (pss_cons (ps_set (i := 1) scWit.nd rfl (Or.inl rfl) (pe_lst pa_nil))
  (pss_cons (ps_for PassesOwn.never rfl (pi_enumA (by rfl) T.z_enumerate (pa_cons (pv 0) pa_nil)) (pg_tup (by rfl) (pgs_cons (pg_name (i := 2) scWit.nd rfl (Or.inl rfl)) (pgs_cons (pg_name (i := 3) scWit.nd rfl (Or.inl rfl)) pgs_nil)))
  (pss_cons (ps_if (PW.pt (pw_or (pt_cmpR op_ge (pv 2) (C8.pe_gc rfl T.g_MOST_SHOWN) (nomark _)) (pw_or (pt_not (pt_val (pe_c cS hr (by decide) rfl (pa_cons (pv 3) pa_nil)))) (pw_or1 (pt_cmpR op_in_seq (pe_ix ix_tup (pv 3) pe_int (fun _ _ => rfl)) (pv 1) (by rfl)))))) (pss_one (ps_ret (pv 2))) pss_nil)
  (pss_one (ps_expr (pe_bm PySem.F.plainAttrs_list PySem.F.slot_list_append PySem.F.type_list_append mt_append (pv 1) (pa_cons (pe_ix ix_tup (pv 3) pe_int (fun _ _ => rfl)) pa_nil))))))
  (pss_one (ps_ret pe_non))))), ?_⟩
    have hpos : 0 < sl.length := List.length_pos_iff.mpr g.ne
    refine ⟨_, rfl, A, _, rfl, hA, rfl, _, rfl, if_false_of (decide_eq_false fun z => by have := V.int.inj z; rw [List.length_map, hT.1] at this; omega) ?_⟩
    refine ⟨Nat.zero_le _, fun cl hcl => ?_⟩
    have s1 := same_new (o := .lst []) hcl
    have body : ∀ (i : Nat) (x : V) (t0 : Addr) (σ : L2.St) (H1 : Hp) (D : Ends), (ts.map V.ref)[i]? = some x → (∃ v2 v3 : Option V, σ = [some (.ref A), some (.ref cl), v2, v3] ∧ Same H H1 ∧ H1 cl = some (.lst ((sl.take i).map fun x => V.str (S x.1)))) → H1 t0 = none →
        ∃ (t : Addr) (y : List Nat × Bool), x = .ref t ∧ sl[i]? = some y ∧ H1 t = some (.tup [.str (S y.1), .str (S (formL y.2))]) := fun i x t0 σ H1 D hx hP _ => by
      obtain ⟨v2, v3, rfl, s2, hc⟩ := hP
      rw [List.getElem?_map] at hx
      obtain ⟨t, ht, rfl⟩ := Option.map_eq_some_iff.mp hx
      have hi : i < sl.length := by rw [← hT.1]; exact (List.getElem?_eq_some_iff.mp ht).1
      have hy : sl[i]? = some sl[i] := List.getElem?_eq_getElem hi
      exact ⟨t, sl[i], rfl, hy, s2 _ _ (hT.2 i t _ ht hy)⟩
    have tail : ∀ (i : Nat) (t : Addr) (y : List Nat × Bool) (t0 : Addr) (H1 : Hp) (v2 v3 : Option V), sl[i]? = some y → H1 t = some (.tup [.str (S y.1), .str (S (formL y.2))]) → H1 t0 = none → Same H H1 → H1 cl = some (.lst ((sl.take i).map fun x => V.str (S x.1))) →
        i < 4 ∧ nameL y.1 = true ∧ inV (V.str (S y.1)) ((sl.take i).map fun x => V.str (S x.1)) = false ∧ y.1.length ≤ 1000000 ∧ (upd H1 t0 (.tup [.int (i : Nat), .ref t])) t = some (.tup [.str (S y.1), .str (S (formL y.2))]) ∧
        (upd H1 t0 (.tup [.int (i : Nat), .ref t])) cl = some (.lst ((sl.take i).map fun x => V.str (S x.1))) ∧ Same H (upd H1 t0 (.tup [.int (i : Nat), .ref t])) ∧ ((sl.take i).map fun x => V.str (S x.1)).all flatV = true ∧ ((sl.take i).map fun x => V.str (S x.1)).length < sizeLine ∧
        (sl.take (i + 1)).map (fun x => V.str (S x.1)) = ((sl.take i).map fun x => V.str (S x.1)) ++ [V.str (S y.1)] := fun i t y t0 H1 v2 v3 hy ht h0 s2 hc => by
      obtain ⟨hi, ey⟩ := List.getElem?_eq_some_iff.mp hy
      have hm : y ∈ sl := List.mem_of_getElem? hy
      have em : (sl.take i).map (fun x : List Nat × Bool => V.str (S x.1)) = ((sl.map (·.1)).take i).map fun x => V.str (S x) := by rw [← List.map_take, List.map_map]; rfl
      refine ⟨Nat.lt_of_lt_of_le hi g.le, g.nm y hm, ?_, Nat.le_trans (nameL_len (g.nm y hm)) (by decide), ?_, ?_, s2.trans (same_new h0), ?_, ?_, ?_⟩
      · rw [em, inV_strs]
        refine decide_eq_false fun z => ?_
        obtain ⟨j, hj⟩ := List.mem_iff_getElem?.mp z
        rw [List.getElem?_take] at hj
        by_cases hji : j < i
        · rw [if_pos hji] at hj
          obtain ⟨hjl, ej⟩ := List.getElem?_eq_some_iff.mp hj
          have hil : i < (sl.map (·.1)).length := by rw [List.length_map]; exact hi
          have ei : (sl.map (·.1))[i] = y.1 := by rw [List.getElem_map, ey]
          exact List.pairwise_iff_getElem.mp g.nd j i hjl hil hji (ej.trans ei.symm)
        · rw [if_neg hji] at hj
          cases hj
      · rw [upd_ne (fun e => by rw [e, h0] at ht; cases ht)]
        exact ht
      · rw [upd_ne (fun e => by rw [e, h0] at hc; cases hc)]
        exact hc
      · rw [em]
        exact flat_strs _
      · rw [List.length_map, List.length_take]
        exact small1000 (by have := g.le; omega)
      · rw [List.take_succ, hy, List.map_append]
        rfl
    rcases hA with hA | hA
    all_goals
      refine ⟨_, rfl, A, ts.map V.ref, rfl, ?_⟩
      first | refine .inl ⟨SqL.sm hA s1, ?_⟩ | refine .inr ⟨SqT.sm hA s1, ?_⟩
      refine for_enumA (n := sl.length) (xs := ts.map V.ref) (by rw [List.length_map]; exact hT.1) (fun i σ' H' => ∃ v2 v3 : Option V, σ' = [some (.ref A), some (.ref cl), v2, v3] ∧ Same H H' ∧ H' cl = some (.lst ((sl.take i).map fun x => V.str (S x.1)))) ⟨_, _, rfl, s1, upd_same⟩ ?_ ?_ ?_
      · rintro i σ' H' ⟨v2, v3, rfl, s2, hc⟩
        first | exact ite_at (by rw [List.length_map]; exact hT.1) (SqL.sm hA s2) | exact iteT_at (by rw [List.length_map]; exact hT.1) (SqT.sm hA s2)
      · rintro i x t0 σ' H1 hx hP h0
        obtain ⟨t, y, rfl, hy, ht⟩ := body i x t0 σ' H1 ⟨fun _ _ => False, fun _ _ => False, fun _ _ => False, fun _ _ => False⟩ hx hP h0
        obtain ⟨v2, v3, rfl, s2, hc⟩ := hP
        obtain ⟨r1, r2, r3, r4, r5, r6, r7, r8, r9, r10⟩ := tail i t y t0 H1 v2 v3 hy ht h0 s2 hc
        refine ⟨t0, _, rfl, SqT.of upd_same, rfl, _, _, rfl, _, _, rfl, rfl, ?_⟩
        refine ⟨_, rfl, _, _, rfl, rfl, _, rfl, if_false_of (decide_eq_false (by omega)) ?_⟩
        refine ⟨_, rfl, t, y.1, y.2, rfl, r5, r4, _, rfl, ?_⟩
        rw [r2]
        refine if_false_of rfl ?_
        refine ⟨_, rfl, t, _, 0, _, rfl, rfl, SqT.of r5, at_of (j := 0) rfl rfl, _, rfl, cl, _, rfl, .inl (SqL.of r6), rfl, r8, _, rfl, ?_⟩
        rw [if_neg (by decide), r3]
        refine if_false_of rfl ?_
        refine ⟨_, rfl, .inl ⟨rfl, _, SqL.of r6⟩, _, rfl, t, _, 0, _, rfl, rfl, SqT.of r5, at_of (j := 0) rfl rfl, cl, _, _, rfl, rfl, r6, r9, ?_⟩
        exact ⟨_, _, rfl, same_mut r7 hcl, by rw [upd_same, r10]⟩
      · rintro σ' H' ⟨v2, v3, rfl, s2, hc⟩
        exact q H' s2
end
section
variable {P : Program} {w : World} {K : PySem.W.Frag} {mg : Str → Option Value} {base : Heap} {c : Cs}
theorem tup_of {H : Hp} {a : Addr} {ys : List V} {Q : VK} (h : SqA K H a ys) (q : ∀ (A' : Addr) (H' : Hp), Same H H' → SqT K H' A' ys → Q (.ref A') H') :
    ∃ p ys', [V.ref a] = [V.ref p] ∧ ((SqL K H p ys' ∧ ∀ l, H l = none → Q (.ref l) (upd H l (.tup ys'))) ∨ (SqT K H p ys' ∧ Q (.ref p) H)) :=
  ⟨a, ys, rfl, h.elim (fun h => .inl ⟨h, fun l hl => q l _ (same_new hl) (SqT.of upd_same)⟩) fun h => .inr ⟨h, q a H (fun _ _ e => e) h⟩⟩
/-- tuple(x) of a list or a tuple -/
theorem call_tupleA {X : Cx} : CallR X (.type "tuple") (fun xs H Q => ∃ p ys, xs = [.ref p] ∧ SqA X.K H p ys ∧ ∀ (A' : Addr) (H' : Hp), Same H H' → SqT X.K H' A' ys → Q (.ref A') H') := by
  intro pins s σ H xs us Q J r h
  obtain ⟨p, ys, rfl, hs, q⟩ := h
  exact call_tuple_of pins s σ H _ us Q J r (tup_of hs q)
/-! ### labels as they stand in memory -/
def fldsL (hd : List Nat) (A B : Addr) : List (Str × V) := [("_head", .str (S hd)), ("_shown", .ref A), ("_joints", .ref B)]
structure LabP (K : PySem.W.Frag) (CL : Addr) (H : Hp) (x dx A B : Addr) (ts : List Addr) (hd : List Nat) (sl : List (List Nat × Bool)) (js : List Nat) : Prop where
  i : H x = some (.ins CL dx (fldsL hd A B))
  a : SqT K H A (ts.map V.ref)
  b : SqT K H B (js.map fun d => V.str (S [d]))
  t : SlotsAt H ts sl
def LabAt (K : PySem.W.Frag) (CL : Addr) (H : Hp) (x : Addr) (hd : List Nat) (sl : List (List Nat × Bool)) (js : List Nat) : Prop := ∃ dx A B ts, LabP K CL H x dx A B ts hd sl js
theorem LabP.sm {CL : Addr} {H H' : Hp} {x dx A B : Addr} {ts : List Addr} {hd : List Nat} {sl : List (List Nat × Bool)} {js : List Nat} (h : LabP K CL H x dx A B ts hd sl js) (s : Same H H') : LabP K CL H' x dx A B ts hd sl js := ⟨s _ _ h.i, SqT.sm h.a s, SqT.sm h.b s, h.t.sm s⟩
theorem LabAt.sm {CL : Addr} {H H' : Hp} {x : Addr} {hd : List Nat} {sl : List (List Nat × Bool)} {js : List Nat} (h : LabAt K CL H x hd sl js) (s : Same H H') : LabAt K CL H' x hd sl js := let ⟨dx, A, B, ts, p⟩ := h; ⟨dx, A, B, ts, p.sm s⟩
/-- what the constructor lets -/
structure GoodLab (hd : List Nat) (sl : List (List Nat × Bool)) (js : List Nat) : Prop where
  h : headB hd = true
  s : GoodSl sl
  l : js.length + 1 = sl.length
  j : js.all jointB = true
theorem GoodLab.hl {hd : List Nat} {sl : List (List Nat × Bool)} {js : List Nat} (g : GoodLab hd sl js) : hd.length ≤ 30 := by
  have h := g.h
  unfold headB at h
  simp only [Bool.and_eq_true, decide_eq_true_eq] at h
  exact h.1
theorem GoodLab.jl {hd : List Nat} {sl : List (List Nat × Bool)} {js : List Nat} (g : GoodLab hd sl js) : js.length ≤ 3 := by
  have := g.l
  have := g.s.le
  omega
/-- all but x stands -/
def Bt (x : Addr) (H H' : Hp) : Prop := ∀ b o, b ≠ x → H b = some o → H' b = some o
abbrev sLin : Stmt := inClass (top 25) 0
theorem scLin : FnScope ["self", "head", "shown", "joints", "wrong"] ["self", "head", "shown", "joints"] (defScope sLin) := ⟨rfl, rfl, rfl, by decide +kernel, rfl, by decide +kernel, by decide +kernel⟩
def spLin (K : PySem.W.Frag) (CL : Addr) : Sp := fun vs H Q _ => ∃ (x dx A B : Addr) (ts : List Addr) (hd : List Nat) (sl : List (List Nat × Bool)) (js : List Nat), vs = [.ref x, .str (S hd), .ref A, .ref B] ∧ H x = some (.ins CL dx []) ∧
  SqA K H A (ts.map V.ref) ∧ SqA K H B (js.map fun d => V.str (S [d])) ∧ SlotsAt H ts sl ∧ GoodLab hd sl js ∧ ∀ H', Bt x H H' → LabAt K CL H' x hd sl js → Q .non H'
theorem ne_ins {H : Hp} {x C dx : Addr} {fs : List (Str × V)} {a : Addr} {o : HO} (hx : H x = some (.ins C dx fs)) (h : H a = some o) (n : ∀ C dx fs, o ≠ .ins C dx fs) : a ≠ x := fun z => by
  rw [z, hx] at h
  exact n _ _ _ (Option.some.inj h).symm
theorem SqL.at_ins {H : Hp} {x C dx : Addr} {fs gs : List (Str × V)} {a : Addr} {ys : List V} (hx : H x = some (.ins C dx fs)) (h : SqL K H a ys) : SqL K (upd H x (.ins C dx gs)) a ys := by
  rcases h with (h | ⟨o, h⟩) | h
  · exact .inl (.inl (by rw [upd_ne (ne_ins hx h (fun _ _ _ z => nomatch z))]; exact h))
  · exact .inl (.inr ⟨o, by rw [upd_ne (ne_ins hx h (fun _ _ _ z => nomatch z))]; exact h⟩)
  · exact .inr h
theorem SqT.at_ins {H : Hp} {x C dx : Addr} {fs gs : List (Str × V)} {a : Addr} {ys : List V} (hx : H x = some (.ins C dx fs)) (h : SqT K H a ys) : SqT K (upd H x (.ins C dx gs)) a ys := by
  rcases h with (h | ⟨o, h⟩) | h
  · exact .inl (.inl (by rw [upd_ne (ne_ins hx h (fun _ _ _ z => nomatch z))]; exact h))
  · exact .inl (.inr ⟨o, by rw [upd_ne (ne_ins hx h (fun _ _ _ z => nomatch z))]; exact h⟩)
  · exact .inr h
theorem SqA.at_ins {H : Hp} {x C dx : Addr} {fs gs : List (Str × V)} {a : Addr} {ys : List V} (hx : H x = some (.ins C dx fs)) (h : SqA K H a ys) : SqA K (upd H x (.ins C dx gs)) a ys := h.elim (fun h => .inl (SqL.at_ins hx h)) fun h => .inr (SqT.at_ins hx h)
theorem SlotsAt.at_ins {H : Hp} {x C dx : Addr} {fs gs : List (Str × V)} {ts : List Addr} {sl : List (List Nat × Bool)} (hx : H x = some (.ins C dx fs)) (h : SlotsAt H ts sl) : SlotsAt (upd H x (.ins C dx gs)) ts sl :=
  ⟨h.1, fun i t y e1 e2 => by have e := h.2 i t y e1 e2; rw [upd_ne (ne_ins hx e (fun _ _ _ z => nomatch z))]; exact e⟩
theorem Bt.of {x : Addr} {H H' : Hp} (s : Same H H') : Bt x H H' := fun b o _ e => s b o e
theorem Bt.trans {x : Addr} {H H1 H2 : Hp} (a : Bt x H H1) (b : Bt x H1 H2) : Bt x H H2 := fun c o n e => b c o n (a c o n e)
theorem Bt.put {x : Addr} {H : Hp} {o : HO} : Bt x H (upd H x o) := fun b o n e => by rw [upd_ne n]; exact e
theorem ok_lin (T : Txt K mg c) : FnOk P w K mg base CX0 4 c.iL c.fdIL ["self", "head", "shown", "joints"] (spLin K c.CL) := by
  have cH : Cal P w K mg base CX0 1 "is_head" spIsh := cal_of T.d_is_head fun f fd F => ok_ish T F
  have cW : Cal P w K mg base CX0 3 "wrong_item" (spWit K) := cal_of T.d_wrong_item fun f fd F => ok_wit T F
  have cF : Cal P w K mg base CX0 1 "fit_between" (spFit K) := cal_of T.d_fit_between fun f fd F => ok_fit T F
  refine T.FIL.ok scLin (fun vs H Q E h => ?_) (fun cdv A' outer s H vs Q E hr h => ?_)
  · obtain ⟨x, dx, A, B, ts, hd, sl, js, rfl, _⟩ := h
    rfl
  · obtain ⟨x, dx, A, B, ts, hd, sl, js, rfl, hx, hA, hB, hT, g, q⟩ := h
    refine ⟨_, PSs.nox (pss_cons (ps_if (pt_not (pt_val (pe_c cH hr (by decide) rfl (pa_cons (pv 1) pa_nil)))) (pss_one ps_never) pss_nil)
  (pss_cons (ps_set (i := 4) scLin.nd rfl (Or.inl rfl) (pe_c cW hr (by decide) rfl (pa_cons (pv 2) pa_nil)))
  (pss_cons (ps_if (pt_cmpR op_notN (pv 4) pe_non (nomark _)) (pss_one ps_never) pss_nil)
  (pss_cons (ps_if (pt_not (pt_val (pe_c cF hr (by decide) rfl (pa_cons (pv 3) (pa_cons (pv 2) pa_nil))))) (pss_one ps_never) pss_nil)
  (pss_cons (ps_fld (pv 0) (pv 1) rfl)
  (pss_cons (ps_fld (pv 0) (pe_callTy call_tupleA (by rfl) T.z_tuple (by decide +kernel) (pa_cons (pv 2) pa_nil)) rfl)
  (pss_one (ps_fld (pv 0) (pe_callTy call_tupleA (by rfl) T.z_tuple (by decide +kernel) (pa_cons (pv 3) pa_nil)) rfl)))))))), ?_⟩
    refine ⟨_, rfl, hd, rfl, by have := g.hl; omega, fun H1 s1 => ⟨_, rfl, ?_⟩⟩
    rw [g.h]
    refine if_false_of rfl ?_
    refine ⟨_, rfl, A, ts, sl, rfl, hA.sm s1, hT.sm s1, g.s, fun H2 s2 => ?_⟩
    refine ⟨_, rfl, rfl, _, rfl, if_false_of (by decide) ?_⟩
    have s12 := s1.trans s2
    refine ⟨_, rfl, _, rfl, A, B, js, ts.map V.ref, rfl, hB.sm s12, hA.sm s12, by have := g.jl; omega, fun H3 s3 => ⟨_, rfl, ?_⟩⟩
    rw [List.length_map, hT.1, decide_eq_true g.l, g.j]
    refine if_false_of rfl ?_
    have s := s12.trans s3
    have hx3 := s _ _ hx
    refine ⟨_, rfl, _, rfl, x, c.CL, dx, _, rfl, hx3, T.clL, T.naL__head, (by show 0 < 1000; decide), ?_⟩
    refine ⟨_, rfl, A, _, rfl, (hA.sm s).at_ins hx3, fun A' H4 s4 hA4 => ?_⟩
    have hx4 := s4 _ _ (upd_same (a := x) (H := H3) (o := .ins c.CL dx (putF "_head" (V.str (S hd)) [])))
    refine ⟨_, rfl, x, c.CL, dx, _, rfl, hx4, T.clL, T.naL__shown, (by show 1 < 1000; decide), ?_⟩
    refine ⟨_, rfl, B, _, rfl, (((hB.sm s).at_ins hx3).sm s4).at_ins hx4, fun B' H5 s5 hB5 => ?_⟩
    have hx5 := s5 _ _ (upd_same (a := x) (H := H4) (o := .ins c.CL dx (putF "_shown" (V.ref A') (putF "_head" (V.str (S hd)) []))))
    refine ⟨_, rfl, x, c.CL, dx, _, rfl, hx5, T.clL, T.naL__joints, (by show 2 < 1000; decide), ?_⟩
    have b : Bt x H (upd H5 x (.ins c.CL dx (putF "_joints" (V.ref B') (putF "_shown" (V.ref A') (putF "_head" (V.str (S hd)) []))))) :=
      (Bt.of s).trans (Bt.put.trans ((Bt.of s4).trans (Bt.put.trans ((Bt.of s5).trans Bt.put))))
    refine q _ b ⟨dx, A', B', ts, ?_, ?_, SqT.at_ins hx5 hB5, ?_⟩
    · rw [upd_same]
      rfl
    · exact SqT.at_ins hx5 (SqT.sm (SqT.at_ins hx4 hA4) s5)
    · exact (((((hT.sm s).at_ins hx3).sm s4).at_ins hx4).sm s5).at_ins hx5
/-! ### its properties, its text -/
abbrev sGhd : Stmt := inClass (top 25) 1
theorem scGhd : FnScope ["self"] ["self"] (defScope sGhd) := ⟨rfl, rfl, rfl, by decide +kernel, rfl, by decide +kernel, by decide +kernel⟩
theorem ok_ghd (T : Txt K mg c) : FnOk P w K mg base CX0 1 c.mHd c.fdHd ["self"] (getSp c.CL "_head") := by
  refine T.FHd.ok scGhd (fun vs H Q E h => ?_) (fun cdv A' outer s H vs Q E hr h => ?_)
  · obtain ⟨a, dx, fs, v, rfl, _⟩ := h
    rfl
  · obtain ⟨a, dx, fs, v, rfl, ea, l, q⟩ := h
    exact ⟨_, (pss_one (ps_ret (pe_fld (pv 0) rfl))), _, rfl, a, c.CL, dx, fs, v, rfl, ea, T.clL, T.naL__head, l, q⟩
abbrev sGsh : Stmt := inClass (top 25) 2
theorem scGsh : FnScope ["self"] ["self"] (defScope sGsh) := ⟨rfl, rfl, rfl, by decide +kernel, rfl, by decide +kernel, by decide +kernel⟩
theorem ok_gsh (T : Txt K mg c) : FnOk P w K mg base CX0 1 c.mSh c.fdSh ["self"] (getSp c.CL "_shown") := by
  refine T.FSh.ok scGsh (fun vs H Q E h => ?_) (fun cdv A' outer s H vs Q E hr h => ?_)
  · obtain ⟨a, dx, fs, v, rfl, _⟩ := h
    rfl
  · obtain ⟨a, dx, fs, v, rfl, ea, l, q⟩ := h
    exact ⟨_, (pss_one (ps_ret (pe_fld (pv 0) rfl))), _, rfl, a, c.CL, dx, fs, v, rfl, ea, T.clL, T.naL__shown, l, q⟩
abbrev sGjn : Stmt := inClass (top 25) 3
theorem scGjn : FnScope ["self"] ["self"] (defScope sGjn) := ⟨rfl, rfl, rfl, by decide +kernel, rfl, by decide +kernel, by decide +kernel⟩
theorem ok_gjn (T : Txt K mg c) : FnOk P w K mg base CX0 1 c.mJn c.fdJn ["self"] (getSp c.CL "_joints") := by
  refine T.FJn.ok scGjn (fun vs H Q E h => ?_) (fun cdv A' outer s H vs Q E hr h => ?_)
  · obtain ⟨a, dx, fs, v, rfl, _⟩ := h
    rfl
  · obtain ⟨a, dx, fs, v, rfl, ea, l, q⟩ := h
    exact ⟨_, (pss_one (ps_ret (pe_fld (pv 0) rfl))), _, rfl, a, c.CL, dx, fs, v, rfl, ea, T.clL, T.naL__joints, l, q⟩
theorem join_head (hd js : List Nat) (w0 : List Nat) (ws : List (List Nat)) : hd ++ joinT [] js (w0 :: ws) = joinT hd js (w0 :: ws) := by
  unfold joinT
  simp
/-- the slot behind a turn over the tuples -/
theorem slot_at {H : Hp} {ts : List Addr} {sl : List (List Nat × Bool)} (h : SlotsAt H ts sl) {i : Nat} {x : V} (hx : (ts.map V.ref)[i]? = some x) : ∃ (t : Addr) (y : List Nat × Bool), x = .ref t ∧ sl[i]? = some y ∧ H t = some (.tup [.str (S y.1), .str (S (formL y.2))]) := by
  rw [List.getElem?_map] at hx
  obtain ⟨t, ht, rfl⟩ := Option.map_eq_some_iff.mp hx
  have hi : i < sl.length := by rw [← h.1]; exact (List.getElem?_eq_some_iff.mp ht).1
  have hy : sl[i]? = some sl[i] := List.getElem?_eq_getElem hi
  exact ⟨t, sl[i], rfl, hy, h.2 i t _ ht hy⟩
theorem GoodLab.cons {hd : List Nat} {sl : List (List Nat × Bool)} {js : List Nat} (g : GoodLab hd sl js) : ∃ y ys, sl = y :: ys ∧ js.length = ys.length := by
  have l := g.l
  cases sl with
  | nil => simp at l
  | cons y ys => exact ⟨y, ys, rfl, by simpa using l⟩
abbrev sLtx : Stmt := inClass (top 25) 8
theorem scLtx : FnScope ["self", "texts", "counter", "form"] ["self"] (defScope sLtx) := ⟨rfl, rfl, rfl, by decide +kernel, rfl, by decide +kernel, by decide +kernel⟩
def spTx (K : PySem.W.Frag) (CL : Addr) : Sp := fun vs H Q _ => ∃ (x : Addr) (hd : List Nat) (sl : List (List Nat × Bool)) (js : List Nat), vs = [.ref x] ∧ LabAt K CL H x hd sl js ∧ GoodLab hd sl js ∧ ∀ H', Same H H' → Q (.str (S (faceT hd sl js))) H'
theorem ok_ltx (T : Txt K mg c) : FnOk P w K mg base CX0 2 c.mTx c.fdTx ["self"] (spTx K c.CL) := by
  have cS : Cal P w K mg base CX0 1 "shown_text" spShx := cal_of T.d_shown_text fun f fd F => ok_shx T F
  have cJ : Cal P w K mg base CX0 1 "joined" (spJnd K) := cal_of T.d_joined fun f fd F => ok_jnd T F
  refine T.FTx.ok scLtx (fun vs H Q E h => ?_) (fun cdv A' outer s H vs Q E hr h => ?_)
  · obtain ⟨x, hd, sl, js, rfl, _⟩ := h
    rfl
  · obtain ⟨x, hd, sl, js, rfl, ⟨dx, A, B, ts, lp⟩, g, q⟩ := h
    refine ⟨_, (pss_cons (ps_setLc (i := 1) (own := [("counter", 2), ("form", 3)]) (g := (gTup K 2 (gCons (gName 2) (gCons (gName 3) gNil)))) (tt := tYes) rfl scLtx.nd rfl rfl (sw_true rfl rfl rfl (by decide +kernel)) (pi_tup (pe_fld (pv 0) rfl)) (blkOk_by (N := ["self", "texts", "counter", "form"]) (sc := defScope sLtx) (by decide +kernel)) (fun _ _ _ _ _ => (pg_tup (by rfl) (pgs_cons (pg_name (i := 2) scLtx.nd rfl (Or.inl rfl)) (pgs_cons (pg_name (i := 3) scLtx.nd rfl (Or.inl rfl)) pgs_nil)))) (fun _ _ _ _ _ => pts_nil) (fun _ _ _ _ _ => (pe_c cS hr (by decide) rfl (pa_cons (pv 2) (pa_cons (pv 3) pa_nil)))))
  (pss_one (ps_ret (pe_op op_catS (pe_fld (pv 0) rfl) (pe_c cJ hr (by decide) rfl (pa_cons (pv 1) (pa_cons (pe_fld (pv 0) rfl) pa_nil))))))), ?_⟩
    refine ⟨_, rfl, x, c.CL, dx, _, V.ref A, rfl, lp.i, T.clL, T.naL__shown, rfl, A, rfl, ⟨_, lp.a⟩, fun D hD => lc_at (n := sl.length) (Y := yIt (ts.map V.ref)) (fun i H' => Same H H' ∧ H' D = some (.lst ((sl.take i).map fun x => V.str (S (faceL x.1 x.2))))) ⟨same_new hD, upd_same⟩ (fun i H' hi z => ?_) (fun i v H2 H1 hi yy z => ?_) (fun H' z => ?_)⟩
    · have w := walks_t (K := K) (i := i) (SqT.sm lp.a z.1)
      rw [List.length_map, lp.t.1] at w
      exact w
    · obtain ⟨rfl, hv⟩ := yy
      obtain ⟨s1, hz⟩ := z
      obtain ⟨t, y, rfl, hy, et⟩ := slot_at (lp.t.sm s1) hv
      have hm := nameL_len (g.s.nm y (List.mem_of_getElem? hy))
      refine ⟨t, _, rfl, SqT.of et, rfl, _, _, rfl, _, _, rfl, rfl, rfl, ?_⟩
      refine ⟨_, rfl, _, rfl, y.1, y.2, rfl, by omega, _, hz, by rw [List.length_map, List.length_take]; exact small1000 (by have := g.s.le; omega), same_mut s1 hD, ?_⟩
      rw [upd_same, List.take_succ, hy, List.map_append]
      rfl
    · obtain ⟨s1, hz⟩ := z
      rw [List.take_length] at hz
      obtain ⟨y0, ys, rfl, hjl⟩ := g.cons
      refine ⟨_, rfl, x, c.CL, dx, _, V.str (S hd), rfl, s1 _ _ lp.i, T.clL, T.naL__head, rfl, _, rfl, _, rfl, x, c.CL, dx, _, V.ref B, rfl, s1 _ _ lp.i, T.clL, T.naL__joints, rfl, ?_⟩
      have fl : ∀ y ∈ y0 :: ys, (faceL y.1 y.2).length ≤ 1000 := fun y hy => by
        have := faceL_len y.1 y.2
        have := nameL_len (g.s.nm y hy)
        omega
      refine ⟨D, B, js, faceL y0.1 y0.2, ys.map (fun x => faceL x.1 x.2), rfl, SqL.of (by rw [hz, List.map_cons, List.map_cons, List.map_map]; rfl), SqT.sm lp.b s1, by rw [List.length_map]; exact hjl, by have := g.jl; omega, fl y0 (List.mem_cons_self ..), fun z hz' => ?_, fun H2 s2 => ?_⟩
      · obtain ⟨y, hy, rfl⟩ := List.mem_map.mp hz'
        exact fl y (List.mem_cons_of_mem _ hy)
      · refine ⟨hd, _, rfl, rfl, ?_, ?_⟩
        · have tl := tailT_len (ds := js) (xs := ys.map fun x => faceL x.1 x.2) (n := 1000) fun z hz' => by
            obtain ⟨y, hy, rfl⟩ := List.mem_map.mp hz'
            exact fl y (List.mem_cons_of_mem _ hy)
          have := fl y0 (List.mem_cons_self ..)
          have := g.jl
          have := g.hl
          unfold joinT
          simp only [List.length_append, List.length_nil]
          omega
        · rw [join_head]
          exact q H2 (s1.trans s2)
end
section
variable {P : Program} {w : World} {K : PySem.W.Frag} {mg : Str → Option Value} {base : Heap} {c : Cs}
/-! ### what is compared, as data -/
theorem strOk_S {l : List Nat} (h : ∀ x ∈ l, x < 0x110000) : PyData.strOk (S l) = true := by
  unfold PyData.strOk
  simp
  exact h
theorem eqv_S (a b : List Nat) : PyData.eqv (.str (S a)) (.str (S b)) = decide (a = b) := eqV_S a b
theorem eqv_map {α : Type} [DecidableEq α] {f : α → PyData} : ∀ {xs ys : List α}, (∀ x ∈ xs, ∀ y ∈ ys, PyData.eqv (f x) (f y) = decide (x = y)) → PyData.eqvAll (xs.map f) (ys.map f) = decide (xs = ys)
  | [], [], _ => by simp [PyData.eqvAll]
  | [], y :: ys, _ => by simp [PyData.eqvAll]
  | x :: xs, [], _ => by simp [PyData.eqvAll]
  | x :: xs, y :: ys, h => by
    have r := eqv_map (xs := xs) (ys := ys) fun a ha b hb => h a (List.mem_cons_of_mem _ ha) b (List.mem_cons_of_mem _ hb)
    simp only [List.map_cons, PyData.eqvAll, r, h x (List.mem_cons_self ..) y (List.mem_cons_self ..)]
    by_cases e1 : x = y <;> by_cases e2 : xs = ys <;> simp [e1, e2]
theorem lay_all {ds : List PyData} : (∀ d ∈ ds, d.canLay0 = true) → PyData.canLayAll0 ds = true := by
  induction ds with
  | nil => intro _; rfl
  | cons d ds ih =>
    intro h
    simp only [PyData.canLayAll0, h d (List.mem_cons_self ..), ih fun e he => h e (List.mem_cons_of_mem _ he), Bool.and_self]
theorem dep_all {ds : List PyData} {k : Nat} : (∀ d ∈ ds, d.depth ≤ k) → PyData.depthAll ds ≤ k := by
  induction ds with
  | nil => intro _; exact Nat.zero_le _
  | cons d ds ih =>
    intro h
    simp only [PyData.depthAll]
    exact Nat.max_le.mpr ⟨h d (List.mem_cons_self ..), ih fun e he => h e (List.mem_cons_of_mem _ he)⟩
/-- may be compared, of depth at most k -/
def ShK (k : Nat) (d : PyData) : Prop := d.canLay0 = true ∧ d.depth ≤ k
theorem ShK.sh {k : Nat} {d : PyData} (h : ShK k d) (hk : k ≤ 64) : SeqAt.shaped d = true := by
  unfold SeqAt.shaped
  rw [h.1, Bool.true_and]
  exact decide_eq_true (Nat.le_trans h.2 hk)
theorem shk_list {k : Nat} {ds : List PyData} (h : ∀ d ∈ ds, ShK k d) : ShK (k + 1) (.list ds) := ⟨by simp only [PyData.canLay0]; exact lay_all fun d hd => (h d hd).1, by simp only [PyData.depth]; exact Nat.succ_le_succ (dep_all fun d hd => (h d hd).2)⟩
theorem shk_tup {k : Nat} {ds : List PyData} (h : ∀ d ∈ ds, ShK k d) : ShK (k + 1) (.tuple ds) := ⟨by simp only [PyData.canLay0]; exact lay_all fun d hd => (h d hd).1, by simp only [PyData.depth]; exact Nat.succ_le_succ (dep_all fun d hd => (h d hd).2)⟩
theorem shk_str {l : List Nat} (h : ∀ x ∈ l, x < 0x110000) (k : Nat) : ShK k (.str (S l)) := ⟨by simp only [PyData.canLay0]; exact strOk_S h, by simp only [PyData.depth]; exact Nat.zero_le _⟩
theorem shk_map {α : Type} {f : α → PyData} {xs : List α} {k : Nat} (h : ∀ x ∈ xs, ShK k (f x)) : ∀ d ∈ xs.map f, ShK k d := fun d hd => by
  obtain ⟨x, hx, rfl⟩ := List.mem_map.mp hd
  exact h x hx
theorem dp_map {α : Type} {H : Hp} {g : α → V} {f : α → PyData} : ∀ {xs : List α}, (∀ x ∈ xs, Dp K H (g x) (f x)) → DpAll K H (xs.map g) (xs.map f)
  | [], _ => .nil
  | x :: xs, h => .cons (h x (List.mem_cons_self ..)) (dp_map fun y hy => h y (List.mem_cons_of_mem _ hy))
def dSl (x : List Nat × Bool) : PyData := .tuple [.str (S x.1), .str (S (formL x.2))]
def dJ (d : Nat) : PyData := .str (S [d])
theorem formL_inj (a b : Bool) : decide (formL a = formL b) = decide (a = b) := by cases a <;> cases b <;> decide
theorem eqv_dSl (x y : List Nat × Bool) : PyData.eqv (dSl x) (dSl y) = decide (x = y) := by
  unfold dSl
  simp only [PyData.eqv, PyData.eqvAll, Bool.and_true]
  rw [show (S x.1 == S y.1) = decide (x.1 = y.1) from eqV_S _ _, show (S (formL x.2) == S (formL y.2)) = decide (formL x.2 = formL y.2) from eqV_S _ _, formL_inj]
  by_cases e1 : x.1 = y.1 <;> by_cases e2 : x.2 = y.2 <;> simp [e1, e2, Prod.ext_iff]
theorem eqv_dJ (x y : Nat) : PyData.eqv (dJ x) (dJ y) = decide (x = y) := by
  unfold dJ
  rw [eqv_S]
  exact decide_eq_decide.mpr ⟨fun h => by simpa using h, fun h => by rw [h]⟩
theorem name_lt {l : List Nat} (h : nameL l = true) : ∀ x ∈ l, x < 0x110000 := fun x hx => by
  unfold nameL at h
  simp only [Bool.and_eq_true, List.all_eq_true] at h
  have q := h.2 x hx
  unfold lowc at q
  simp only [Bool.and_eq_true, decide_eq_true_eq] at q
  omega
theorem form_lt (b : Bool) : ∀ x ∈ formL b, x < 0x110000 := by cases b <;> decide
theorem joint_lt {d : Nat} (h : jointB d = true) : d < 0x110000 := by
  unfold jointB at h
  simp only [Bool.or_eq_true, decide_eq_true_eq] at h
  omega
theorem shk_sl {x : List Nat × Bool} (h : nameL x.1 = true) : ShK 1 (dSl x) := shk_tup fun d hd => by
  rcases List.mem_cons.mp hd with rfl | hd
  · exact shk_str (name_lt h) 0
  · rw [List.mem_singleton.mp hd]
    exact shk_str (form_lt _) 0
theorem GoodLab.shS {hd : List Nat} {sl : List (List Nat × Bool)} {js : List Nat} (g : GoodLab hd sl js) : SeqAt.shaped (.tuple (sl.map dSl)) = true := (shk_tup (shk_map fun x hx => shk_sl (g.s.nm x hx))).sh (by decide)
theorem GoodLab.shJ {hd : List Nat} {sl : List (List Nat × Bool)} {js : List Nat} (g : GoodLab hd sl js) : SeqAt.shaped (.tuple (js.map dJ)) = true := (shk_tup (k := 0) (shk_map fun d hd => shk_str (fun x hx => by rw [List.mem_singleton.mp hx]; exact joint_lt (List.all_eq_true.mp g.j d hd)) 0)).sh (by decide)
theorem dp_slots {H : Hp} : ∀ {ts : List Addr} {sl : List (List Nat × Bool)}, SlotsAt H ts sl → DpAll K H (ts.map V.ref) (sl.map dSl)
  | [], [], _ => .nil
  | [], _ :: _, h => by have := h.1; simp at this
  | _ :: _, [], h => by have := h.1; simp at this
  | t :: ts, x :: sl, h => .cons (.tup (SqT.of (h.2 0 t x rfl rfl)) (.cons (.str _) (.cons (.str _) .nil))) (dp_slots ⟨by have := h.1; simpa using this, fun i u y e1 e2 => h.2 (i + 1) u y e1 e2⟩)
theorem dp_js {H : Hp} (js : List Nat) : DpAll K H (js.map fun d => V.str (S [d])) (js.map dJ) := dp_map fun _ _ => .str _
theorem LabP.dA {CL : Addr} {H : Hp} {x dx A B : Addr} {ts : List Addr} {hd : List Nat} {sl : List (List Nat × Bool)} {js : List Nat} (h : LabP K CL H x dx A B ts hd sl js) : Dp K H (.ref A) (.tuple (sl.map dSl)) := .tup h.a (dp_slots h.t)
theorem LabP.dB {CL : Addr} {H : Hp} {x dx A B : Addr} {ts : List Addr} {hd : List Nat} {sl : List (List Nat × Bool)} {js : List Nat} (h : LabP K CL H x dx A B ts hd sl js) : Dp K H (.ref B) (.tuple (js.map dJ)) := .tup h.b (dp_js js)
theorem eqv_sls (a b : List (List Nat × Bool)) : PyData.eqv (.tuple (a.map dSl)) (.tuple (b.map dSl)) = decide (a = b) := by simp only [PyData.eqv]; exact eqv_map fun x _ y _ => eqv_dSl x y
theorem eqv_jss (a b : List Nat) : PyData.eqv (.tuple (a.map dJ)) (.tuple (b.map dJ)) = decide (a = b) := by simp only [PyData.eqv]; exact eqv_map fun x _ y _ => eqv_dJ x y
abbrev sLeq : Stmt := inClass (top 25) 4
theorem scLeq : FnScope ["self", "other"] ["self", "other"] (defScope sLeq) := ⟨rfl, rfl, rfl, by decide +kernel, rfl, by decide +kernel, by decide +kernel⟩
def spLEq (K : PySem.W.Frag) (CL : Addr) : Sp := fun vs H Q _ => ∃ (x : Addr) (v : V) (hd : List Nat) (sl : List (List Nat × Bool)) (js : List Nat), vs = [.ref x, v] ∧ LabAt K CL H x hd sl js ∧ GoodLab hd sl js ∧
  ((∃ (y : Addr) (hd2 : List Nat) (sl2 : List (List Nat × Bool)) (js2 : List Nat), v = .ref y ∧ LabAt K CL H y hd2 sl2 js2 ∧ GoodLab hd2 sl2 js2 ∧ Q (.bl (decide (hd = hd2) && (decide (sl = sl2) && decide (js = js2)))) H) ∨ (∃ z : Str, v = .str z ∧ Q (.bl false) H))
theorem ok_leq (T : Txt K mg c) : FnOk P w K mg base CX0 1 c.mEq c.fdEq ["self", "other"] (spLEq K c.CL) := by
  refine T.FEq.ok scLeq (fun vs H Q E h => ?_) (fun cdv A' outer s H vs Q E hr h => ?_)
  · obtain ⟨x, v, hd, sl, js, rfl, _⟩ := h
    rfl
  · obtain ⟨x, v, hd, sl, js, rfl, ⟨dx, A, B, ts, lp⟩, g, h⟩ := h
    refine ⟨_, (pss_one (ps_ret (pe_and (pe_callB call_isi (by rfl) T.z_isinstance (by decide +kernel) (pa_cons (pv 1) (pa_cons (pe_glob (v := .ref c.CL) rfl T.gCL rfl) pa_nil))) (pe_and (pe_cmpR op_eq (pe_fld (pv 0) rfl) (pe_fld (pv 1) rfl) (nomark _)) (pe_and (pe_cmpR (op_eqD hr.units) (pe_fld (pv 0) rfl) (pe_fld (pv 1) rfl) (nomark _)) (pe_one (pe_cmpR (op_eqD hr.units) (pe_fld (pv 0) rfl) (pe_fld (pv 1) rfl) (nomark _)))))))), ?_⟩
    rcases h with ⟨y, hd2, sl2, js2, rfl, ⟨dy, A2, B2, ts2, lq⟩, g2, q⟩ | ⟨z, rfl, q⟩
    · refine ⟨_, rfl, _, _, _, _, true, rfl, .own _, T.tyL lq.i, T.kkL, _, rfl, if_true_of rfl ?_⟩
      refine ⟨_, rfl, x, c.CL, dx, _, _, rfl, lp.i, T.clL, T.naL__head, rfl, _, rfl, y, c.CL, dy, _, _, rfl, lq.i, T.clL, T.naL__head, rfl, rfl, _, rfl, ?_⟩
      rw [S_dec]
      refine ite_bl q fun q => ?_
      refine ⟨_, rfl, x, c.CL, dx, _, _, rfl, lp.i, T.clL, T.naL__shown, rfl, _, rfl, y, c.CL, dy, _, _, rfl, lq.i, T.clL, T.naL__shown, rfl, _, _, lp.dA, lq.dA, g.shS, g2.shS, _, rfl, ?_⟩
      rw [eqv_sls]
      refine ite_bl q fun q => ?_
      refine ⟨_, rfl, x, c.CL, dx, _, _, rfl, lp.i, T.clL, T.naL__joints, rfl, _, rfl, y, c.CL, dy, _, _, rfl, lq.i, T.clL, T.naL__joints, rfl, _, _, lp.dB, lq.dB, g.shJ, g2.shJ, ?_⟩
      rw [eqv_jss]
      exact q
    · exact ⟨_, rfl, _, _, _, _, false, rfl, .own _, .base (.str _), T.ksL, _, rfl, if_false_of rfl q⟩
abbrev sLsf : Stmt := inClass (top 25) 5
theorem scLsf : FnScope ["self", "other", "_", "form"] ["self", "other"] (defScope sLsf) := ⟨rfl, rfl, rfl, by decide +kernel, rfl, by decide +kernel, by decide +kernel⟩
def spSf (K : PySem.W.Frag) (CL : Addr) : Sp := fun vs H Q _ => ∃ (x y : Addr) (hd : List Nat) (sl : List (List Nat × Bool)) (js : List Nat) (hd2 : List Nat) (sl2 : List (List Nat × Bool)) (js2 : List Nat), vs = [.ref x, .ref y] ∧ LabAt K CL H x hd sl js ∧ GoodLab hd sl js ∧
  LabAt K CL H y hd2 sl2 js2 ∧ GoodLab hd2 sl2 js2 ∧ ∀ H', Same H H' → Q (.bl (decide (hd = hd2) && (decide (js = js2) && decide (sl.map (·.2) = sl2.map (·.2))))) H'
theorem eqv_forms (a b : List Bool) : PyData.eqv (.list (a.map fun x => .str (S (formL x)))) (.list (b.map fun x => .str (S (formL x)))) = decide (a = b) := by
  simp only [PyData.eqv]
  exact eqv_map fun x _ y _ => by rw [eqv_S, formL_inj]
theorem sh_forms (a : List Bool) : SeqAt.shaped (.list (a.map fun x => .str (S (formL x)))) = true := (shk_list (k := 0) (shk_map fun x _ => shk_str (form_lt x) 0)).sh (by decide)
theorem ok_lsf (T : Txt K mg c) : FnOk P w K mg base CX0 3 c.mSf c.fdSf ["self", "other"] (spSf K c.CL) := by
  have gHd : FnOk P w K mg base CX0 1 c.mHd c.fdHd ["self"] (getSp c.CL "_head") := ok_ghd T
  have gSh : FnOk P w K mg base CX0 1 c.mSh c.fdSh ["self"] (getSp c.CL "_shown") := ok_gsh T
  have gJn : FnOk P w K mg base CX0 1 c.mJn c.fdJn ["self"] (getSp c.CL "_joints") := ok_gjn T
  refine T.FSf.ok scLsf (fun vs H Q E h => ?_) (fun cdv A' outer s H vs Q E hr h => ?_)
  · obtain ⟨x, y, hd, sl, js, hd2, sl2, js2, rfl, _⟩ := h
    rfl
  · obtain ⟨x, y, hd, sl, js, hd2, sl2, js2, rfl, ⟨dx, A, B, ts, lp⟩, g, ⟨dy, A2, B2, ts2, lq⟩, g2, q⟩ := h
    refine ⟨_, (pss_cons (ps_if (PW.pt (pw_or (pt_cmpR op_ne (pe_fld (pv 0) rfl) (pe_prop (pv 1) T.clL T.PHd gHd (hr.mono (by decide)) T.bHd .nil pass0 rfl) (nomark _)) (pw_or1 (pt_cmpR (op_neD hr.units) (pe_fld (pv 0) rfl) (pe_prop (pv 1) T.clL T.PJn gJn (hr.mono (by decide)) T.bJn .nil pass0 rfl) (nomark _))))) (pss_one (ps_ret pe_bl)) pss_nil)
  (pss_one (ps_ret (pe_cmpR (op_eqD hr.units) (pe_lc (own := [("_", 2), ("form", 3)]) (g := (gTup K 2 (gCons (gName 2) (gCons (gName 3) gNil)))) (tt := tYes) rfl scLsf.nd (pi_tup (pe_fld (pv 0) rfl)) (blkOk_by (N := ["self", "other", "_", "form"]) (sc := defScope sLsf) (by decide +kernel)) (fun _ _ _ _ _ => (pg_tup (by rfl) (pgs_cons (pg_name (i := 2) scLsf.nd rfl (Or.inl rfl)) (pgs_cons (pg_name (i := 3) scLsf.nd rfl (Or.inl rfl)) pgs_nil)))) (fun _ _ _ _ _ => pts_nil) (fun _ _ _ _ _ => (pv 3))) (pe_lc (own := [("_", 2), ("form", 3)]) (g := (gTup K 2 (gCons (gName 2) (gCons (gName 3) gNil)))) (tt := tYes) rfl scLsf.nd (pi_tup (pe_prop (pv 1) T.clL T.PSh gSh (hr.mono (by decide)) T.bSh .nil pass0 rfl)) (blkOk_by (N := ["self", "other", "_", "form"]) (sc := defScope sLsf) (by decide +kernel)) (fun _ _ _ _ _ => (pg_tup (by rfl) (pgs_cons (pg_name (i := 2) scLsf.nd rfl (Or.inl rfl)) (pgs_cons (pg_name (i := 3) scLsf.nd rfl (Or.inl rfl)) pgs_nil)))) (fun _ _ _ _ _ => pts_nil) (fun _ _ _ _ _ => (pv 3))) (nomark _))))), ?_⟩
    refine ⟨_, rfl, x, c.CL, dx, _, _, rfl, lp.i, T.clL, T.naL__head, rfl, _, rfl, y, dy, _, rfl, lq.i, y, dy, _, _, rfl, lq.i, rfl, rfl, _, rfl, ?_⟩
    rw [S_dec]
    by_cases e1 : hd = hd2
    · rw [decide_eq_true e1, Bool.true_and] at q
      rw [decide_eq_true e1]
      refine if_false_of rfl ?_
      refine ⟨_, rfl, x, c.CL, dx, _, _, rfl, lp.i, T.clL, T.naL__joints, rfl, _, rfl, y, dy, _, rfl, lq.i, y, dy, _, _, rfl, lq.i, rfl, _, _, lp.dB, lq.dB, g.shJ, g2.shJ, _, rfl, ?_⟩
      rw [eqv_jss]
      by_cases e2 : js = js2
      · rw [decide_eq_true e2, Bool.true_and] at q
        rw [decide_eq_true e2]
        refine if_false_of rfl ?_
        refine ⟨_, rfl, x, c.CL, dx, _, V.ref A, rfl, lp.i, T.clL, T.naL__shown, rfl, A, rfl, ⟨_, lp.a⟩, fun D hD => lc_at (n := sl.length) (Y := yIt (ts.map V.ref)) (fun i H' => Same H H' ∧ H' D = some (.lst (((sl.map (·.2)).take i).map fun b => V.str (S (formL b))))) ⟨same_new hD, upd_same⟩ (fun i H' hi z => ?_) (fun i v H2 H1 hi yy z => ?_) (fun H' z => ?_)⟩
        · have w := walks_t (K := K) (i := i) (SqT.sm lp.a z.1)
          rw [List.length_map, lp.t.1] at w
          exact w
        · obtain ⟨rfl, hv⟩ := yy
          obtain ⟨s1, hz⟩ := z
          obtain ⟨t, u, rfl, hy, et⟩ := slot_at (lp.t.sm s1) hv
          refine ⟨t, _, rfl, SqT.of et, rfl, _, _, rfl, _, _, rfl, rfl, rfl, ?_⟩
          refine ⟨_, rfl, _, hz, by rw [List.length_map, List.length_take, List.length_map]; exact small1000 (by have := g.s.le; omega), same_mut s1 hD, ?_⟩
          rw [upd_same, List.take_succ, List.getElem?_map, hy, List.map_append]
          rfl
        obtain ⟨s1, hz⟩ := z
        rw [List.take_of_length_le (by rw [List.length_map]; exact Nat.le_refl _)] at hz
        refine ⟨_, rfl, y, dy, _, rfl, s1 _ _ lq.i, y, dy, _, V.ref A2, rfl, s1 _ _ lq.i, rfl, A2, rfl, ⟨_, SqT.sm lq.a s1⟩, fun D2 hD2 => lc_at (n := sl2.length) (Y := yIt (ts2.map V.ref)) (fun i H2 => Same H' H2 ∧ H2 D2 = some (.lst (((sl2.map (·.2)).take i).map fun b => V.str (S (formL b))))) ⟨same_new hD2, upd_same⟩ (fun i H2 hi z => ?_) (fun i v H3 H1 hi yy z => ?_) (fun H2 z => ?_)⟩
        · have w := walks_t (K := K) (i := i) (SqT.sm (SqT.sm lq.a s1) z.1)
          rw [List.length_map, lq.t.1] at w
          exact w
        · obtain ⟨rfl, hv⟩ := yy
          obtain ⟨s2, hz2⟩ := z
          obtain ⟨t, u, rfl, hy, et⟩ := slot_at ((lq.t.sm s1).sm s2) hv
          refine ⟨t, _, rfl, SqT.of et, rfl, _, _, rfl, _, _, rfl, rfl, rfl, ?_⟩
          refine ⟨_, rfl, _, hz2, by rw [List.length_map, List.length_take, List.length_map]; exact small1000 (by have := g2.s.le; omega), same_mut s2 hD2, ?_⟩
          rw [upd_same, List.take_succ, List.getElem?_map, hy, List.map_append]
          rfl
        · obtain ⟨s2, hz2⟩ := z
          rw [List.take_of_length_le (by rw [List.length_map]; exact Nat.le_refl _)] at hz2
          refine ⟨.list ((sl.map (·.2)).map fun x => .str (S (formL x))), .list ((sl2.map (·.2)).map fun x => .str (S (formL x))), .lst (SqL.of (s2 _ _ hz)) (dp_map fun _ _ => .str _), .lst (SqL.of hz2) (dp_map fun _ _ => .str _), sh_forms _, sh_forms _, ?_⟩
          rw [eqv_forms]
          exact q H2 (s1.trans s2)
      · rw [decide_eq_false e2, Bool.false_and] at q
        rw [decide_eq_false e2]
        refine if_true_of rfl ?_
        exact q H fun _ _ e => e
    · rw [decide_eq_false e1, Bool.false_and] at q
      rw [decide_eq_false e1]
      refine if_true_of rfl ?_
      exact q H fun _ _ e => e
abbrev sLof : Stmt := inClass (top 25) 6
theorem scLof : FnScope ["self", "values", "counter", "_", "texts", "form"] ["self", "values"] (defScope sLof) := ⟨rfl, rfl, rfl, by decide +kernel, rfl, by decide +kernel, by decide +kernel⟩
/-- the dict's numbers of the shown counters -/
def NumsAt (kvs : List (Key × V)) (num : List Nat → Nat) (sl : List (List Nat × Bool)) : Prop := ∀ x ∈ sl, valV kvs (Sum.inr (S x.1)) = some (.int (num x.1)) ∧ num x.1 < 10 ^ 60
def spOf (K : PySem.W.Frag) (CL : Addr) : Sp := fun vs H Q _ => ∃ (x d : Addr) (hd : List Nat) (sl : List (List Nat × Bool)) (js : List Nat) (kvs : List (Key × V)) (num : List Nat → Nat), vs = [.ref x, .ref d] ∧ LabAt K CL H x hd sl js ∧ GoodLab hd sl js ∧
  H d = some (.dK kvs) ∧ NumsAt kvs num sl ∧ ∀ H', Same H H' → Q (.str (S (dueT num hd sl js))) H'
theorem ok_lof (T : Txt K mg c) : FnOk P w K mg base CX0 5 c.mOf c.fdOf ["self", "values"] (spOf K c.CL) := by
  have cNt : Cal P w K mg base (L2.CX P w) 4 "number_text" (spNtx K c.CN) := cal_of T.d_number_text fun f fd F => ok_ntx T T.d_is_natural T.d_figures T.d_letters F
  have cJ : Cal P w K mg base CX0 1 "joined" (spJnd K) := cal_of T.d_joined fun f fd F => ok_jnd T F
  refine T.FOf.ok scLof (fun vs H Q E h => ?_) (fun cdv A' outer s H vs Q E hr h => ?_)
  · obtain ⟨x, d, hd, sl, js, kvs, num, rfl, _⟩ := h
    rfl
  · obtain ⟨x, d, hd, sl, js, kvs, num, rfl, ⟨dx, A, B, ts, lp⟩, g, ed, hn, q⟩ := h
    refine ⟨_, (pss_cons (ps_for PassesOwn.never rfl (pi_tup (pe_fld (pv 0) rfl)) (pg_tup (by rfl) (pgs_cons (pg_name (i := 2) scLof.nd rfl (Or.inl rfl)) (pgs_cons (pg_name (i := 3) scLof.nd rfl (Or.inl rfl)) pgs_nil)))
  (pss_one (ps_if (pt_cmp (pc_dnotin (hu_of hr) (pv 2) (pv 1))) (pss_one ps_never) pss_nil)))
  (pss_cons (ps_setLc (i := 4) (own := [("counter", 2), ("form", 5)]) (g := (gTup K 2 (gCons (gName 2) (gCons (gName 5) gNil)))) (tt := tYes) rfl scLof.nd rfl rfl (sw_true rfl rfl rfl (by decide +kernel)) (pi_tup (pe_fld (pv 0) rfl)) (blkOk_by (N := ["self", "values", "counter", "_", "texts", "form"]) (sc := defScope sLof) (by decide +kernel)) (fun _ _ _ _ _ => (pg_tup (by rfl) (pgs_cons (pg_name (i := 2) scLof.nd rfl (Or.inl rfl)) (pgs_cons (pg_name (i := 5) scLof.nd rfl (Or.inl rfl)) pgs_nil)))) (fun _ _ _ _ _ => pts_nil) (fun _ _ _ _ _ => (pe_cX cNt hr (by decide) rfl (pa_cons (pv 5) (pa_cons (pe_dget (hu_of hr) (pv 1) (pv 2) (fun _ _ => rfl)) pa_nil)))))
  (pss_one (ps_ret (pe_op op_catS (pe_fld (pv 0) rfl) (pe_c cJ hr (by decide) rfl (pa_cons (pv 4) (pa_cons (pe_fld (pv 0) rfl) pa_nil)))))))), ?_⟩
    refine ⟨_, rfl, x, c.CL, dx, _, V.ref A, rfl, lp.i, T.clL, T.naL__shown, rfl, A, rfl, ⟨_, lp.a⟩, for_at (n := sl.length) (Y := yIt (ts.map V.ref)) (fun i σ' H' => (∃ v2 v3 : Option V, σ' = [some (.ref x), some (.ref d), v2, v3, none, none]) ∧ H' = H) ⟨⟨_, _, rfl⟩, rfl⟩ ?_ ?_ ?_⟩
    · rintro i σ' H' hi ⟨_, rfl⟩
      have w := walks_t (K := K) (i := i) lp.a
      rw [List.length_map, lp.t.1] at w
      exact w
    · rintro i v σ' H2 H1 hi ⟨rfl, hv⟩ ⟨⟨v2, v3, rfl⟩, rfl⟩
      obtain ⟨t, y, rfl, hy, et⟩ := slot_at lp.t hv
      refine ⟨t, _, rfl, SqT.of et, rfl, _, _, rfl, _, _, rfl, rfl, ?_⟩
      refine ⟨_, rfl, _, rfl, d, _, rfl, DGet.k (k := Sum.inr (S y.1)) ed, _, rfl, ?_⟩
      rw [(hn y (List.mem_of_getElem? hy)).1]
      exact if_false_of rfl ⟨⟨_, _, rfl⟩, rfl⟩
    · rintro σ' H' ⟨⟨v2, v3, rfl⟩, rfl⟩
      refine ⟨_, rfl, x, c.CL, dx, _, V.ref A, rfl, lp.i, T.clL, T.naL__shown, rfl, A, rfl, ⟨_, lp.a⟩, fun D hD => lc_at (n := sl.length) (Y := yIt (ts.map V.ref)) (fun i H1 => Same H' H1 ∧ H1 D = some (.lst ((sl.take i).map fun x => V.str (S (numT x.2 (num x.1)))))) ⟨same_new hD, upd_same⟩ (fun i H1 hi z => ?_) (fun i v H2 H1 hi yy z => ?_) (fun H1 z => ?_)⟩
      · have w := walks_t (K := K) (i := i) (SqT.sm lp.a z.1)
        rw [List.length_map, lp.t.1] at w
        exact w
      · obtain ⟨rfl, hv⟩ := yy
        obtain ⟨s1, hz⟩ := z
        obtain ⟨t, y, rfl, hy, et⟩ := slot_at (lp.t.sm s1) hv
        obtain ⟨n1, n2⟩ := hn y (List.mem_of_getElem? hy)
        refine ⟨t, _, rfl, SqT.of et, rfl, _, _, rfl, _, _, rfl, rfl, rfl, ?_⟩
        refine ⟨_, rfl, _, rfl, _, rfl, d, _, rfl, (by have z := DGet.k (k := Sum.inr (S y.1)) (s1 _ _ ed); rw [n1] at z; exact z), y.2, _, rfl, _, rfl, .inl ⟨num y.1, rfl, n2, fun H3 s3 => ?_⟩⟩
        refine ⟨_, s3 _ _ hz, by rw [List.length_map, List.length_take]; exact small1000 (by have := g.s.le; omega), same_mut (s1.trans s3) hD, ?_⟩
        rw [upd_same, List.take_succ, hy, List.map_append]
        rfl
      · obtain ⟨s1, hz⟩ := z
        rw [List.take_length] at hz
        obtain ⟨y0, ys, rfl, hjl⟩ := g.cons
        refine ⟨_, rfl, x, c.CL, dx, _, V.str (S hd), rfl, s1 _ _ lp.i, T.clL, T.naL__head, rfl, _, rfl, _, rfl, x, c.CL, dx, _, V.ref B, rfl, s1 _ _ lp.i, T.clL, T.naL__joints, rfl, ?_⟩
        have fl : ∀ y ∈ y0 :: ys, (numT y.2 (num y.1)).length ≤ 1000 := fun y hy => Nat.le_trans (numT_len _ (hn y hy).2) (by decide)
        refine ⟨D, B, js, numT y0.2 (num y0.1), ys.map (fun x => numT x.2 (num x.1)), rfl, SqL.of (by rw [hz, List.map_cons, List.map_cons, List.map_map]; rfl), SqT.sm lp.b s1, by rw [List.length_map]; exact hjl, by have := g.jl; omega, fl y0 (List.mem_cons_self ..), fun z hz' => ?_, fun H2 s2 => ?_⟩
        · obtain ⟨y, hy, rfl⟩ := List.mem_map.mp hz'
          exact fl y (List.mem_cons_of_mem _ hy)
        · refine ⟨hd, _, rfl, rfl, ?_, ?_⟩
          · have tl := tailT_len (ds := js) (xs := ys.map fun x => numT x.2 (num x.1)) (n := 1000) fun z hz' => by
              obtain ⟨y, hy, rfl⟩ := List.mem_map.mp hz'
              exact fl y (List.mem_cons_of_mem _ hy)
            have := fl y0 (List.mem_cons_self ..)
            have := g.jl
            have := g.hl
            unfold joinT
            simp only [List.length_append, List.length_nil]
            omega
          · rw [join_head]
            exact q H2 (s1.trans s2)
end
section
variable {P : Program} {w : World} {K : PySem.W.Frag} {mg : Str → Option Value} {base : Heap} {c : Cs}
/-! ### a text read by a label -/
theorem pe_cP {X : Cx} {j k : Nat} {x : Str} {sp : Sp} {p pos : Pos} {e : Expr} {es : List Expr} {t : TA} {E : XK} (c : Cal X.prog X.w X.K X.mg X.base (L2.CX X.prog X.w) k x sp) (hr : Room j X.A) (hk : k ≤ j) (hg : Gl X x) (px : Passes (L2.CX X.prog X.w) X E) (ha : PA X (e :: es) t)
    (hdb : (x == ("__debug__" : Str)) = false := by decide) (he : starEach (e :: es) X.env = (false, eval e X.env) :: starEach es X.env := by rfl) (hpl : (backTo pos (starEach es X.env)).any (·.1) = false := by rfl) : PE X (.Call (.Name x p) (e :: es) [] pos) (tCall sp [] E t) := by
  obtain ⟨f, fd, ps, F, hm, kp, b⟩ := c.ex
  exact pe_call F (hr.mono hk) hg hm kp b .nil px ha hdb he hpl
theorem partL_len : ∀ (js l : List Nat), (partL js l).length = js.length + 1 ∧ ∀ p ∈ partL js l, p.length ≤ l.length
  | [], l => ⟨rfl, fun p hp => by rw [List.mem_singleton.mp (show p ∈ [l] from hp)]; exact Nat.le_refl _⟩
  | d :: ds, l => by
    obtain ⟨h1, h2⟩ := partL_len ds (cutAt d l).2
    refine ⟨by simp only [partL, List.length_cons, h1], fun p hp => ?_⟩
    rcases List.mem_cons.mp (show p ∈ (cutAt d l).1 :: partL ds (cutAt d l).2 from hp) with rfl | hp
    · exact (cut_len d l).1
    · exact Nat.le_trans (h2 p hp) (cut_len d l).2
/-- the slots with their pieces -/
def pairsR (hd : List Nat) (sl : List (List Nat × Bool)) (js l : List Nat) : List ((List Nat × Bool) × List Nat) := sl.zip (partL js (l.drop hd.length))
def okP (q : (List Nat × Bool) × List Nat) : Bool := rdOk q.1.2 q.2
def kvP (q : (List Nat × Bool) × List Nat) : Key × V := (Sum.inr (S q.1.1), .int (rdVal q.1.2 q.2))
/-- a text of the label -/
def readOk (hd : List Nat) (sl : List (List Nat × Bool)) (js l : List Nat) : Bool := (l.take hd.length == hd) && (pairsR hd sl js l).all okP
def readKv (hd : List Nat) (sl : List (List Nat × Bool)) (js l : List Nat) : List (Key × V) := (pairsR hd sl js l).map kvP
theorem S_inj {a b : List Nat} (h : S a = S b) : a = b := S_beq_iff.mp (congrArg V.str h)
theorem kv_new {sl : List (List Nat × Bool)} {ps : List (List Nat)} (nd : (sl.map (·.1)).Nodup) {i : Nat} {y : List Nat × Bool} (hy : sl[i]? = some y) : valV (((sl.zip ps).take i).map kvP) (Sum.inr (S y.1)) = none := by
  cases e : valV (((sl.zip ps).take i).map kvP) (Sum.inr (S y.1)) with
  | none => rfl
  | some v =>
    have m := valV_in e
    rw [List.map_map] at m
    obtain ⟨q, hq, eq⟩ := List.mem_map.mp m
    obtain ⟨j, hj⟩ := List.mem_iff_getElem?.mp hq
    rw [List.getElem?_take] at hj
    by_cases hji : j < i
    · rw [if_pos hji] at hj
      have hs : sl[j]? = some q.1 := by
        rw [List.getElem?_zip_eq_some] at hj
        exact hj.1
      have e1 : q.1.1 = y.1 := S_inj (Sum.inr.inj eq)
      obtain ⟨hjl, ej⟩ := List.getElem?_eq_some_iff.mp hs
      obtain ⟨hil, ei⟩ := List.getElem?_eq_some_iff.mp hy
      refine absurd ?_ (List.pairwise_iff_getElem.mp nd j i (by rw [List.length_map]; exact hjl) (by rw [List.length_map]; exact hil) hji)
      rw [List.getElem_map, List.getElem_map, ej, ei]
      exact e1
    · rw [if_neg hji] at hj
      cases hj
abbrev sLrd : Stmt := inClass (top 25) 7
theorem scLrd : FnScope ["self", "text", "pieces", "piece", "counter", "form"] ["self", "text"] (defScope sLrd) := ⟨rfl, rfl, rfl, by decide +kernel, rfl, by decide +kernel, by decide +kernel⟩
def spLRd (K : PySem.W.Frag) (CL : Addr) : Sp := fun vs H Q _ => ∃ (x : Addr) (hd : List Nat) (sl : List (List Nat × Bool)) (js l : List Nat), vs = [.ref x, .str (S l)] ∧ LabAt K CL H x hd sl js ∧ GoodLab hd sl js ∧ l.length ≤ 100000 ∧
  (readOk hd sl js l = true → ∀ (p : Addr) (H' : Hp), Same H H' → H p = none → H' p = some (.dK (readKv hd sl js l)) → Q (.ref p) H') ∧ (readOk hd sl js l = false → ∀ H', Same H H' → Q .non H')
theorem ok_lrd (T : Txt K mg c) : FnOk P w K mg base CX0 5 c.mRd c.fdRd ["self", "text"] (spLRd K c.CL) := by
  have cRn : Cal P w K mg base (L2.CX P w) 4 "read_number" (spRnu c.CT) := cal_of T.d_read_number fun f fd F => ok_rnu T T.d_read_figures T.d_read_letters F
  have cPt : Cal P w K mg base CX0 1 "parted" (spPrt K) := cal_of T.d_parted fun f fd F => ok_prt T F
  refine T.FRd.ok scLrd (fun vs H Q E h => ?_) (fun cdv A' outer s H vs Q E hr h => ?_)
  · obtain ⟨x, hd, sl, js, l, rfl, _⟩ := h
    rfl
  · obtain ⟨x, hd, sl, js, l, rfl, ⟨dx, A, B, ts, lp⟩, g, hl, q1, q2⟩ := h
    refine ⟨_, (pss_cons (ps_if (pt_not (pt_val (pe_bm PySem.F.plainAttrs_str PySem.F.slot_str_startswith PySem.F.type_str_startswith mt_startsS (pv 1) (pa_cons (pe_fld (pv 0) rfl) pa_nil)))) (pss_one (ps_ret pe_non)) pss_nil)
  (pss_cons (ps_set (i := 2) scLrd.nd rfl (Or.inl rfl) (pe_c cPt hr (by decide) rfl (pa_cons (pe_slice sl_from (pv 1) (po_some (pe_callB call_lenS (by rfl) T.z_len (by decide +kernel) (pa_cons (pe_fld (pv 0) rfl) pa_nil))) po_none) (pa_cons (pe_fld (pv 0) rfl) pa_nil))))
  (pss_one (ps_try_only rfl rfl ⟨rfl, by decide, .inl T.xT.gC⟩ takes0 (fun W pn xe tk _ => pss_one (ps_ret (pe_dcX (own := [("piece", 3), ("counter", 4), ("form", 5)]) (g := (gTup K 2 (gCons (gTup K 2 (gCons (gName 4) (gCons (gName 5) gNil))) (gCons (gName 3) gNil)))) (tt := tYes) rfl tk rfl rfl scLrd.nd (pi_zipMK (K := K) rfl (by rfl) T.z_zip (pa_cons (pe_fldK (K := K) rfl (pv 0) rfl) (pa_cons (pv 2) pa_nil))) (blkOk_by (N := ["self", "text", "pieces", "piece", "counter", "form"]) (sc := defScope sLrd) (by decide +kernel)) (fun _ _ _ _ _ _ => (pg_tup (by rfl) (pgs_cons (pg_tup (by rfl) (pgs_cons (pg_name (i := 4) scLrd.nd rfl (Or.inl rfl)) (pgs_cons (pg_name (i := 5) scLrd.nd rfl (Or.inl rfl)) pgs_nil))) (pgs_cons (pg_name (i := 3) scLrd.nd rfl (Or.inl rfl)) pgs_nil)))) (fun _ _ _ _ _ _ => pts_nil) (fun _ _ _ _ _ _ _ _ => (pv 4)) (fun _ _ _ _ _ _ _ px => (pe_cP cRn hr (by decide) rfl px (pa_cons (pv 5) (pa_cons (pv 3) pa_nil))))))) (fun a oe cls d pn _ _ => pss_one (ps_ret pe_non)))))), ?_⟩
    refine ⟨_, rfl, rfl, _, rfl, x, c.CL, dx, _, V.str (S hd), rfl, lp.i, T.clL, T.naL__head, rfl, l, hd, rfl, rfl, _, rfl, ?_⟩
    by_cases e0 : (l.take hd.length == hd) = true
    case neg =>
      rw [Bool.not_eq_true] at e0
      rw [e0]
      refine if_true_of rfl ?_
      exact q2 (by unfold readOk; rw [e0, Bool.false_and]) H fun _ _ e => e
    rw [e0]
    refine if_false_of rfl ?_
    have er : readOk hd sl js l = (pairsR hd sl js l).all okP := by unfold readOk; rw [e0, Bool.true_and]
    rw [er] at q1 q2
    refine ⟨_, rfl, _, rfl, x, c.CL, dx, _, V.str (S hd), rfl, lp.i, T.clL, T.naL__head, rfl, hd, rfl, by have := g.hl; omega, _, rfl, l, _, rfl, rfl, rfl, Int.natCast_nonneg _, by omega, _, rfl, x, c.CL, dx, _, V.ref B, rfl, lp.i, T.clL, T.naL__joints, rfl, ?_⟩
    rw [Int.toNat_natCast]
    have pl := partL_len js (l.drop hd.length)
    refine ⟨l.drop hd.length, js, B, rfl, lp.b, by rw [List.length_drop]; omega, by have := g.jl; omega, fun pp H1 s1 hpp ep => ?_⟩
    unfold pairsR at q1 q2
    unfold readKv pairsR at q1
    generalize partL js (l.drop hd.length) = ps at pl q1 q2 ep
    have hps : ps.length = sl.length := by rw [pl.1]; exact g.l
    refine ⟨_, rfl, x, c.CL, dx, _, V.ref A, rfl, s1 _ _ lp.i, T.clL, T.naL__shown, rfl, _, rfl, A, pp, ts.map V.ref, ps.map (fun x => V.str (S x)), rfl, SqT.sm lp.a s1, SqL.of ep, fun D hD => ?_⟩
    have nD : H D = none := s1.free hD
    refine dc_at (n := sl.length) (Y := yZip (ts.map V.ref) (ps.map fun x => V.str (S x))) (fun i H' => Same H1 H' ∧ H' D = some (.dK (((sl.zip ps).take i).map kvP)) ∧ ((sl.zip ps).take i).all okP = true) ⟨same_new hD, upd_same, rfl⟩ (fun i H' hi z => ?_) (fun i v H2 H3 hi yy z => ?_) (fun H' z => ?_)
    · exact walks_z (SqT.sm (SqT.sm lp.a s1) z.1) (SqL.of (z.1 _ _ ep)) (by rw [List.length_map, lp.t.1]) (by rw [List.length_map, hps])
    · obtain ⟨T0, v1, v2, rfl, h0, rfl, hv1, hv2⟩ := yy
      obtain ⟨s2, hz, ha⟩ := z
      obtain ⟨t, y, rfl, hy, et⟩ := slot_at ((lp.t.sm s1).sm s2) hv1
      rw [List.getElem?_map] at hv2
      obtain ⟨pc, hpc, rfl⟩ := Option.map_eq_some_iff.mp hv2
      have tn : t ≠ T0 := fun z => by rw [z, h0] at et; cases et
      have dn : D ≠ T0 := fun z => by rw [← z, hz] at h0; cases h0
      have hpl : pc.length ≤ 100000 := by
        have := pl.2 pc (List.mem_of_getElem? hpc)
        rw [List.length_drop] at this
        omega
      have hq : (sl.zip ps)[i]? = some (y, pc) := by rw [List.getElem?_zip_eq_some]; exact ⟨hy, hpc⟩
      refine ⟨T0, _, rfl, SqT.of upd_same, rfl, _, _, rfl, t, _, rfl, SqT.of (by rw [upd_ne tn]; exact et), rfl, _, _, rfl, _, _, rfl, rfl, _, _, rfl, rfl, rfl, ?_⟩
      refine ⟨_, rfl, _, rfl, _, rfl, y.2, _, rfl, pc, rfl, hpl, fun ok => ?_, fun no => ?_⟩
      · refine ⟨_, Sum.inr (S y.1), rfl, by rw [upd_ne dn]; exact hz, by rw [List.length_map, List.length_take]; exact small1000 (by have := g.s.le; rw [List.length_zip]; omega), same_mut (s2.trans (same_new h0)) hD, ?_, ?_⟩
        · rw [upd_same, putK_new _ (kv_new g.s.nd hy), List.take_succ, hq, List.map_append]
          rfl
        · rw [List.take_succ, hq, List.all_append, ha]
          simp [okP, ok]
      · refine ⟨true, T.xT.me, fun _ a ha' => ?_, fun z => Bool.noConfusion z⟩
        refine q2 ?_ _ (s1.trans (s2.trans (same_new h0)))
        rw [Bool.eq_false_iff]
        intro z
        have := List.all_eq_true.mp z (y, pc) (List.mem_of_getElem? hq)
        unfold okP at this
        rw [no] at this
        cases this
    · obtain ⟨s2, hz, ha⟩ := z
      have hzl : (sl.zip ps).length ≤ sl.length := by rw [List.length_zip]; omega
      rw [List.take_of_length_le hzl] at hz ha
      exact q1 ha D H' (s1.trans s2) nD hz
end
section
variable {P : Program} {w : World} {K : PySem.W.Frag} {mg : Str → Option Value} {base : Heap} {c : Cs}
/-! ### the label of a text -/
theorem cut_app {d : Nat} : ∀ {u : List Nat} (r : List Nat), d ∉ u → cutAt d (u ++ [d] ++ r) = (u, r)
  | [], r, _ => by simp [cutAt]
  | x :: u, r, h => by
    have n : x ≠ d := fun e => h (by simp [e])
    have z := cut_app (u := u) r fun z => h (List.mem_cons_of_mem _ z)
    show cutAt d (x :: (u ++ [d] ++ r)) = _
    unfold cutAt
    rw [if_neg n, z]
theorem cut_non {d : Nat} : ∀ {u : List Nat}, d ∉ u → cutAt d u = (u, [])
  | [], _ => rfl
  | x :: u, h => by
    have n : x ≠ d := fun e => h (by simp [e])
    unfold cutAt
    rw [if_neg n, cut_non fun z => h (List.mem_cons_of_mem _ z)]
def fmL (b : Bool) : List Nat := if b = true then [58, 97] else []
/-- what stands behind a brace -/
def pcL (x : List Nat × Bool) (r : List Nat) : List Nat := x.1 ++ fmL x.2 ++ [125] ++ r
theorem face_eq (x : List Nat × Bool) : faceL x.1 x.2 = [123] ++ (x.1 ++ fmL x.2 ++ [125]) := by
  unfold faceL fmL
  cases x.2 <;> simp
def piecesT : List (List Nat × Bool) → List Nat → List (List Nat)
  | [], _ => []
  | x :: xs, [] => pcL x [] :: piecesT xs []
  | x :: xs, d :: ds => pcL x [d] :: piecesT xs ds
theorem pieces_at : ∀ {sl : List (List Nat × Bool)} {js : List Nat} {i : Nat} {y : List Nat × Bool}, sl[i]? = some y → (piecesT sl js)[i]? = some (pcL y (js[i]?.toList))
  | [], _, _, _, h => by simp at h
  | x :: xs, [], 0, y, h => by simp at h; subst h; rfl
  | x :: xs, d :: ds, 0, y, h => by simp at h; subst h; rfl
  | x :: xs, [], i + 1, y, h => by
    have r := pieces_at (sl := xs) (js := []) (i := i) (y := y) (by simpa using h)
    simpa [piecesT] using r
  | x :: xs, d :: ds, i + 1, y, h => by
    have r := pieces_at (sl := xs) (js := ds) (i := i) (y := y) (by simpa using h)
    simpa [piecesT] using r
theorem pieces_len : ∀ (sl : List (List Nat × Bool)) (js : List Nat), (piecesT sl js).length = sl.length
  | [], _ => rfl
  | x :: xs, [] => by simp [piecesT, pieces_len xs []]
  | x :: xs, d :: ds => by simp [piecesT, pieces_len xs ds]
/-- none of the marks in a name -/
def Pure (l : List Nat) : Prop := 123 ∉ l ∧ 125 ∉ l ∧ 58 ∉ l
theorem pure_name {l : List Nat} (h : nameL l = true) : Pure l := by
  unfold nameL at h
  simp only [Bool.and_eq_true, List.all_eq_true] at h
  refine ⟨fun z => ?_, fun z => ?_, fun z => ?_⟩
  all_goals
    have q := h.2 _ z
    revert q
    decide
theorem split_face : ∀ {xs : List (List Nat × Bool)} {js : List Nat} {x : List Nat × Bool}, js.length = xs.length → (∀ y ∈ x :: xs, Pure y.1) → (∀ d ∈ js, d ≠ 123) → splL 123 (x.1 ++ fmL x.2 ++ [125] ++ tailT js (xs.map fun y => faceL y.1 y.2)) = piecesT (x :: xs) js
  | [], [], x, _, hp, _ => by
    have p := hp x (List.mem_cons_self ..)
    have hno : (123 : Nat) ∉ x.1 ++ fmL x.2 ++ [125] ++ [] := by
      unfold fmL
      cases x.2 <;> simp [p.1]
    show splL 123 (x.1 ++ fmL x.2 ++ [125] ++ []) = _
    rw [splL_none hno]
    rfl
  | [], d :: ds, x, h, _, _ => by simp at h
  | y :: ys, [], x, h, _, _ => by simp at h
  | y :: ys, d :: ds, x, h, hp, hj => by
    have p := hp x (List.mem_cons_self ..)
    have r := split_face (xs := ys) (js := ds) (x := y) (by simpa using h) (fun z hz => hp z (List.mem_cons_of_mem _ hz)) fun z hz => hj z (List.mem_cons_of_mem _ hz)
    have hno : (123 : Nat) ∉ x.1 ++ fmL x.2 ++ [125] ++ [d] := by
      have := hj d (List.mem_cons_self ..)
      unfold fmL
      cases x.2 <;> simp [p.1] <;> exact fun z => this z.symm
    have e : x.1 ++ fmL x.2 ++ [125] ++ tailT (d :: ds) ((y :: ys).map fun y => faceL y.1 y.2) = (x.1 ++ fmL x.2 ++ [125] ++ [d]) ++ [123] ++ (y.1 ++ fmL y.2 ++ [125] ++ tailT ds (ys.map fun y => faceL y.1 y.2)) := by
      simp only [List.map_cons, tailT, face_eq, List.append_assoc, List.cons_append, List.nil_append]
    rw [e, splL_app _ hno, r]
    rfl
theorem splL_mem (d : Nat) : ∀ {l : List Nat} {c : Nat}, c ∈ l → c = d ∨ ∃ p ∈ splL d l, c ∈ p
  | x :: r, c, h => by
    rcases List.mem_cons.mp h with rfl | h
    · by_cases e : c = d
      · exact .inl e
      · refine .inr ?_
        unfold splL
        rw [if_neg e]
        split
        · exact ⟨[c], by simp, by simp⟩
        · exact ⟨_, List.mem_cons_self .., List.mem_cons_self ..⟩
    · rcases splL_mem d h with e | ⟨p, hp, hc⟩
      · exact .inl e
      · refine .inr ?_
        unfold splL
        split
        · exact ⟨p, List.mem_cons_of_mem _ hp, hc⟩
        · split
          · rename_i e
            rw [e] at hp
            cases hp
          · rename_i e
            rw [e] at hp
            rcases List.mem_cons.mp hp with rfl | hp
            · exact ⟨_, List.mem_cons_self .., List.mem_cons_of_mem _ hc⟩
            · exact ⟨p, List.mem_cons_of_mem _ hp, hc⟩
theorem head_chars {hd : List Nat} (h : headB hd = true) : ∀ c ∈ hd, c = 32 ∨ ltr c = true := fun c hc => by
  unfold headB at h
  simp only [Bool.and_eq_true, decide_eq_true_eq, List.all_eq_true] at h
  rcases splL_mem 32 hc with e | ⟨p, hp, hcp⟩
  · exact .inl e
  · refine .inr ?_
    have ne := splL_ne 32 hd
    have e := List.dropLast_concat_getLast ne
    rw [← e] at hp
    rcases List.mem_append.mp hp with hp | hp
    · have := h.2.2 p hp
      unfold wordB at this
      simp only [Bool.and_eq_true, List.all_eq_true] at this
      exact this.2 c hcp
    · rw [List.mem_singleton] at hp
      have l := h.2.1
      rw [List.getLast?_eq_some_getLast ne] at l
      rw [hp, Option.some.inj l] at hcp
      cases hcp
theorem face_split {hd : List Nat} {sl : List (List Nat × Bool)} {js : List Nat} (g : GoodLab hd sl js) : splL 123 (faceT hd sl js) = hd :: piecesT sl js := by
  obtain ⟨x, xs, rfl, hl⟩ := g.cons
  have hno : (123 : Nat) ∉ hd := fun z => by
    rcases head_chars g.h 123 z with e | e
    · cases e
    · revert e; decide
  have e : faceT hd (x :: xs) js = hd ++ [123] ++ (x.1 ++ fmL x.2 ++ [125] ++ tailT js (xs.map fun y => faceL y.1 y.2)) := by
    unfold faceT joinT
    simp only [List.map_cons, face_eq, List.append_assoc, List.cons_append, List.nil_append]
  rw [e, splL_app _ hno, split_face hl (fun y hy => pure_name (g.s.nm y hy)) fun d hd' => ?_]
  have := List.all_eq_true.mp g.j d hd'
  intro z
  subst z
  revert this
  decide
theorem cut_pc {x : List Nat × Bool} (p : Pure x.1) (r : List Nat) : cutAt 125 (pcL x r) = (x.1 ++ fmL x.2, r) := by
  unfold pcL
  refine cut_app r ?_
  unfold fmL
  cases x.2 <;> simp [p.2.1]
theorem piece_c {x : List Nat × Bool} (p : Pure x.1) (r : List Nat) : pieceC (pcL x r) = x.1 ∧ pieceB (pcL x r) = x.2 := by
  unfold pieceC pieceB
  rw [cut_pc p]
  obtain ⟨a, b⟩ := x
  cases b with
  | true =>
    have e : a ++ fmL true = a ++ [58] ++ [97] := by unfold fmL; simp
    show (cutAt 58 (a ++ fmL true)).1 = a ∧ decide ((cutAt 58 (a ++ fmL true)).2 = [97]) = true
    rw [e, cut_app _ p.2.2]
    exact ⟨rfl, rfl⟩
  | false =>
    have e : a ++ fmL false = a := by unfold fmL; simp
    show (cutAt 58 (a ++ fmL false)).1 = a ∧ decide ((cutAt 58 (a ++ fmL false)).2 = [97]) = false
    rw [e, cut_non p.2.2]
    exact ⟨rfl, rfl⟩
theorem SlotsAt.lst {H : Hp} {D : Addr} {xs : List V} {o : HO} {ts : List Addr} {sl : List (List Nat × Bool)} (hD : H D = some (.lst xs)) (h : SlotsAt H ts sl) : SlotsAt (upd H D o) ts sl :=
  ⟨h.1, fun i t y e1 e2 => by have e := h.2 i t y e1 e2; rw [upd_ne (fun z => by rw [z, hD] at e; cases e)]; exact e⟩
theorem SlotsAt.snoc {H : Hp} {ts : List Addr} {sl : List (List Nat × Bool)} {i : Nat} {t : Addr} {y : List Nat × Bool} (h : SlotsAt H ts (sl.take i)) (hy : sl[i]? = some y) (e : H t = some (.tup [.str (S y.1), .str (S (formL y.2))])) : SlotsAt H (ts ++ [t]) (sl.take (i + 1)) := by
  have hi := (List.getElem?_eq_some_iff.mp hy).1
  have hl : ts.length = i := by rw [h.1, List.length_take]; omega
  rw [List.take_succ, hy]
  refine ⟨by rw [List.length_append, List.length_append, h.1]; rfl, fun j u z e1 e2 => ?_⟩
  by_cases hj : j < ts.length
  · rw [List.getElem?_append_left hj] at e1
    rw [List.getElem?_append_left (by rw [← h.1]; exact hj)] at e2
    exact h.2 j u z e1 e2
  · have hj2 : j = ts.length := by
      have := (List.getElem?_eq_some_iff.mp e1).1
      rw [List.length_append, List.length_singleton] at this
      omega
    subst hj2
    rw [List.getElem?_append_right (Nat.le_refl _), Nat.sub_self] at e1
    rw [List.getElem?_append_right (by rw [← h.1]; exact Nat.le_refl _), ← h.1, Nat.sub_self] at e2
    cases e1
    cases e2
    exact e
theorem faceT_len {hd : List Nat} {sl : List (List Nat × Bool)} {js : List Nat} (g : GoodLab hd sl js) : (faceT hd sl js).length ≤ 1000 := by
  have gl := g.hl
  have gj := g.jl
  have gs := g.s.nm
  obtain ⟨x, xs, rfl, hl⟩ := g.cons
  have fl : ∀ y ∈ x :: xs, (faceL y.1 y.2).length ≤ 12 := fun y hy => by
    have := faceL_len y.1 y.2
    have := nameL_len (gs y hy)
    omega
  have tl := tailT_len (ds := js) (xs := xs.map fun y => faceL y.1 y.2) (n := 12) fun z hz => by
    obtain ⟨y, hy, rfl⟩ := List.mem_map.mp hz
    exact fl y (List.mem_cons_of_mem _ hy)
  have := fl x (List.mem_cons_self ..)
  unfold faceT joinT
  simp only [List.map_cons, List.length_append]
  omega
/-- how __init__ binds: all four; the last by its default -/
theorem bindI3 (T : Txt K mg c) : Binds K c.fdIL ["self", "head", "shown", "joints"] [] := by
  obtain ⟨ds, r, b⟩ := FunD.binds1 (ps := ["self", "head", "shown", "joints"]) T.FIL 4 1 (by simp) rfl fun _ _ _ _ _ _ _ us its hu hi => match us, hu, its, hi with
    | [_, _, _, _], _, [_], _ => ⟨_, rfl, rfl⟩
  cases r
  exact b
theorem bindI2 (T : Txt K mg c) : ∃ ds, Vals [V.ref c.dL] ds ∧ Binds K c.fdIL ["self", "head", "shown", "joints"] ds :=
  FunD.binds1 (ps := ["self", "head", "shown", "joints"]) T.FIL 3 0 (by simp) rfl fun _ _ _ _ _ _ _ us its hu hi => match us, hu, its, hi with
    | [_, _, _], _, [_], _ => ⟨_, rfl, rfl⟩
abbrev sRlb : Stmt := top 26
theorem scRlb : FnScope ["text", "head", "pieces", "shown", "joints", "label", "piece"] ["text"] (defScope sRlb) := ⟨rfl, rfl, rfl, by decide +kernel, rfl, by decide +kernel, by decide +kernel⟩
def spRlb (K : PySem.W.Frag) (CL : Addr) : Sp := fun vs H Q _ => ∃ (hd : List Nat) (sl : List (List Nat × Bool)) (js : List Nat), vs = [.str (S (faceT hd sl js))] ∧ GoodLab hd sl js ∧ ∀ (y : Addr) (H' : Hp), Same H H' → H y = none → LabAt K CL H' y hd sl js → Q (.ref y) H'
theorem ok_rlb (T : Txt K mg c) {f : Addr} {fd : FuncData} (F : Fun K "read_label" "read_label" sRlb f fd) : FnOk P w K mg base CX0 6 f fd ["text"] (spRlb K c.CL) := by
  have cRs : Cal P w K mg base CX0 1 "read_shown" spRsh := cal_of T.d_read_shown fun f fd F => ok_rsh T F
  have mI : FnOk P w K mg base CX0 4 c.iL c.fdIL ["self", "head", "shown", "joints"] (spLin K c.CL) := ok_lin T
  have mTx : FnOk P w K mg base CX0 2 c.mTx c.fdTx ["self"] (spTx K c.CL) := ok_ltx T
  have bI3 := bindI3 T
  refine F.ok scRlb (fun vs H Q E h => ?_) (fun cdv A' outer s H vs Q E hr h => ?_)
  · obtain ⟨hd, sl, js, rfl, _⟩ := h
    rfl
  · obtain ⟨hd, sl, js, rfl, g, q⟩ := h
    refine ⟨_, (pss_cons (ps_asg (pe_bm PySem.F.plainAttrs_str PySem.F.slot_str_split PySem.F.type_str_split mt_split (pv 0) (pa_cons (pe_strS [123] (by decide +kernel)) pa_nil)) (pg_head rfl (pgs_cons (pg_name (i := 1) scRlb.nd rfl (Or.inl rfl)) (pgs_star (pg_name (i := 2) scRlb.nd rfl (Or.inl rfl)) pgs_nil))))
  (pss_cons (ps_setLc (i := 3) (own := [("piece", 6)]) (g := (gName 6)) (tt := tYes) rfl scRlb.nd rfl rfl (sw_true rfl rfl rfl (by decide +kernel)) (pi_list (pv 2)) (blkOk_by (N := ["text", "head", "pieces", "shown", "joints", "label", "piece"]) (sc := defScope sRlb) (by decide +kernel)) (fun _ _ _ _ _ => (pg_name (i := 6) scRlb.nd rfl (Or.inl rfl))) (fun _ _ _ _ _ => pts_nil) (fun _ _ _ _ _ => (pe_c cRs hr (by decide) rfl (pa_cons (pv 6) pa_nil))))
  (pss_cons (ps_setLc (i := 4) (own := [("piece", 6)]) (g := (gName 6)) (tt := tYes) rfl scRlb.nd rfl rfl (sw_true rfl rfl rfl (by decide +kernel)) (pi_list (pe_slice sl_list (pv 2) po_none (po_some (pe_un un_neg pe_int)))) (blkOk_by (N := ["text", "head", "pieces", "shown", "joints", "label", "piece"]) (sc := defScope sRlb) (by decide +kernel)) (fun _ _ _ _ _ => (pg_name (i := 6) scRlb.nd rfl (Or.inl rfl))) (fun _ _ _ _ _ => pts_nil) (fun _ _ _ _ _ => (pe_ix (show IxR _ (rIxT K) from ix_tup) (pe_bmK (K := K) rfl PySem.F.plainAttrs_str PySem.F.slot_str_partition PySem.F.type_str_partition mt_partition (pv 6) (pa_cons (pe_strS [125] (by decide +kernel)) pa_nil)) pe_int (fun _ _ => rfl))))
  (pss_cons (ps_try_thru0 (pss_one (ps_set (i := 5) scRlb.nd rfl (Or.inl rfl) (pe_make T.mkL mI (hr.mono (by decide)) rfl T.gCL bI3 .nil pass0 (pa_cons (pv 1) (pa_cons (pv 3) (pa_cons (pv 4) pa_nil)))))))
  (pss_cons (ps_if (pt_cmpR op_ne (pe_meth0 (pv 5) T.clL T.MTx mTx (hr.mono (by decide)) T.bTx .nil pass0) (pv 0) (nomark _)) (pss_one ps_never) pss_nil)
  (pss_one (ps_ret (pv 5)))))))), ?_⟩
    have fl := faceT_len g
    refine ⟨_, rfl, rfl, S (faceT hd sl js), S [123], rfl, rfl, (by rw [S_len]; rfl), (by rw [S_len, sizeLine_eq]; omega), fun wl hwl => ?_⟩
    rw [split_one (by decide), face_split g, List.map_map]
    have s1 := same_new (o := .lst ((hd :: piecesT sl js).map (V.str ∘ S))) hwl
    refine ⟨wl, V.str (S hd), (piecesT sl js).map (V.str ∘ S), rfl, SqL.of upd_same, by rw [List.length_map, pieces_len]; have := g.s.le; omega, fun pl hpl => ?_⟩
    have s2 := s1.trans (same_new (o := .lst ((piecesT sl js).map (V.str ∘ S))) hpl)
    have ep := upd_same (a := pl) (o := HO.lst ((piecesT sl js).map (V.str ∘ S))) (H := upd H wl (.lst ((hd :: piecesT sl js).map (V.str ∘ S))))
    generalize upd (upd H wl (.lst ((hd :: piecesT sl js).map (V.str ∘ S)))) pl (.lst ((piecesT sl js).map (V.str ∘ S))) = H2 at s2 ep ⊢
    refine ⟨_, _, rfl, _, _, rfl, rfl, ?_⟩
    -- shown
    refine ⟨_, rfl, pl, rfl, ⟨_, SqL.of ep⟩, fun D hD => lc_at (n := sl.length) (Y := yIt ((piecesT sl js).map (V.str ∘ S))) (fun i H' => Same H2 H' ∧ ∃ ts, H' D = some (.lst (ts.map V.ref)) ∧ SlotsAt H' ts (sl.take i)) ⟨same_new hD, [], upd_same, rfl, fun i t x e => by simp at e⟩ (fun i H' hi z => ?_) (fun i v H3 H1 hi yy z => ?_) (fun H' z => ?_)⟩
    · have w := walks_l (K := K) (i := i) (SqL.of (z.1 _ _ ep))
      rw [List.length_map, pieces_len] at w
      exact w
    · obtain ⟨rfl, hv⟩ := yy
      obtain ⟨s3, ts, hz, hs⟩ := z
      have hy : sl[i]? = some sl[i] := List.getElem?_eq_getElem hi
      rw [List.getElem?_map, pieces_at hy] at hv
      cases hv
      have pn := pure_name (g.s.nm sl[i] (List.getElem_mem hi))
      have hn := nameL_len (g.s.nm sl[i] (List.getElem_mem hi))
      obtain ⟨c1, c2⟩ := piece_c pn (js[i]?.toList)
      have pcl : (pcL sl[i] (js[i]?.toList)).length ≤ 1000000 := by
        have h1 : (js[i]?.toList).length ≤ 1 := by cases js[i]? <;> simp
        have h2 : (fmL sl[i].2).length ≤ 2 := by unfold fmL; cases sl[i].2 <;> simp
        unfold pcL
        simp only [List.length_append, List.length_cons, List.length_nil]
        omega
      refine ⟨rfl, _, rfl, pcL sl[i] (js[i]?.toList), rfl, pcl, fun p H4 s4 np ept => ?_⟩
      rw [c1, c2] at ept
      have hz4 := s4 _ _ hz
      refine ⟨_, hz4, by rw [List.length_map, hs.1, List.length_take]; exact small1000 (by have := g.s.le; omega), same_mut (s3.trans s4) hD, ts ++ [p], by rw [upd_same, List.map_append]; rfl, ?_⟩
      refine SlotsAt.snoc ((hs.sm s4).lst hz4) hy ?_
      have pd : p ≠ D := fun z => by rw [z, hz4] at ept; cases ept
      rw [upd_ne pd]
      exact ept
    obtain ⟨s3, ts, hz, hs⟩ := z
    rw [List.take_length] at hs
    have s13 := s2.trans s3
    -- joints
    refine ⟨_, rfl, _, rfl, _, rfl, pl, _, rfl, SqL.of (s3 _ _ ep), fun il hil => ?_⟩
    have ec : cutV ((piecesT sl js).map (V.str ∘ S)) none (some (-1)) = ((piecesT sl js).dropLast).map (V.str ∘ S) := by rw [cut_init, List.map_dropLast]
    rw [ec]
    have s4 := same_new (o := .lst (((piecesT sl js).dropLast).map (V.str ∘ S))) hil
    have ei := upd_same (a := il) (o := HO.lst (((piecesT sl js).dropLast).map (V.str ∘ S))) (H := H')
    generalize upd H' il (.lst (((piecesT sl js).dropLast).map (V.str ∘ S))) = H5 at s4 ei ⊢
    have dl : ((piecesT sl js).dropLast).length = js.length := by rw [List.length_dropLast, pieces_len]; have := g.l; omega
    refine ⟨il, rfl, ⟨_, SqL.of ei⟩, fun D2 hD2 => lc_at (n := js.length) (Y := yIt (((piecesT sl js).dropLast).map (V.str ∘ S))) (fun i H' => Same H5 H' ∧ H' D2 = some (.lst ((js.take i).map fun d => V.str (S [d])))) ⟨same_new hD2, upd_same⟩ (fun i H' hi z => ?_) (fun i v H3 H1 hi yy z => ?_) (fun H6 z => ?_)⟩
    · have w := walks_l (K := K) (i := i) (SqL.of (z.1 _ _ ei))
      rw [List.length_map, dl] at w
      exact w
    · obtain ⟨rfl, hv⟩ := yy
      obtain ⟨s5, hz2⟩ := z
      have hi2 : i < sl.length := by have := g.l; omega
      have hy : sl[i]? = some sl[i] := List.getElem?_eq_getElem hi2
      have hj : js[i]? = some js[i] := List.getElem?_eq_getElem hi
      have hpc : ((piecesT sl js).dropLast)[i]? = some (pcL sl[i] [js[i]]) := by
        rw [List.getElem?_dropLast, if_pos (by rw [pieces_len]; have := g.l; omega), pieces_at hy, hj]
        rfl
      rw [List.getElem?_map, hpc] at hv
      cases hv
      have pn := pure_name (g.s.nm sl[i] (List.getElem_mem hi2))
      have hn := nameL_len (g.s.nm sl[i] (List.getElem_mem hi2))
      have pcl : (pcL sl[i] [js[i]]).length ≤ 1000000 := by
        have h2 : (fmL sl[i].2).length ≤ 2 := by unfold fmL; cases sl[i].2 <;> simp
        unfold pcL
        simp only [List.length_append, List.length_cons, List.length_nil]
        omega
      refine ⟨rfl, _, rfl, rfl, S (pcL sl[i] [js[i]]), S [125], rfl, rfl, (by rw [S_len]; rfl), (by rw [S_len, sizeLine_eq]; omega), fun tp htp => ?_⟩
      rw [(part_S 125 _).1, (part_S 125 _).2, cut_pc pn]
      have dn : D2 ≠ tp := fun z => by rw [← z, hz2] at htp; cases htp
      refine ⟨tp, _, 2, _, rfl, rfl, SqT.of upd_same, rfl, ?_⟩
      refine ⟨_, by rw [upd_ne dn]; exact hz2, by rw [List.length_map, List.length_take]; exact small1000 (by have := g.jl; omega), same_mut (s5.trans (same_new htp)) hD2, ?_⟩
      rw [upd_same, List.take_succ, hj, List.map_append]
      rfl
    obtain ⟨s5, hz2⟩ := z
    rw [List.take_length] at hz2
    have s36 : Same H' H6 := s4.trans s5
    have s16 := s13.trans s36
    -- the label
    refine ⟨_, rfl, _, rfl, _, rfl, fun y dy ny ndy nyd => ?_⟩
    have s7 : Same H6 (upd (upd H6 dy (.own y)) y (.ins c.CL dy [])) := fun b o e => by
      rw [upd_ne (ne_of_none e ny), upd_ne (ne_of_none e ndy)]
      exact e
    refine ⟨y, dy, D, D2, ts, hd, sl, js, rfl, upd_same, .inl (SqL.of (s7 _ _ (s36 _ _ hz))), .inl (SqL.of (s7 _ _ hz2)), (hs.sm s36).sm s7, g, fun H8 b8 la => ⟨rfl, ?_⟩⟩
    have s68 : Same H6 H8 := fun b o e => b8 b o (ne_of_none e ny) (s7 b o e)
    have nH : H y = none := s16.free ny
    have la' := la
    obtain ⟨dx, A, B, tz, lp⟩ := la'
    refine ⟨_, rfl, y, dx, _, rfl, lp.i, rfl, y, hd, sl, js, rfl, la, g, fun H9 s9 => ?_⟩
    refine ⟨_, rfl, rfl, _, rfl, if_false_of (by simp) ?_⟩
    exact ⟨_, rfl, q y H9 ((s16.trans s68).trans s9) nH (la.sm s9)⟩
end
section
variable {P : Program} {w : World} {K : PySem.W.Frag} {mg : Str → Option Value} {base : Heap} {c : Cs}
/-! ### the law's plan -/
theorem ntape {a p : Addr} {H : Hp} (t : TapeAt H a) (h : H p = none) : p ≠ a := fun z => by
  obtain ⟨A, B, e, _⟩ := t
  rw [← z, h] at e
  cases e
theorem Kp.new {a p : Addr} {H : Hp} {o : HO} (t : TapeAt H a) (h : H p = none) : Kp a H (upd H p o) := Kp.same t (same_new h)
theorem Kp.free {a p : Addr} {H H' : Hp} (k : Kp a H H') (t : TapeAt H a) (h : H' p = none) : H p = none := by
  cases e : H p with
  | none => rfl
  | some o =>
    by_cases z : p = a
    · subst z
      obtain ⟨A, B, e2, _⟩ := k.2
      rw [h] at e2
      cases e2
    · rw [k.1 p o z e] at h
      cases h
theorem Kp.mut {a D : Addr} {H H' : Hp} {o : HO} (k : Kp a H H') (n : H D = none) (na : D ≠ a) : Kp a H (upd H' D o) := by
  refine ⟨fun b u hb e => ?_, ?_⟩
  · rw [upd_ne (fun z => by rw [z, n] at e; cases e)]
    exact k.1 b u hb e
  · obtain ⟨A, B, e, ok⟩ := k.2
    exact ⟨A, B, by rw [upd_ne (Ne.symm na)]; exact e, ok⟩
theorem Kp.slots {a : Addr} {H H' : Hp} {ts : List Addr} {sl : List (List Nat × Bool)} (k : Kp a H H') (t : TapeAt H a) (h : SlotsAt H ts sl) : SlotsAt H' ts sl :=
  ⟨h.1, fun i u y e1 e2 => by
    have e := h.2 i u y e1 e2
    refine k.1 _ _ (fun z => ?_) e
    obtain ⟨A, B, e3, _⟩ := t
    rw [z, e3] at e
    cases e⟩
theorem cut_to (xs : List V) {i : Int} (h : 0 ≤ i) : cutV xs none (some i) = xs.take i.toNat := by
  unfold cutV HT.sIx
  simp only [List.drop_zero, Nat.sub_zero]
  rw [if_neg (by omega)]
  by_cases hl : i.toNat ≤ xs.length
  · congr 1
    omega
  · rw [List.take_of_length_le (l := xs) (i := i.toNat) (by omega)]
    exact List.take_of_length_le (by omega)
def decV : V → List Nat
  | .str z => z.cps.toList
  | _ => []
theorem decV_S (l : List Nat) : decV (.str (S l)) = l := by simp [decV, S]
theorem perm_strs {ys : List V} {ns : List (List Nat)} (h : ys.Perm (ns.map fun x => V.str (S x))) : ∃ ms : List (List Nat), ys = ms.map (fun x => V.str (S x)) ∧ ms.Perm ns := by
  refine ⟨ys.map decV, ?_, ?_⟩
  · have all : ∀ y ∈ ys, V.str (S (decV y)) = y := fun y hy => by
      obtain ⟨x, _, rfl⟩ := List.mem_map.mp (h.mem_iff.mp hy)
      rw [decV_S]
    rw [List.map_map]
    conv => lhs; rw [← List.map_id ys]
    exact List.map_congr_left fun y hy => (all y hy).symm
  · have p := h.map decV
    rw [List.map_map] at p
    have e : ns.map (decV ∘ fun x => V.str (S x)) = ns := by
      conv => rhs; rw [← List.map_id ns]
      exact List.map_congr_left fun x _ => decV_S x
    rw [e] at p
    exact p
def names7 : List (List Nat) := [[97], [99, 104, 97, 112, 116, 101, 114], [122, 122], [102, 105, 103], [120], [97, 97], [122, 122, 122, 122, 122, 122, 122, 122]]
def heads6 : List (List Nat) := [[], [70, 105, 103, 117, 114, 101, 32], [78, 111, 32, 105, 116, 101, 109, 32], [97, 32], [90, 122, 32, 121, 88, 32, 113, 32], [97, 98, 99, 100, 101, 102, 103, 104, 105, 106, 107, 108, 109, 32, 97, 98, 99, 100, 101, 102, 103, 104, 105, 106, 107, 108, 109, 110, 111, 32]]
theorem heads6_ok : ∀ h ∈ heads6, headB h = true := by decide +kernel
theorem names7_ok : (∀ n ∈ names7, nameL n = true) ∧ names7.Nodup := by decide +kernel
theorem PlanAt.kp {a : Addr} {H H' : Hp} {P A B : Addr} {ts : List Addr} {hd : List Nat} {sl : List (List Nat × Bool)} {js : List Nat} (h : PlanAt H P A B ts hd sl js) (t : TapeAt H a) (k : Kp a H H') : PlanAt H' P A B ts hd sl js := by
  obtain ⟨X, Y, et, _⟩ := t
  have nP : P ≠ a := fun z => by have e := h.p; rw [z, et] at e; cases e
  have nA : A ≠ a := fun z => by
    have e := h.a
    rw [z, et] at e
    have e := HO.lst.inj (Option.some.inj e)
    cases ts with
    | nil => cases e
    | cons u us => cases e
  have nB : B ≠ a := fun z => by
    have e := h.b
    rw [z, et] at e
    have e := HO.lst.inj (Option.some.inj e)
    cases js with
    | nil => cases e
    | cons u us => cases e
  exact ⟨k.1 _ _ nP h.p, k.1 _ _ nA h.a, k.1 _ _ nB h.b, k.slots ⟨X, Y, et, by assumption⟩ h.t, h.l, h.lj, h.lh, h.ln⟩
theorem joint_at (r : Int) (h0 : 0 ≤ r) (h3 : r < 3) : ∃ d, atI ([46, 58, 47] : List Nat) r = some d ∧ jointB d = true := by
  obtain rfl | rfl | rfl : r = 0 ∨ r = 1 ∨ r = 2 := by omega
  all_goals exact ⟨_, rfl, by decide⟩
theorem form_at (r : Int) (h0 : 0 ≤ r) (h2 : r < 2) : atI [V.str (S [102, 105, 103, 117, 114, 101, 115]), V.str (S [108, 101, 116, 116, 101, 114, 115])] r = some (.str (S (formL (decide (r = 1))))) := by
  obtain rfl | rfl : r = 0 ∨ r = 1 := by omega
  all_goals rfl
theorem SlotsAt.push {H : Hp} {ts : List Addr} {sl : List (List Nat × Bool)} {t : Addr} {y : List Nat × Bool} (h : SlotsAt H ts sl) (e : H t = some (.tup [.str (S y.1), .str (S (formL y.2))])) : SlotsAt H (ts ++ [t]) (sl ++ [y]) := by
  refine ⟨by rw [List.length_append, List.length_append, h.1]; rfl, fun j u z e1 e2 => ?_⟩
  by_cases hj : j < ts.length
  · rw [List.getElem?_append_left hj] at e1
    rw [List.getElem?_append_left (by rw [← h.1]; exact hj)] at e2
    exact h.2 j u z e1 e2
  · have hj2 : j = ts.length := by
      have := (List.getElem?_eq_some_iff.mp e1).1
      rw [List.length_append, List.length_singleton] at this
      omega
    subst hj2
    rw [List.getElem?_append_right (Nat.le_refl _), Nat.sub_self] at e1
    rw [List.getElem?_append_right (by rw [← h.1]; exact Nat.le_refl _), ← h.1, Nat.sub_self] at e2
    cases e1
    cases e2
    exact e
abbrev sPlan : Stmt := top 44
theorem scPlan : FnScope ["_law_tape_here", "_law_heads", "_law_names", "_law_slots", "_law_name"] ["_law_tape_here"] (defScope sPlan) := ⟨rfl, rfl, rfl, by decide +kernel, rfl, by decide +kernel, by decide +kernel⟩
def spPlan : Sp := fun vs H Q _ => ∃ a : Addr, vs = [.ref a] ∧ TapeAt H a ∧ ∀ (P A B : Addr) (ts : List Addr) (hd : List Nat) (sl : List (List Nat × Bool)) (js : List Nat) (H' : Hp), Kp a H H' → PlanAt H' P A B ts hd sl js → GoodLab hd sl js → (∀ x ∈ sl, x.1 ∈ names7) → Q (.ref P) H'
theorem ok_plan (T : Txt K mg c) {f : Addr} {fd : FuncData} (F : Fun K "_law_plan" "_law_plan" sPlan f fd) : FnOk P w K mg base CX0 3 f fd ["_law_tape_here"] spPlan := by
  have cP : Cal P w K mg base CX0 1 "_law_pick" spPick := cal_of T.d__law_pick fun f fd F => ok_pick T F
  have cHd : Cal P w K mg base CX0 2 "_law_head" spHead := cal_of T.d__law_head fun f fd F => ok_head T T.d__law_pick F
  have cSh : Cal P w K mg base CX0 2 "_law_shuffled" (spShf K) := cal_of T.d__law_shuffled fun f fd F => ok_shf T T.d__law_pick F
  refine F.ok scPlan (fun vs H Q E h => ?_) (fun cdv A' outer s H vs Q E hr h => ?_)
  · obtain ⟨a, rfl, _⟩ := h
    rfl
  · obtain ⟨a, rfl, ta, q⟩ := h
    refine ⟨_, (pss_cons (ps_set (i := 1) scPlan.nd rfl (Or.inl rfl) (pe_lst (pa_cons (pe_strS ([] : List Nat) (by decide +kernel)) (pa_cons (pe_strS [70, 105, 103, 117, 114, 101, 32] (by decide +kernel)) (pa_cons (pe_strS [78, 111, 32, 105, 116, 101, 109, 32] (by decide +kernel)) (pa_cons (pe_strS [97, 32] (by decide +kernel)) (pa_cons (pe_strS [90, 122, 32, 121, 88, 32, 113, 32] (by decide +kernel)) (pa_cons (pe_strS [97, 98, 99, 100, 101, 102, 103, 104, 105, 106, 107, 108, 109, 32, 97, 98, 99, 100, 101, 102, 103, 104, 105, 106, 107, 108, 109, 110, 111, 32] (by decide +kernel)) pa_nil))))))))
  (pss_cons (ps_set (i := 1) scPlan.nd rfl (Or.inl rfl) (pe_op op_cat (pv 1) (pe_lst (pa_cons (pe_c cHd hr (by decide) rfl (pa_cons (pv 0) pa_nil)) (pa_cons (pe_c cHd hr (by decide) rfl (pa_cons (pv 0) pa_nil)) (pa_cons (pe_c cHd hr (by decide) rfl (pa_cons (pv 0) pa_nil)) pa_nil))))))
  (pss_cons (ps_set (i := 2) scPlan.nd rfl (Or.inl rfl) (pe_slice sl_list (pe_c cSh hr (by decide) rfl (pa_cons (pv 0) (pa_cons (pe_lst (pa_cons (pe_strS [97] (by decide +kernel)) (pa_cons (pe_strS [99, 104, 97, 112, 116, 101, 114] (by decide +kernel)) (pa_cons (pe_strS [122, 122] (by decide +kernel)) (pa_cons (pe_strS [102, 105, 103] (by decide +kernel)) (pa_cons (pe_strS [120] (by decide +kernel)) (pa_cons (pe_strS [97, 97] (by decide +kernel)) (pa_cons (pe_strS [122, 122, 122, 122, 122, 122, 122, 122] (by decide +kernel)) pa_nil)))))))) pa_nil))) po_none (po_some (pe_op op_add pe_int (pe_c cP hr (by decide) rfl (pa_cons (pv 0) (pa_cons pe_int pa_nil)))))))
  (pss_cons (ps_setLc (i := 3) (own := [("_law_name", 4)]) (g := (gName 4)) (tt := tYes) rfl scPlan.nd rfl rfl (sw_true rfl rfl rfl (by decide +kernel)) (pi_list (pv 2)) (blkOk_by (N := ["_law_tape_here", "_law_heads", "_law_names", "_law_slots", "_law_name"]) (sc := defScope sPlan) (by decide +kernel)) (fun _ _ _ _ _ => (pg_name (i := 4) scPlan.nd rfl (Or.inl rfl))) (fun _ _ _ _ _ => pts_nil) (fun _ _ _ _ _ => (pe_tup (pa_cons (pv 4) (pa_cons (pe_ix (show IxR _ (rIxL K) from ix_list) (pe_lst (pa_cons (pe_strS [102, 105, 103, 117, 114, 101, 115] (by decide +kernel)) (pa_cons (pe_strS [108, 101, 116, 116, 101, 114, 115] (by decide +kernel)) pa_nil))) (pe_c cP hr (by decide) rfl (pa_cons (pv 0) (pa_cons pe_int pa_nil))) (fun _ _ => rfl)) pa_nil)))))
  (pss_one (ps_ret (pe_lst (pa_cons (pe_ix ix_list (pv 1) (pe_c cP hr (by decide) rfl (pa_cons (pv 0) (pa_cons pe_int pa_nil))) (fun _ _ => rfl)) (pa_cons (pv 3) (pa_cons (pe_lc (own := [("_law_name", 4)]) (g := (gName 4)) (tt := tYes) rfl scPlan.nd (pi_list (pe_slice sl_list (pv 2) (po_some pe_int) po_none)) (blkOk_by (N := ["_law_tape_here", "_law_heads", "_law_names", "_law_slots", "_law_name"]) (sc := defScope sPlan) (by decide +kernel)) (fun _ _ _ _ _ => (pg_name (i := 4) scPlan.nd rfl (Or.inl rfl))) (fun _ _ _ _ _ => pts_nil) (fun _ _ _ _ _ => (pe_ix ix_S (pe_strS [46, 58, 47] (by decide +kernel)) (pe_c cP hr (by decide) rfl (pa_cons (pv 0) (pa_cons pe_int pa_nil))) (fun _ _ => rfl)))) pa_nil)))))))))), ?_⟩
    refine ⟨(by show 6 ≤ sizeLine; decide), fun l1 hl1 => ?_⟩
    have e1 := upd_same (H := H) (a := l1) (o := .lst (heads6.map fun x => V.str (S x)))
    have k1 : Kp a H (upd H l1 (.lst (heads6.map fun x => V.str (S x)))) := Kp.new ta hl1
    have n1 := ntape ta hl1
    show _
    refine ⟨_, rfl, _, rfl, a, rfl, k1.2, fun w1 H1 o1 m1 F1 => ⟨_, rfl, a, rfl, F1.2, fun w2 H2 o2 m2 F2 => ⟨_, rfl, a, rfl, F2.2, fun w3 H3 o3 m3 F3 => ⟨(by show 3 ≤ sizeLine; decide), fun l2 hl2 => ?_⟩⟩⟩⟩
    have k3 := k1.trans (Kp.of (F1.trans (F2.trans F3)))
    have e1' : H3 l1 = some (.lst (heads6.map fun x => V.str (S x))) := by rw [F3.1 l1 n1, F2.1 l1 n1, F1.1 l1 n1]; exact e1
    have n2 := ntape k3.2 hl2
    have l12 : l1 ≠ l2 := fun z => by rw [← z, e1'] at hl2; cases hl2
    refine ⟨l1, l2, heads6.map fun x => V.str (S x), [headOf w1, headOf w2, headOf w3].map fun x => V.str (S x), rfl, rfl, by rw [upd_ne l12]; exact e1', upd_same, (by show 9 ≤ sizeLine; decide), fun hl hhl => ?_⟩
    have hhe := upd_same (a := hl) (o := HO.lst ((heads6.map fun x => V.str (S x)) ++ ([headOf w1, headOf w2, headOf w3].map fun x => V.str (S x)))) (H := upd H3 l2 (.lst [V.str (S (headOf w1)), V.str (S (headOf w2)), V.str (S (headOf w3))]))
    rw [← List.map_append] at hhe ⊢
    have hok : ∀ h ∈ heads6 ++ [headOf w1, headOf w2, headOf w3], headB h = true := fun h hh => by
      have good : ∀ ws : List (List Nat), WordsOk ws → ws.length ≤ 3 → headB (headOf ws) = true := fun ws o m => head_good (fun w hw => ⟨(o w hw).1, (o w hw).2.2⟩) (by have := headOf_len o; omega)
      rcases List.mem_append.mp hh with hh | hh
      · exact heads6_ok h hh
      · simp only [List.mem_cons, List.not_mem_nil, or_false] at hh
        rcases hh with rfl | rfl | rfl
        · exact good _ o1 m1
        · exact good _ o2 m2
        · exact good _ o3 m3
    have hsz : (heads6 ++ [headOf w1, headOf w2, headOf w3]).length = 9 := rfl
    generalize heads6 ++ [headOf w1, headOf w2, headOf w3] = hs at hhe hok hsz ⊢
    have k4 : Kp a H (upd (upd H3 l2 (.lst [V.str (S (headOf w1)), V.str (S (headOf w2)), V.str (S (headOf w3))])) hl (.lst (hs.map fun x => V.str (S x)))) := (k3.trans (Kp.new k3.2 hl2)).trans (Kp.new (Kp.new k3.2 hl2).2 hhl)
    have nhl : hl ≠ a := ntape (Kp.new k3.2 hl2).2 hhl
    generalize upd (upd H3 l2 (.lst [V.str (S (headOf w1)), V.str (S (headOf w2)), V.str (S (headOf w3))])) hl (.lst (hs.map fun x => V.str (S x))) = H4 at hhe k4 ⊢
    -- names
    refine ⟨_, rfl, (by show 7 ≤ sizeLine; decide), fun l3 hl3 => ?_⟩
    have k5 := k4.trans (Kp.new (o := .lst (names7.map fun x => V.str (S x))) k4.2 hl3)
    refine ⟨a, l3, names7.map fun x => V.str (S x), rfl, k5.2, .inl (SqL.of upd_same), by decide, fun p4 H5 ys pm K5 np4 ep4 => ?_⟩
    obtain ⟨ms, rfl, pm2⟩ := perm_strs pm
    have k6 := k5.trans K5
    have hh5 : H5 hl = some (.lst (hs.map fun x => V.str (S x))) := K5.1 _ _ nhl (same_new hl3 _ _ hhe)
    have n4 : p4 ≠ a := ntape k5.2 np4
    refine ⟨_, rfl, a, 4, rfl, k6.2, by decide, by decide, fun r H6 r0 r1 F6 => ?_⟩
    have k7 := k6.trans (Kp.of F6)
    refine ⟨_, _, rfl, rfl, _, rfl, p4, _, rfl, SqL.of (by rw [F6.1 p4 n4]; exact ep4), fun nl hnl => ?_⟩
    rw [cut_to _ (by omega), ← List.map_take]
    have nml : ms.length = 7 := pm2.length_eq
    have nok : (∀ n ∈ ms.take (1 + r).toNat, nameL n = true) ∧ (ms.take (1 + r).toNat).Nodup ∧ ∀ n ∈ ms.take (1 + r).toNat, n ∈ names7 := ⟨fun n hn => names7_ok.1 n (pm2.mem_iff.mp (List.mem_of_mem_take hn)), (pm2.nodup_iff.mpr names7_ok.2).sublist (List.take_sublist _ _), fun n hn => pm2.mem_iff.mp (List.mem_of_mem_take hn)⟩
    have nlen : (ms.take (1 + r).toNat).length = (1 + r).toNat := by rw [List.length_take]; omega
    have nl1 : 1 ≤ (1 + r).toNat ∧ (1 + r).toNat ≤ 4 := by omega
    generalize ms.take (1 + r).toNat = ns at nok nlen ⊢
    generalize (1 + r).toNat = N at nlen nl1
    have enl := upd_same (a := nl) (o := HO.lst (ns.map fun x => V.str (S x))) (H := H6)
    have k8 := k7.trans (Kp.new (o := .lst (ns.map fun x => V.str (S x))) k7.2 hnl)
    have nnl : nl ≠ a := ntape k7.2 hnl
    have hh8 : (upd H6 nl (.lst (ns.map fun x => V.str (S x)))) hl = some (.lst (hs.map fun x => V.str (S x))) := same_new hnl _ _ (by rw [F6.1 hl nhl]; exact hh5)
    generalize upd H6 nl (.lst (ns.map fun x => V.str (S x))) = H8 at enl k8 hh8 ⊢
    -- slots
    refine ⟨_, rfl, nl, rfl, ⟨_, SqL.of enl⟩, fun D hD => lc_at (n := N) (Y := yIt (ns.map fun x => V.str (S x))) (fun i H' => Kp a H8 H' ∧ ∃ (ts : List Addr) (sl : List (List Nat × Bool)), H' D = some (.lst (ts.map V.ref)) ∧ SlotsAt H' ts sl ∧ sl.map (·.1) = ns.take i) ⟨Kp.new k8.2 hD, [], [], upd_same, ⟨rfl, fun i t x e => by simp at e⟩, rfl⟩ (fun i H' hi z => ?_) (fun i v H' H1 hi yy z => ?_) (fun H9 z => ?_)⟩
    · have w := walks_l (K := K) (i := i) (SqL.of (z.1.1 _ _ nnl enl))
      rw [List.length_map, nlen] at w
      exact w
    · obtain ⟨rfl, hv⟩ := yy
      obtain ⟨kk, ts, sl, hz, hs', hm⟩ := z
      rw [List.getElem?_map] at hv
      obtain ⟨nm, hnm, rfl⟩ := Option.map_eq_some_iff.mp hv
      have nD : D ≠ a := ntape k8.2 hD
      refine ⟨rfl, _, rfl, (by show 2 ≤ sizeLine; decide), fun qa hqa => ?_⟩
      have nq := ntape kk.2 hqa
      have kq := kk.trans (Kp.new (o := .lst [V.str (S [102, 105, 103, 117, 114, 101, 115]), V.str (S [108, 101, 116, 116, 101, 114, 115])]) kk.2 hqa)
      refine ⟨_, rfl, a, 2, rfl, kq.2, by decide, by decide, fun r2 Hr r20 r21 Fr => ?_⟩
      refine ⟨qa, _, _, _, rfl, rfl, SqL.of (by rw [Fr.1 qa nq]; exact upd_same), form_at r2 r20 r21, (by show 2 ≤ sizeLine; decide), fun t ht => ?_⟩
      have kr := kq.trans (Kp.of Fr)
      have dq : D ≠ qa := fun z => by rw [← z, hz] at hqa; cases hqa
      have hzr : Hr D = some (.lst (ts.map V.ref)) := by rw [Fr.1 D nD, upd_ne dq]; exact hz
      have dt : D ≠ t := fun z => by rw [← z, hzr] at ht; cases ht
      have hzt : (upd Hr t (.tup [V.str (S nm), V.str (S (formL (decide (r2 = 1))))])) D = some (.lst (ts.map V.ref)) := by rw [upd_ne dt]; exact hzr
      have hlen : sl.length ≤ 4 := by
        have := congrArg List.length hm
        rw [List.length_map, List.length_take] at this
        omega
      have st : SlotsAt (upd Hr t (.tup [V.str (S nm), V.str (S (formL (decide (r2 = 1))))])) ts sl := ((kk.2 |> fun t0 => (Kp.new (o := .lst [V.str (S [102, 105, 103, 117, 114, 101, 115]), V.str (S [108, 101, 116, 116, 101, 114, 115])]) t0 hqa).trans (Kp.of Fr)).slots kk.2 hs').sm (same_new ht)
      refine ⟨_, hzt, by rw [List.length_map, st.1]; exact small1000 (by omega), (kr.trans (Kp.new kr.2 ht)).mut hD nD, ts ++ [t], sl ++ [(nm, decide (r2 = 1))], by rw [upd_same, List.map_append]; rfl, ?_, ?_⟩
      · have td : t ≠ D := Ne.symm dt
        exact (st.lst hzt).push (by rw [upd_ne td, upd_same])
      · rw [List.map_append, hm, List.take_succ, hnm]
        rfl
    obtain ⟨k9, ts, sl, hz9, hs9, hm9⟩ := z
    have nD : D ≠ a := ntape k8.2 hD
    rw [← nlen, List.take_length] at hm9
    have sll : sl.length = N := by have := congrArg List.length hm9; rw [List.length_map] at this; omega
    have k9' := k8.trans k9
    -- the list that is returned
    refine ⟨_, rfl, _, rfl, a, 9, rfl, k9'.2, by decide, by decide, fun r9 H10 r90 r91 F10 => ?_⟩
    obtain ⟨hd, hhd⟩ : ∃ hd, hs[r9.toNat]? = some hd := ⟨hs[r9.toNat]'(by omega), List.getElem?_eq_getElem _⟩
    refine ⟨hl, _, _, _, rfl, rfl, SqL.of (by rw [F10.1 hl nhl]; exact k9.1 _ _ nhl hh8), at_of (j := r9.toNat) (by omega) (by rw [List.getElem?_map, hhd]; rfl), _, rfl, ?_⟩
    have k10 := k9'.trans (Kp.of F10)
    have hz10 : H10 D = some (.lst (ts.map V.ref)) := by rw [F10.1 D nD]; exact hz9
    have hs10 : SlotsAt H10 ts sl := (Kp.of F10).slots k9'.2 hs9
    refine ⟨_, rfl, _, rfl, nl, _, rfl, SqL.of (by rw [F10.1 nl nnl]; exact k9.1 _ _ nnl enl), fun il hil => ?_⟩
    rw [cut_tail, ← List.map_drop]
    have nil : il ≠ a := ntape k10.2 hil
    have eil := upd_same (a := il) (o := HO.lst ((ns.drop 1).map fun x => V.str (S x))) (H := H10)
    have k11 : Kp a H10 (upd H10 il (.lst ((ns.drop 1).map fun x => V.str (S x)))) := Kp.new k10.2 hil
    have dln : (ns.drop 1).length = N - 1 := by rw [List.length_drop, nlen]
    generalize upd H10 il (.lst ((ns.drop 1).map fun x => V.str (S x))) = H11 at eil k11 ⊢
    refine ⟨il, rfl, ⟨_, SqL.of eil⟩, fun D2 hD2 => lc_at (n := N - 1) (Y := yIt ((ns.drop 1).map fun x => V.str (S x))) (fun i H' => Kp a H11 H' ∧ ∃ js : List Nat, H' D2 = some (.lst (js.map fun d => V.str (S [d]))) ∧ js.length = i ∧ js.all jointB = true) ⟨Kp.new k11.2 hD2, [], upd_same, rfl, rfl⟩ (fun i H' hi z => ?_) (fun i v H' H1 hi yy z => ?_) (fun H12 z => ?_)⟩
    · have w := walks_l (K := K) (i := i) (SqL.of (z.1.1 _ _ nil eil))
      rw [List.length_map, dln] at w
      exact w
    · obtain ⟨rfl, hv⟩ := yy
      obtain ⟨kk, js, hz, hl', ha⟩ := z
      have nD2 : D2 ≠ a := ntape k11.2 hD2
      refine ⟨rfl, _, rfl, a, 3, rfl, kk.2, by decide, by decide, fun r3 Hr r30 r31 Fr => ?_⟩
      obtain ⟨d, hat, hjd⟩ := joint_at r3 r30 r31
      refine ⟨[46, 58, 47], r3, d, rfl, rfl, by decide, hat, _, by rw [Fr.1 D2 nD2]; exact hz, by rw [List.length_map]; exact small1000 (by omega), (kk.trans (Kp.of Fr)).mut hD2 nD2, js ++ [d], by rw [upd_same, List.map_append]; rfl, by rw [List.length_append, hl']; rfl, by rw [List.all_append, ha]; simp [hjd]⟩
    obtain ⟨k12, js, hz12, hjl, hja⟩ := z
    have k12' := k11.trans k12
    refine ⟨(by show 3 ≤ sizeLine; decide), fun P hP => ?_⟩
    have kf := (k10.trans k12').trans (Kp.new (o := .lst [V.str (S hd), V.ref D, V.ref D2]) (k10.trans k12').2 hP)
    have hs12 : SlotsAt H12 ts sl := k12'.slots k10.2 hs10
    have g : GoodLab hd sl js := ⟨hok hd (List.mem_of_getElem? hhd), ⟨fun z => by rw [z] at sll; simp at sll; omega, by omega, fun x hx => nok.1 x.1 (by rw [← hm9]; exact List.mem_map.mpr ⟨x, hx, rfl⟩), by rw [hm9]; exact nok.2.1⟩, by omega, hja⟩
    refine q P D D2 ts hd sl js _ kf ⟨upd_same, ?_, ?_, hs12.sm (same_new hP), g.l.symm, by have := g.jl; omega, by have := g.hl; omega, fun x hx => Nat.le_trans (nameL_len (g.s.nm x hx)) (by decide)⟩ g fun x hx => nok.2.2 x.1 (by rw [← hm9]; exact List.mem_map.mpr ⟨x, hx, rfl⟩)
    · exact same_new hP _ _ (k12'.1 _ _ nD hz10)
    · exact same_new hP _ _ hz12
end
section
variable {P : Program} {w : World} {K : PySem.W.Frag} {mg : Str → Option Value} {base : Heap} {c : Cs}
/-! ### a second plan -/
theorem set_slots {H : Hp} {ts : List Addr} {sl : List (List Nat × Bool)} {j : Nat} {t : Addr} {y : List Nat × Bool} (h : SlotsAt H ts sl) (e : H t = some (.tup [.str (S y.1), .str (S (formL y.2))])) : SlotsAt H (ts.set j t) (sl.set j y) := by
  refine ⟨by rw [List.length_set, List.length_set, h.1], fun i u z e1 e2 => ?_⟩
  rw [List.getElem?_set] at e1 e2
  by_cases hij : j = i
  · subst hij
    rw [if_pos rfl] at e1 e2
    rw [← h.1] at e2
    split at e1
    · rw [if_pos (by assumption)] at e2
      cases e1
      cases e2
      exact e
    · cases e1
  · rw [if_neg hij] at e1 e2
    exact h.2 i u z e1 e2
theorem good_set {sl : List (List Nat × Bool)} {j : Nat} {y : List Nat × Bool} (g : GoodSl sl) (hn : nameL y.1 = true) (hd : ∀ i x, i ≠ j → sl[i]? = some x → x.1 ≠ y.1) : GoodSl (sl.set j y) := by
  refine ⟨fun z => g.ne (by cases sl with | nil => rfl | cons a b => cases j <;> simp at z), by rw [List.length_set]; exact g.le, fun x hx => ?_, ?_⟩
  · rcases List.mem_or_eq_of_mem_set hx with h | rfl
    · exact g.nm x h
    · exact hn
  · rw [List.map_set]
    refine List.pairwise_iff_getElem.mpr fun i k hi hk hik => ?_
    have nd := List.pairwise_iff_getElem.mp g.nd
    rw [List.length_set] at hi hk
    have hi' : i < sl.length := by rw [List.length_map] at hi; exact hi
    have hk' : k < sl.length := by rw [List.length_map] at hk; exact hk
    rw [List.getElem_set, List.getElem_set]
    split
    · rename_i e1
      rw [if_neg (by omega)]
      have := hd k sl[k] (by omega) (List.getElem?_eq_getElem hk')
      rw [List.getElem_map]
      exact fun z => this z.symm
    · split
      · rw [List.getElem_map]
        exact hd i sl[i] (by omega) (List.getElem?_eq_getElem hi')
      · exact nd i k hi hk hik
theorem form_flip (b : Bool) : valV (mergeK [] [(Sum.inr (S [102, 105, 103, 117, 114, 101, 115]), V.str (S [108, 101, 116, 116, 101, 114, 115])), (Sum.inr (S [108, 101, 116, 116, 101, 114, 115]), V.str (S [102, 105, 103, 117, 114, 101, 115]))]) (Sum.inr (S (formL b)) : Key) = some (.str (S (formL (!b)))) := by
  cases b <;> decide +kernel
theorem heads4_ok : ∀ h ∈ ([[], [70, 105, 103, 117, 114, 101, 32], [102, 105, 103, 117, 114, 101, 32], [97, 32]] : List (List Nat)), headB h = true := by decide +kernel
theorem eqv_jsl (a : List Nat) : PyData.eqv (.list (a.map dJ)) (.list []) = decide (a = []) := by
  cases a with
  | nil => rfl
  | cons x r => simp [PyData.eqv, PyData.eqvAll]
theorem sh_jsl {js : List Nat} (h : js.all jointB = true) : SeqAt.shaped (.list (js.map dJ)) = true := (shk_list (k := 0) (shk_map fun d hd => shk_str (fun x hx => by rw [List.mem_singleton.mp hx]; exact joint_lt (List.all_eq_true.mp h d hd)) 0)).sh (by decide)
theorem head4_at (r : Int) (h0 : 0 ≤ r) (h4 : r < 4) : ∃ h : List Nat, atI [V.str (S []), V.str (S [70, 105, 103, 117, 114, 101, 32]), V.str (S [102, 105, 103, 117, 114, 101, 32]), V.str (S [97, 32])] r = some (.str (S h)) ∧ headB h = true := by
  obtain rfl | rfl | rfl | rfl : r = 0 ∨ r = 1 ∨ r = 2 ∨ r = 3 := by omega
  all_goals exact ⟨_, rfl, by decide +kernel⟩
theorem slots_rev {H : Hp} {ts : List Addr} {sl : List (List Nat × Bool)} (h : SlotsAt H ts sl) : SlotsAt H ts.reverse sl.reverse := by
  refine ⟨by rw [List.length_reverse, List.length_reverse, h.1], fun i t x e1 e2 => ?_⟩
  have i1 : i < ts.length := by have := (List.getElem?_eq_some_iff.mp e1).1; rwa [List.length_reverse] at this
  rw [List.getElem?_reverse i1] at e1
  rw [List.getElem?_reverse (by rw [← h.1]; exact i1), ← h.1] at e2
  exact h.2 _ t x e1 e2
theorem good_rev {sl : List (List Nat × Bool)} (g : GoodSl sl) : GoodSl sl.reverse :=
  ⟨fun z => g.ne (List.reverse_eq_nil_iff.mp z), by rw [List.length_reverse]; exact g.le, fun x hx => g.nm x (List.mem_reverse.mp hx), by rw [List.map_reverse]; exact List.pairwise_reverse.mpr (List.Pairwise.imp (fun h => Ne.symm h) g.nd)⟩
abbrev sTwin : Stmt := top 45
theorem scTwin : FnScope ["_law_tape_here", "_law_plan_here", "_law_first", "_law_slots", "_law_signs", "_law_choice", "_law_at"] ["_law_tape_here", "_law_plan_here"] (defScope sTwin) := ⟨rfl, rfl, rfl, by decide +kernel, rfl, by decide +kernel, by decide +kernel⟩
/-- the name that the law's dicts have besides -/
def spareL : List Nat := [115, 112, 97, 114, 101]
def NoSp (sl : List (List Nat × Bool)) : Prop := ∀ x ∈ sl, x.1 ≠ spareL
theorem NoSp.of {sl : List (List Nat × Bool)} (h : ∀ x ∈ sl, x.1 ∈ names7) : NoSp sl := fun x hx z => by
  have m := h x hx
  rw [z] at m
  revert m
  decide
theorem NoSp.set {sl : List (List Nat × Bool)} {i : Nat} {y : List Nat × Bool} (h : NoSp sl) (hy : y.1 ≠ spareL) : NoSp (sl.set i y) := fun x hx => by
  rcases List.mem_or_eq_of_mem_set hx with m | rfl
  · exact h x m
  · exact hy
def spTwin : Sp := fun vs H Q _ => ∃ (a P A B : Addr) (ts : List Addr) (hd : List Nat) (sl : List (List Nat × Bool)) (js : List Nat), vs = [.ref a, .ref P] ∧ TapeAt H a ∧ PlanAt H P A B ts hd sl js ∧ GoodLab hd sl js ∧ (∀ x ∈ sl, x.1 ∈ names7) ∧
  ∀ (P' A' B' : Addr) (ts' : List Addr) (hd' : List Nat) (sl' : List (List Nat × Bool)) (js' : List Nat) (H' : Hp), Kp a H H' → PlanAt H' P' A' B' ts' hd' sl' js' → GoodLab hd' sl' js' → NoSp sl' → Q (.ref P') H'
/-- between the ways -/
def MidT (a P : Addr) (ch i : Int) (H : Hp) (σ : L2.St) (H' : Hp) : Prop := ∃ (A B : Addr) (ts : List Addr) (hd : List Nat) (sl : List (List Nat × Bool)) (js : List Nat), σ = [some (.ref a), some (.ref P), some (.str (S hd)), some (.ref A), some (.ref B), some (.int ch), some (.int i)] ∧
  Kp a H H' ∧ H' A = some (.lst (ts.map V.ref)) ∧ H' B = some (.lst (js.map fun d => V.str (S [d]))) ∧ SlotsAt H' ts sl ∧ GoodLab hd sl js ∧ NoSp sl ∧ 0 ≤ i ∧ i < sl.length ∧ H A = none ∧ H B = none ∧ A ≠ B
theorem ok_twin (T : Txt K mg c) {f : Addr} {fd : FuncData} (F : Fun K "_law_twin" "_law_twin" sTwin f fd) : FnOk P w K mg base CX0 4 f fd ["_law_tape_here", "_law_plan_here"] spTwin := by
  have cP : Cal P w K mg base CX0 1 "_law_pick" spPick := cal_of T.d__law_pick fun f fd F => ok_pick T F
  have cPl : Cal P w K mg base CX0 3 "_law_plan" spPlan := cal_of T.d__law_plan fun f fd F => ok_plan T F
  refine F.ok scTwin (fun vs H Q E h => ?_) (fun cdv A' outer s H vs Q E hr h => ?_)
  · obtain ⟨a, P, A, B, ts, hd, sl, js, rfl, _⟩ := h
    rfl
  · obtain ⟨a, P, A, B, ts, hd, sl, js, rfl, ta, pl, g, h7, q⟩ := h
    refine ⟨_, (pss_cons (ps_par3 (i := 2) (j := 3) (l := 4) rfl scTwin.nd rfl rfl rfl (by decide) (by decide) (by decide) rfl rfl rfl (pa_cons (pe_ix ix_list (pv 1) pe_int (fun _ _ => rfl)) (pa_cons (pe_callTy call_list_of (by rfl) T.z_list (by decide +kernel) (pa_cons (pe_ix ix_list (pv 1) pe_int (fun _ _ => rfl)) pa_nil)) (pa_cons (pe_callTy call_list_of (by rfl) T.z_list (by decide +kernel) (pa_cons (pe_ix ix_list (pv 1) pe_int (fun _ _ => rfl)) pa_nil)) pa_nil))) rfl)
  (pss_cons (ps_set (i := 5) scTwin.nd rfl (Or.inl rfl) (pe_c cP hr (by decide) rfl (pa_cons (pv 0) (pa_cons pe_int pa_nil))))
  (pss_cons (ps_set (i := 6) scTwin.nd rfl (Or.inl rfl) (pe_c cP hr (by decide) rfl (pa_cons (pv 0) (pa_cons (pe_callB call_len_seq (by rfl) T.z_len (by decide +kernel) (pa_cons (pv 3) pa_nil)) pa_nil))))
  (pss_cons (ps_if (pt_cmpR op_eq (pv 5) pe_int (nomark _)) (pss_one (ps_ret (pe_c cPl hr (by decide) rfl (pa_cons (pv 0) pa_nil)))) pss_nil)
  (C8.pss_cut (ps_if (pt_cmpR op_eq (pv 5) pe_int (nomark _)) (pss_one (ps_asg (pe_tup (pa_cons (pe_strS [111, 116, 104, 101, 114] (by decide +kernel)) (pa_cons (pe_ix ix_tup (pe_ix ix_list (pv 3) (pv 6) (fun _ _ => rfl)) pe_int (fun _ _ => rfl)) pa_nil))) (pg_sub (pv 3) (pv 6) set_list))) pss_nil)
  (C8.pss_cut (ps_if (pt_cmpR op_eq (pv 5) pe_int (nomark _)) (pss_one (ps_asg (pe_tup (pa_cons (pe_ix ix_tup (pe_ix ix_list (pv 3) (pv 6) (fun _ _ => rfl)) pe_int (fun _ _ => rfl)) (pa_cons (pe_dget (hu_of hr) (pe_disp (pps_cons (pe_strS [102, 105, 103, 117, 114, 101, 115] (by decide +kernel)) (pe_strS [108, 101, 116, 116, 101, 114, 115] (by decide +kernel)) (pps_cons (pe_strS [108, 101, 116, 116, 101, 114, 115] (by decide +kernel)) (pe_strS [102, 105, 103, 117, 114, 101, 115] (by decide +kernel)) pps_nil)) rfl rfl (by simp) (by decide)) (pe_ix ix_tup (pe_ix ix_list (pv 3) (pv 6) (fun _ _ => rfl)) pe_int (fun _ _ => rfl)) (fun _ _ => rfl)) pa_nil))) (pg_sub (pv 3) (pv 6) set_list))) pss_nil)
  (C8.pss_cut (ps_if (PW.pt (pw_and (pt_cmpR op_eq (pv 5) pe_int (nomark _)) (pw_and1 (pt_cmpR (op_neD hr.units) (pv 4) (pe_lst pa_nil) (nomark _))))) (pss_one (ps_asg (pe_ix ix_S (pe_strS [46, 58, 47] (by decide +kernel)) (pe_c cP hr (by decide) rfl (pa_cons (pv 0) (pa_cons pe_int pa_nil))) (fun _ _ => rfl)) (pg_sub (pv 4) (pe_c cP hr (by decide) rfl (pa_cons (pv 0) (pa_cons (pe_callB call_len_seq (by rfl) T.z_len (by decide +kernel) (pa_cons (pv 4) pa_nil)) pa_nil))) set_list))) pss_nil)
  (C8.pss_cut (ps_if (pt_cmpR op_eq (pv 5) pe_int (nomark _)) (pss_one (ps_set (i := 2) scTwin.nd rfl (Or.inl rfl) (pe_ix ix_list (pe_lst (pa_cons (pe_strS ([] : List Nat) (by decide +kernel)) (pa_cons (pe_strS [70, 105, 103, 117, 114, 101, 32] (by decide +kernel)) (pa_cons (pe_strS [102, 105, 103, 117, 114, 101, 32] (by decide +kernel)) (pa_cons (pe_strS [97, 32] (by decide +kernel)) pa_nil))))) (pe_c cP hr (by decide) rfl (pa_cons (pv 0) (pa_cons pe_int pa_nil))) (fun _ _ => rfl)))) pss_nil)
  (C8.pss_cut (ps_if (pt_cmpR op_eq (pv 5) pe_int (nomark _)) (pss_one (ps_set (i := 3) scTwin.nd rfl (Or.inl rfl) (pe_revL (pv 3)))) pss_nil)
  (pss_one (ps_ret (pe_lst (pa_cons (pv 2) (pa_cons (pv 3) (pa_cons (pv 4) pa_nil))))))))))))))), ?_⟩
    refine ⟨_, rfl, P, _, 0, _, rfl, rfl, SqL.of pl.p, at_of (j := 0) rfl rfl, _, rfl, P, _, 1, _, rfl, rfl, SqL.of pl.p, at_of (j := 1) rfl rfl, A, _, rfl, .inl (SqL.of pl.a), fun l1 hl1 => ?_⟩
    have s1 := same_new (o := .lst (ts.map V.ref)) hl1
    have e1 := upd_same (H := H) (a := l1) (o := .lst (ts.map V.ref))
    refine ⟨_, rfl, P, _, 2, _, rfl, rfl, SqL.of (s1 _ _ pl.p), at_of (j := 2) rfl rfl, B, _, rfl, .inl (SqL.of (s1 _ _ pl.b)), fun l2 hl2 => ?_⟩
    have s2 := s1.trans (same_new (o := .lst (js.map fun d => V.str (S [d]))) hl2)
    have e2 := upd_same (H := upd H l1 (.lst (ts.map V.ref))) (a := l2) (o := .lst (js.map fun d => V.str (S [d])))
    have e12 := same_new (o := .lst (js.map fun d => V.str (S [d]))) hl2 _ _ e1
    have n12 : l1 ≠ l2 := fun z => by rw [← z, e1] at hl2; cases hl2
    have nl2 : H l2 = none := s1.free hl2
    generalize upd (upd H l1 (.lst (ts.map V.ref))) l2 (.lst (js.map fun d => V.str (S [d]))) = H2 at s2 e2 e12 ⊢
    have k2 := Kp.same ta s2
    have nA := ntape ta hl1
    have nB := ntape ta nl2
    refine ⟨_, _, _, rfl, ?_⟩
    refine ⟨_, rfl, a, 7, rfl, k2.2, by decide, by decide, fun ch H3 _ _ F3 => ?_⟩
    have e3 : H3 l1 = some (.lst (ts.map V.ref)) := by rw [F3.1 l1 nA]; exact e12
    have hl := g.s.le
    have hp : 0 < sl.length := List.length_pos_iff.mpr g.s.ne
    refine ⟨_, rfl, _, rfl, l1, _, rfl, .inl (SqL.of e3), a, _, rfl, F3.2, by rw [List.length_map, pl.t.1]; omega, by rw [List.length_map, pl.t.1]; exact Int.lt_of_le_of_lt (Int.ofNat_le.mpr hl) (by decide), fun ix H4 i0 i1 F4 => ?_⟩
    have k4 := (k2.trans (Kp.of F3)).trans (Kp.of F4)
    refine ⟨_, rfl, rfl, _, rfl, ?_⟩
    by_cases c0 : V.int ch = V.int 0
    · refine if_true_of (decide_eq_true c0) ?_
      exact ⟨_, rfl, a, rfl, k4.2, fun P' A' B' ts' hd' sl' js' H' kk pp gg h7' => q P' A' B' ts' hd' sl' js' H' (k4.trans kk) pp gg (NoSp.of h7')⟩
    refine if_false_of (decide_eq_false c0) ?_
    have st4 : SlotsAt H4 ts sl := ((Kp.of F3).trans (Kp.of F4)).slots k2.2 (pl.t.sm s2)
    have m0 : MidT a P ch ix H [some (.ref a), some (.ref P), some (.str (S hd)), some (.ref l1), some (.ref l2), some (.int ch), some (.int ix)] H4 :=
      ⟨l1, l2, ts, hd, sl, js, rfl, k4, by rw [F4.1 l1 nA]; exact e3, by rw [F4.1 l2 nB, F3.1 l2 nB]; exact e2, st4, g, NoSp.of h7, i0, by rw [List.length_map, pl.t.1] at i1; exact i1, hl1, nl2, n12⟩
    have i1' : ix < sl.length := by rw [List.length_map, pl.t.1] at i1; exact i1
    -- choice 1
    refine ⟨MidT a P ch ix H, ?_, fun σ1 H1 m1 => ?_⟩
    · refine ⟨_, rfl, rfl, _, rfl, ?_⟩
      by_cases c1 : V.int ch = V.int 1
      case neg => exact if_false_of (decide_eq_false c1) m0
      refine if_true_of (decide_eq_true c1) ?_
      have hy : sl[ix.toNat]? = some (sl[ix.toNat]'(by omega)) := List.getElem?_eq_getElem _
      have ht : ts[ix.toNat]? = some (ts[ix.toNat]'(by rw [pl.t.1]; omega)) := List.getElem?_eq_getElem _
      have et := st4.2 _ _ _ ht hy
      generalize sl[ix.toNat]'(by omega) = y at hy et
      generalize ts[ix.toNat]'(by rw [pl.t.1]; omega) = t at ht et
      have eA : H4 l1 = some (.lst (ts.map V.ref)) := by rw [F4.1 l1 nA]; exact e3
      have eB : H4 l2 = some (.lst (js.map fun d => V.str (S [d]))) := by rw [F4.1 l2 nB, F3.1 l2 nB]; exact e2
      refine ⟨_, rfl, _, rfl, l1, _, ix, _, rfl, rfl, SqL.of eA, at_of (j := ix.toNat) (by omega) (by rw [List.getElem?_map, ht]; rfl), t, _, 1, _, rfl, rfl, SqT.of et, at_of (j := 1) rfl rfl, (by show 2 ≤ sizeLine; decide), fun u hu => ?_⟩
      have nu1 : l1 ≠ u := fun z => by rw [← z, eA] at hu; cases hu
      have nu2 : l2 ≠ u := fun z => by rw [← z, eB] at hu; cases hu
      have ixj : ixN (ts.map V.ref).length ix = some ix.toNat := by unfold ixN; rw [if_pos i0, if_pos (by rw [List.length_map, pl.t.1]; exact i1')]
      refine ⟨_, rfl, _, rfl, l1, _, ix, _, rfl, rfl, by rw [upd_ne nu1]; exact eA, ixj, ?_⟩
      have hu1 := upd_same (H := H4) (a := u) (o := .tup [V.str (S [111, 116, 104, 101, 114]), V.str (S (formL y.2))])
      have st5 : SlotsAt (upd H4 u (.tup [V.str (S [111, 116, 104, 101, 114]), V.str (S (formL y.2))])) (ts.set ix.toNat u) (sl.set ix.toNat ([111, 116, 104, 101, 114], y.2)) := set_slots (st4.sm (same_new hu)) hu1
      refine ⟨l1, l2, ts.set ix.toNat u, hd, sl.set ix.toNat ([111, 116, 104, 101, 114], y.2), js, rfl, (k4.trans (Kp.new k4.2 hu)).mut hl1 nA, by rw [upd_same, List.map_set], by rw [upd_ne (Ne.symm n12), upd_ne nu2]; exact eB, ?_, ⟨g.h, good_set (y := ([111, 116, 104, 101, 114], y.2)) g.s (show nameL [111, 116, 104, 101, 114] = true by decide) fun i x _ hx => ?_, by rw [List.length_set]; exact g.l, g.j⟩, (NoSp.of h7).set (by show ([111, 116, 104, 101, 114] : List Nat) ≠ spareL; decide), i0, by rw [List.length_set]; exact i1', hl1, nl2, n12⟩
      · exact st5.lst (xs := ts.map V.ref) (by rw [upd_ne nu1]; exact eA)
      · have h := h7 x (List.mem_of_getElem? hx)
        intro z
        rw [show x.1 = [111, 116, 104, 101, 114] from z] at h
        revert h
        decide
    -- choice 2
    refine ⟨MidT a P ch ix H, ?_, fun σ2 H2' m2 => ?_⟩
    · obtain ⟨A1, B1, ts1, hd1, sl1, js1, rfl, k1, eA, eB, st1, g1, ns1, j0, j1, fA, fB, nAB⟩ := m1
      refine ⟨_, rfl, rfl, _, rfl, ?_⟩
      by_cases c1 : V.int ch = V.int 2
      case neg => exact if_false_of (decide_eq_false c1) ⟨A1, B1, ts1, hd1, sl1, js1, rfl, k1, eA, eB, st1, g1, ns1, j0, j1, fA, fB, nAB⟩
      refine if_true_of (decide_eq_true c1) ?_
      have hy : sl1[ix.toNat]? = some (sl1[ix.toNat]'(by omega)) := List.getElem?_eq_getElem _
      have ht : ts1[ix.toNat]? = some (ts1[ix.toNat]'(by rw [st1.1]; omega)) := List.getElem?_eq_getElem _
      have et := st1.2 _ _ _ ht hy
      generalize sl1[ix.toNat]'(by omega) = y at hy et
      generalize ts1[ix.toNat]'(by rw [st1.1]; omega) = t at ht et
      have at1 : atI (ts1.map V.ref) ix = some (.ref t) := at_of (j := ix.toNat) (by omega) (by rw [List.getElem?_map, ht]; rfl)
      refine ⟨_, rfl, _, rfl, A1, _, ix, _, rfl, rfl, SqL.of eA, at1, t, _, 0, _, rfl, rfl, SqT.of et, at_of (j := 0) rfl rfl, fun d hd' => ?_⟩
      refine ⟨upd_same, [(Sum.inr (S [102, 105, 103, 117, 114, 101, 115]), V.str (S [108, 101, 116, 116, 101, 114, 115])), (Sum.inr (S [108, 101, 116, 116, 101, 114, 115]), V.str (S [102, 105, 103, 117, 114, 101, 115]))], rfl, by decide, ?_⟩
      rw [upd_upd]
      have sd := same_new (o := .dK (mergeK [] [(Sum.inr (S [102, 105, 103, 117, 114, 101, 115]), V.str (S [108, 101, 116, 116, 101, 114, 115])), (Sum.inr (S [108, 101, 116, 116, 101, 114, 115]), V.str (S [102, 105, 103, 117, 114, 101, 115]))])) hd'
      have ed := upd_same (H := H1) (a := d) (o := .dK (mergeK [] [(Sum.inr (S [102, 105, 103, 117, 114, 101, 115]), V.str (S [108, 101, 116, 116, 101, 114, 115])), (Sum.inr (S [108, 101, 116, 116, 101, 114, 115]), V.str (S [102, 105, 103, 117, 114, 101, 115]))]))
      generalize upd H1 d (.dK (mergeK [] [(Sum.inr (S [102, 105, 103, 117, 114, 101, 115]), V.str (S [108, 101, 116, 116, 101, 114, 115])), (Sum.inr (S [108, 101, 116, 116, 101, 114, 115]), V.str (S [102, 105, 103, 117, 114, 101, 115]))])) = H5 at sd ed ⊢
      refine ⟨_, rfl, _, rfl, A1, _, ix, _, rfl, rfl, SqL.of (sd _ _ eA), at1, t, _, 1, _, rfl, rfl, SqT.of (sd _ _ et), at_of (j := 1) rfl rfl, d, _, rfl, (by have z := DGet.k (k := Sum.inr (S (formL y.2))) ed; rw [form_flip] at z; exact z), (by show 2 ≤ sizeLine; decide), fun u hu => ?_⟩
      have eA5 := sd _ _ eA
      have eB5 := sd _ _ eB
      have k5 := k1.trans (Kp.same k1.2 sd)
      have st5 := st1.sm sd
      have nu1 : A1 ≠ u := fun z => by rw [← z, eA5] at hu; cases hu
      have nu2 : B1 ≠ u := fun z => by rw [← z, eB5] at hu; cases hu
      have ixj : ixN (ts1.map V.ref).length ix = some ix.toNat := by unfold ixN; rw [if_pos i0, if_pos (by rw [List.length_map, st1.1]; exact j1)]
      refine ⟨_, rfl, _, rfl, A1, _, ix, _, rfl, rfl, by rw [upd_ne nu1]; exact eA5, ixj, ?_⟩
      have hu1 := upd_same (H := H5) (a := u) (o := .tup [V.str (S y.1), V.str (S (formL (!y.2)))])
      have st6 : SlotsAt (upd H5 u (.tup [V.str (S y.1), V.str (S (formL (!y.2)))])) (ts1.set ix.toNat u) (sl1.set ix.toNat (y.1, !y.2)) := set_slots (st5.sm (same_new hu)) hu1
      refine ⟨A1, B1, ts1.set ix.toNat u, hd1, sl1.set ix.toNat (y.1, !y.2), js1, rfl, (k5.trans (Kp.new k5.2 hu)).mut fA (ntape ta fA), by rw [upd_same, List.map_set], by rw [upd_ne (Ne.symm nAB), upd_ne nu2]; exact eB5, st6.lst (xs := ts1.map V.ref) (by rw [upd_ne nu1]; exact eA5), ⟨g1.h, good_set g1.s (g1.s.nm y (List.mem_of_getElem? hy)) fun i x hi hx => ?_, by rw [List.length_set]; exact g1.l, g1.j⟩, ns1.set (ns1 y (List.mem_of_getElem? hy)), j0, by rw [List.length_set]; exact j1, fA, fB, nAB⟩
      obtain ⟨hil, ei⟩ := List.getElem?_eq_some_iff.mp hx
      obtain ⟨hjl, ej⟩ := List.getElem?_eq_some_iff.mp hy
      have nd := List.pairwise_iff_getElem.mp g1.s.nd
      intro z
      rcases Nat.lt_or_gt_of_ne hi with lt | gt
      · exact nd i ix.toNat (by rw [List.length_map]; exact hil) (by rw [List.length_map]; exact hjl) lt (by rw [List.getElem_map, List.getElem_map, ei, ej]; exact z)
      · exact nd ix.toNat i (by rw [List.length_map]; exact hjl) (by rw [List.length_map]; exact hil) gt (by rw [List.getElem_map, List.getElem_map, ei, ej]; exact z.symm)
    -- choice 3
    refine ⟨MidT a P ch ix H, ?_, fun σ3 H3' m3 => ?_⟩
    · obtain ⟨A1, B1, ts1, hd1, sl1, js1, rfl, k1, eA, eB, st1, g1, ns1, j0, j1, fA, fB, nAB⟩ := m2
      refine ⟨_, rfl, rfl, _, rfl, ?_⟩
      by_cases c1 : V.int ch = V.int 3
      case neg => exact if_false_of (decide_eq_false c1) (if_false_of rfl ⟨A1, B1, ts1, hd1, sl1, js1, rfl, k1, eA, eB, st1, g1, ns1, j0, j1, fA, fB, nAB⟩)
      refine if_true_of (decide_eq_true c1) ?_
      refine ⟨_, rfl, (by show 0 ≤ sizeLine; decide), fun e he => ?_⟩
      have se := same_new (o := .lst []) he
      have ee := upd_same (H := H2') (a := e) (o := .lst [])
      have eB1 := se _ _ eB
      refine ⟨.list (js1.map dJ), .list [], .lst (SqL.of eB1) (dp_js js1), .lst (SqL.of ee) .nil, sh_jsl g1.j, rfl, _, rfl, ?_⟩
      rw [eqv_jsl]
      have eA1 := se _ _ eA
      have st2 := st1.sm se
      have k2' := k1.trans (Kp.same k1.2 se)
      clear ee
      generalize upd H2' e (.lst []) = H5 at eB1 eA1 st2 k2' ⊢
      by_cases cj : js1 = []
      case pos =>
        refine if_false_of (by rw [decide_eq_true cj]; rfl) ?_
        exact ⟨A1, B1, ts1, hd1, sl1, js1, rfl, k2', eA1, eB1, st2, g1, ns1, j0, j1, fA, fB, nAB⟩
      refine if_true_of (by rw [decide_eq_false cj]; rfl) ?_
      have jp : 0 < js1.length := List.length_pos_iff.mpr cj
      have jl := g1.jl
      have nB1 := ntape ta fB
      have nA1 := ntape ta fA
      refine ⟨_, rfl, a, 3, rfl, k2'.2, by decide, by decide, fun r3 Hr r30 r31 Fr => ?_⟩
      obtain ⟨d, hat, hjd⟩ := joint_at r3 r30 r31
      have eB2 : Hr B1 = some (.lst (js1.map fun d => V.str (S [d]))) := by rw [Fr.1 B1 nB1]; exact eB1
      refine ⟨[46, 58, 47], r3, d, rfl, rfl, by decide, hat, _, rfl, _, rfl, _, rfl, B1, _, rfl, .inl (SqL.of eB2), a, _, rfl, Fr.2, by rw [List.length_map]; omega, by rw [List.length_map]; exact Int.lt_of_le_of_lt (Int.ofNat_le.mpr jl) (by decide), fun r4 H6 r40 r41 F4' => ?_⟩
      rw [List.length_map] at r41
      have eB3 : H6 B1 = some (.lst (js1.map fun d => V.str (S [d]))) := by rw [F4'.1 B1 nB1]; exact eB2
      have eA3 : H6 A1 = some (.lst (ts1.map V.ref)) := by rw [F4'.1 A1 nA1, Fr.1 A1 nA1]; exact eA1
      have k3 := (Kp.of Fr).trans (Kp.of F4')
      have st3 := k3.slots k2'.2 st2
      have k4' := k2'.trans k3
      refine ⟨B1, _, r4, r4.toNat, rfl, rfl, eB3, by unfold ixN; rw [if_pos r40, if_pos (by rw [List.length_map]; exact r41)], ?_⟩
      refine ⟨A1, B1, ts1, hd1, sl1, js1.set r4.toNat d, rfl, k4'.mut fB nB1, by rw [upd_ne nAB]; exact eA3, by rw [upd_same, List.map_set], st3.lst (xs := js1.map fun d => V.str (S [d])) eB3, ⟨g1.h, g1.s, by rw [List.length_set]; exact g1.l, ?_⟩, ns1, j0, j1, fA, fB, nAB⟩
      refine List.all_eq_true.mpr fun x hx => ?_
      rcases List.mem_or_eq_of_mem_set hx with h | rfl
      · exact List.all_eq_true.mp g1.j x h
      · exact hjd
    -- choice 4
    refine ⟨MidT a P ch ix H, ?_, fun σ4 H4' m4 => ?_⟩
    · obtain ⟨A1, B1, ts1, hd1, sl1, js1, rfl, k1, eA, eB, st1, g1, ns1, j0, j1, fA, fB, nAB⟩ := m3
      refine ⟨_, rfl, rfl, _, rfl, ?_⟩
      by_cases c1 : V.int ch = V.int 4
      case neg => exact if_false_of (decide_eq_false c1) ⟨A1, B1, ts1, hd1, sl1, js1, rfl, k1, eA, eB, st1, g1, ns1, j0, j1, fA, fB, nAB⟩
      refine if_true_of (decide_eq_true c1) ?_
      have nB1 := ntape ta fB
      have nA1 := ntape ta fA
      refine ⟨(by show 4 ≤ sizeLine; decide), fun e he => ?_⟩
      have se := same_new (o := .lst [V.str (S []), V.str (S [70, 105, 103, 117, 114, 101, 32]), V.str (S [102, 105, 103, 117, 114, 101, 32]), V.str (S [97, 32])]) he
      have ee := upd_same (H := H3') (a := e) (o := .lst [V.str (S []), V.str (S [70, 105, 103, 117, 114, 101, 32]), V.str (S [102, 105, 103, 117, 114, 101, 32]), V.str (S [97, 32])])
      have k2' := k1.trans (Kp.same k1.2 se)
      refine ⟨_, rfl, a, 4, rfl, k2'.2, by decide, by decide, fun r Hr r0 r1 Fr => ?_⟩
      obtain ⟨hd5, hat, hh5⟩ := head4_at r r0 r1
      have ne5 : e ≠ a := ntape k1.2 he
      refine ⟨e, _, r, _, rfl, rfl, SqL.of (by rw [Fr.1 e ne5]; exact ee), hat, ?_⟩
      exact ⟨A1, B1, ts1, hd5, sl1, js1, rfl, k2'.trans (Kp.of Fr), by rw [Fr.1 A1 nA1]; exact se _ _ eA, by rw [Fr.1 B1 nB1]; exact se _ _ eB, (Kp.of Fr).slots k2'.2 (st1.sm se), ⟨hh5, g1.s, g1.l, g1.j⟩, ns1, j0, j1, fA, fB, nAB⟩
    -- choice 5
    refine ⟨MidT a P ch ix H, ?_, fun σ5 H5' m5 => ?_⟩
    · obtain ⟨A1, B1, ts1, hd1, sl1, js1, rfl, k1, eA, eB, st1, g1, ns1, j0, j1, fA, fB, nAB⟩ := m4
      refine ⟨_, rfl, rfl, _, rfl, ?_⟩
      by_cases c1 : V.int ch = V.int 5
      case neg => exact if_false_of (decide_eq_false c1) ⟨A1, B1, ts1, hd1, sl1, js1, rfl, k1, eA, eB, st1, g1, ns1, j0, j1, fA, fB, nAB⟩
      refine if_true_of (decide_eq_true c1) ?_
      refine ⟨_, rfl, A1, _, rfl, SqL.of eA, fun p hp => ?_⟩
      have sp := same_new (o := .lst (ts1.map V.ref).reverse) hp
      have ep := upd_same (H := H4') (a := p) (o := .lst (ts1.map V.ref).reverse)
      exact ⟨p, B1, ts1.reverse, hd1, sl1.reverse, js1, rfl, k1.trans (Kp.same k1.2 sp), by rw [ep, List.map_reverse], sp _ _ eB, (slots_rev st1).sm sp, ⟨g1.h, good_rev g1.s, by rw [List.length_reverse]; exact g1.l, g1.j⟩, (fun x hx => ns1 x (List.mem_reverse.mp hx)), j0, by rw [List.length_reverse]; exact j1, k1.free ta hp, fB, fun z => by rw [z, eB] at hp; cases hp⟩
    obtain ⟨A1, B1, ts1, hd1, sl1, js1, rfl, k1, eA, eB, st1, g1, ns1, j0, j1, fA, fB, nAB⟩ := m5
    refine ⟨_, rfl, _, rfl, _, rfl, (by show 3 ≤ sizeLine; decide), fun p hp => ?_⟩
    have sp := same_new (o := .lst [V.str (S hd1), V.ref A1, V.ref B1]) hp
    exact q p A1 B1 ts1 hd1 sl1 js1 _ (k1.trans (Kp.same k1.2 sp)) ⟨upd_same, sp _ _ eA, sp _ _ eB, st1.sm sp, g1.l.symm, by have := g1.jl; omega, by have := g1.hl; omega, fun x hx => Nat.le_trans (nameL_len (g1.s.nm x hx)) (by decide)⟩ g1 ns1
end
section
variable {P : Program} {w : World} {K : PySem.W.Frag} {mg : Str → Option Value} {base : Heap} {c : Cs}
/-! ### a label made -/
theorem SqL.at_lst {H : Hp} {l : Addr} {xs zs : List V} {a : Addr} {ys : List V} (hl : H l = some (.lst xs)) (n : a ≠ l) (h : SqL K H a ys) : SqL K (upd H l (.lst zs)) a ys := by
  rcases h with (h | ⟨o, h⟩) | h
  · exact .inl (.inl (by rw [upd_ne n]; exact h))
  · exact .inl (.inr ⟨o, by rw [upd_ne n]; exact h⟩)
  · exact .inr h
theorem SqT.at_lst {H : Hp} {l : Addr} {xs zs : List V} {a : Addr} {ys : List V} (hl : H l = some (.lst xs)) (h : SqT K H a ys) : SqT K (upd H l (.lst zs)) a ys := by
  rcases h with (h | ⟨o, h⟩) | h
  · exact .inl (.inl (by rw [upd_ne (fun z => by rw [z, hl] at h; cases h)]; exact h))
  · exact .inl (.inr ⟨o, by rw [upd_ne (fun z => by rw [z, hl] at h; cases h)]; exact h⟩)
  · exact .inr h
theorem LabAt.at_lst {CL : Addr} {H : Hp} {l x : Addr} {xs zs : List V} {hd : List Nat} {sl : List (List Nat × Bool)} {js : List Nat} (hl : H l = some (.lst xs)) (h : LabAt K CL H x hd sl js) : LabAt K CL (upd H l (.lst zs)) x hd sl js :=
  let ⟨dx, A, B, ts, p⟩ := h
  ⟨dx, A, B, ts, by rw [upd_ne (fun z => by have e := p.i; rw [z, hl] at e; cases e)]; exact p.i, SqT.at_lst hl p.a, SqT.at_lst hl p.b, p.t.lst hl⟩
abbrev sMade : Stmt := top 54
theorem scMade : FnScope ["_law_plan_here", "_law_choice", "_law_slots", "_law_signs", "_law_made_here"] ["_law_plan_here", "_law_choice"] (defScope sMade) := ⟨rfl, rfl, rfl, by decide +kernel, rfl, by decide +kernel, by decide +kernel⟩
def spMade (K : PySem.W.Frag) (CL : Addr) : Sp := fun vs H Q _ => ∃ (P A B : Addr) (ts : List Addr) (hd : List Nat) (sl : List (List Nat × Bool)) (js : List Nat) (k : Int), vs = [.ref P, .int k] ∧ PlanAt H P A B ts hd sl js ∧ GoodLab hd sl js ∧
  ∀ (y : Addr) (H' : Hp), Same H H' → H y = none → LabAt K CL H' y hd sl js → Q (.ref y) H'
theorem ok_made (T : Txt K mg c) {f : Addr} {fd : FuncData} (F : Fun K "_law_made" "_law_made" sMade f fd) : FnOk P w K mg base CX0 6 f fd ["_law_plan_here", "_law_choice"] (spMade K c.CL) := by
  have mI : FnOk P w K mg base CX0 4 c.iL c.fdIL ["self", "head", "shown", "joints"] (spLin K c.CL) := ok_lin T
  have bI3 := bindI3 T
  obtain ⟨dv2, vI2, bI2⟩ := bindI2 T
  refine F.ok scMade (fun vs H Q E h => ?_) (fun cdv A' outer s H vs Q E hr h => ?_)
  · obtain ⟨P, A, B, ts, hd, sl, js, k, rfl, _⟩ := h
    rfl
  · obtain ⟨P, A, B, ts, hd, sl, js, k, rfl, pl, g, q⟩ := h
    refine ⟨_, (pss_cons (ps_par2 (i := 2) (j := 3) rfl scMade.nd rfl rfl (by decide) rfl rfl (pa_cons (pe_callTy call_list_of (by rfl) T.z_list (by decide +kernel) (pa_cons (pe_ix ix_list (pv 0) pe_int (fun _ _ => rfl)) pa_nil)) (pa_cons (pe_callTy call_list_of (by rfl) T.z_list (by decide +kernel) (pa_cons (pe_ix ix_list (pv 0) pe_int (fun _ _ => rfl)) pa_nil)) pa_nil)) rfl)
  (pss_cons (ps_if (pt_cmpR op_eq (pv 1) pe_int (nomark _)) (pss_one (ps_ret (pe_make T.mkL mI (hr.mono (by decide)) rfl T.gCL bI3 .nil pass0 (pa_cons (pe_ix ix_list (pv 0) pe_int (fun _ _ => rfl)) (pa_cons (pe_callTy call_tuple_of (by rfl) T.z_tuple (by decide +kernel) (pa_cons (pv 2) pa_nil)) (pa_cons (pe_callTy call_tuple_of (by rfl) T.z_tuple (by decide +kernel) (pa_cons (pv 3) pa_nil)) pa_nil)))))) pss_nil)
  (pss_cons (ps_set (i := 4) scMade.nd rfl (Or.inl rfl) (pe_ifExp (pt_cmpR (op_eqD hr.units) (pv 3) (pe_lst pa_nil) (nomark _)) (pe_make T.mkL mI (hr.mono (by decide)) rfl T.gCL bI2 vI2 pass0 (pa_cons (pe_ix ix_list (pv 0) pe_int (fun _ _ => rfl)) (pa_cons (pv 2) pa_nil))) (pe_make T.mkL mI (hr.mono (by decide)) rfl T.gCL bI3 .nil pass0 (pa_cons (pe_ix ix_list (pv 0) pe_int (fun _ _ => rfl)) (pa_cons (pv 2) (pa_cons (pv 3) pa_nil))))))
  (pss_cons (ps_expr (pe_bm0 PySem.F.plainAttrs_list PySem.F.slot_list_clear PySem.F.type_list_clear mt_clear (pv 2)))
  (pss_cons (ps_expr (pe_bm PySem.F.plainAttrs_list PySem.F.slot_list_append PySem.F.type_list_append mt_append (pv 3) (pa_cons (pe_strS [46] (by decide +kernel)) pa_nil)))
  (pss_one (ps_ret (pv 4)))))))), ?_⟩
    refine ⟨_, rfl, P, _, 1, _, rfl, rfl, SqL.of pl.p, at_of (j := 1) rfl rfl, A, _, rfl, .inl (SqL.of pl.a), fun l1 hl1 => ?_⟩
    have s1 := same_new (o := .lst (ts.map V.ref)) hl1
    have e1 := upd_same (H := H) (a := l1) (o := .lst (ts.map V.ref))
    refine ⟨_, rfl, P, _, 2, _, rfl, rfl, SqL.of (s1 _ _ pl.p), at_of (j := 2) rfl rfl, B, _, rfl, .inl (SqL.of (s1 _ _ pl.b)), fun l2 hl2 => ?_⟩
    have s2 := s1.trans (same_new (o := .lst (js.map fun d => V.str (S [d]))) hl2)
    have e2 := upd_same (H := upd H l1 (.lst (ts.map V.ref))) (a := l2) (o := .lst (js.map fun d => V.str (S [d])))
    have e12 := same_new (o := .lst (js.map fun d => V.str (S [d]))) hl2 _ _ e1
    have n12 : l1 ≠ l2 := fun z => by rw [← z, e1] at hl2; cases hl2
    have nl2 : H l2 = none := s1.free hl2
    generalize upd (upd H l1 (.lst (ts.map V.ref))) l2 (.lst (js.map fun d => V.str (S [d]))) = H2 at s2 e2 e12 ⊢
    refine ⟨_, _, rfl, ?_⟩
    refine ⟨_, rfl, rfl, _, rfl, ?_⟩
    by_cases c0 : V.int k = V.int 0
    · refine if_true_of (decide_eq_true c0) ?_
      refine ⟨_, rfl, P, _, 0, _, rfl, rfl, SqL.of (s2 _ _ pl.p), at_of (j := 0) rfl rfl, _, rfl, l1, _, rfl, .inl ⟨SqL.of e12, fun t1 ht1 => ?_⟩⟩
      have s3 := same_new (o := .tup (ts.map V.ref)) ht1
      have e3 := upd_same (H := H2) (a := t1) (o := .tup (ts.map V.ref))
      refine ⟨_, rfl, l2, _, rfl, .inl ⟨SqL.of (s3 _ _ e2), fun t2 ht2 => ?_⟩⟩
      have s4 := s3.trans (same_new (o := .tup (js.map fun d => V.str (S [d]))) ht2)
      have e4 := upd_same (H := upd H2 t1 (.tup (ts.map V.ref))) (a := t2) (o := .tup (js.map fun d => V.str (S [d])))
      have e34 := same_new (o := .tup (js.map fun d => V.str (S [d]))) ht2 _ _ e3
      generalize upd (upd H2 t1 (.tup (ts.map V.ref))) t2 (.tup (js.map fun d => V.str (S [d]))) = H4 at s4 e4 e34 ⊢
      intro y dy ny ndy nyd
      have s7 : Same H4 (upd (upd H4 dy (.own y)) y (.ins c.CL dy [])) := fun b o e => by
        rw [upd_ne (ne_of_none e ny), upd_ne (ne_of_none e ndy)]
        exact e
      have s06 := s2.trans s4
      refine ⟨y, dy, t1, t2, ts, hd, sl, js, rfl, upd_same, .inr (SqT.of (s7 _ _ e34)), .inr (SqT.of (s7 _ _ e4)), (pl.t.sm s06).sm s7, g, fun H8 b8 la => ⟨rfl, ?_⟩⟩
      have s68 : Same H4 H8 := fun b o e => b8 b o (ne_of_none e ny) (s7 b o e)
      exact q y H8 (s06.trans s68) (s06.free ny) la
    refine if_false_of (decide_eq_false c0) ?_
    refine ⟨_, rfl, (by show 0 ≤ sizeLine; decide), fun e he => ?_⟩
    have se := same_new (o := .lst []) he
    have ee := upd_same (H := H2) (a := e) (o := .lst [])
    refine ⟨.list (js.map dJ), .list [], .lst (SqL.of (se _ _ e2)) (dp_js js), .lst (SqL.of ee) .nil, sh_jsl g.j, rfl, _, rfl, ?_⟩
    rw [eqv_jsl]
    have e1' := se _ _ e12
    have e2' := se _ _ e2
    have s2' := s2.trans se
    clear ee
    generalize upd H2 e (.lst []) = H5 at e1' e2' s2' ⊢
    have fin : ∀ (y : Addr) (H8 : Hp), Same H5 H8 → H y = none → LabAt K c.CL H8 y hd sl js → Q (.ref y) (upd (upd H8 l1 (.lst [])) l2 (.lst (js.map (fun d => V.str (S [d])) ++ [V.str (S [46])]))) := fun y H8 s8 ny la => by
      have x1 := s8 _ _ e1'
      have x2 := s8 _ _ e2'
      refine q y _ (fun b o e => ?_) ny ((la.at_lst x1).at_lst (xs := js.map fun d => V.str (S [d])) (by rw [upd_ne (Ne.symm n12)]; exact x2))
      rw [upd_ne (ne_of_none e nl2), upd_ne (ne_of_none e hl1)]
      exact s8 _ _ (s2' _ _ e)
    have jl := g.jl
    by_cases cj : js = []
    case pos =>
      refine if_true_of (decide_eq_true cj) ?_
      refine ⟨_, rfl, P, _, 0, _, rfl, rfl, SqL.of (s2' _ _ pl.p), at_of (j := 0) rfl rfl, _, rfl, fun y dy ny ndy nyd => ?_⟩
      have s7 : Same H5 (upd (upd H5 dy (.own y)) y (.ins c.CL dy [])) := fun b o e => by
        rw [upd_ne (ne_of_none e ny), upd_ne (ne_of_none e ndy)]
        exact e
      refine ⟨y, dy, l1, c.dL, ts, hd, sl, js, rfl, upd_same, .inl (SqL.of (s7 _ _ e1')), .inr (by rw [cj]; exact T.tdL _), (pl.t.sm s2').sm s7, g, fun H8 b8 la => ⟨rfl, ?_⟩⟩
      have s8 : Same H5 H8 := fun b o e => b8 b o (ne_of_none e ny) (s7 b o e)
      refine ⟨_, rfl, .inl ⟨rfl, _, SqL.of (s8 _ _ e1')⟩, l1, _, rfl, rfl, s8 _ _ e1', ?_⟩
      have e2'' : upd H8 l1 (.lst []) l2 = some (.lst (js.map fun d => V.str (S [d]))) := by rw [upd_ne (Ne.symm n12)]; exact s8 _ _ e2'
      refine ⟨_, rfl, .inl ⟨rfl, _, SqL.of e2''⟩, l2, _, _, rfl, rfl, e2'', by rw [List.length_map]; exact small1000 (by omega), ?_⟩
      exact ⟨_, rfl, fin y H8 s8 (s2'.free ny) la⟩
    refine if_false_of (decide_eq_false cj) ?_
    refine ⟨_, rfl, P, _, 0, _, rfl, rfl, SqL.of (s2' _ _ pl.p), at_of (j := 0) rfl rfl, _, rfl, _, rfl, fun y dy ny ndy nyd => ?_⟩
    have s7 : Same H5 (upd (upd H5 dy (.own y)) y (.ins c.CL dy [])) := fun b o e => by
      rw [upd_ne (ne_of_none e ny), upd_ne (ne_of_none e ndy)]
      exact e
    refine ⟨y, dy, l1, l2, ts, hd, sl, js, rfl, upd_same, .inl (SqL.of (s7 _ _ e1')), .inl (SqL.of (s7 _ _ e2')), (pl.t.sm s2').sm s7, g, fun H8 b8 la => ⟨rfl, ?_⟩⟩
    have s8 : Same H5 H8 := fun b o e => b8 b o (ne_of_none e ny) (s7 b o e)
    refine ⟨_, rfl, .inl ⟨rfl, _, SqL.of (s8 _ _ e1')⟩, l1, _, rfl, rfl, s8 _ _ e1', ?_⟩
    have e2'' : upd H8 l1 (.lst []) l2 = some (.lst (js.map fun d => V.str (S [d]))) := by rw [upd_ne (Ne.symm n12)]; exact s8 _ _ e2'
    refine ⟨_, rfl, .inl ⟨rfl, _, SqL.of e2''⟩, l2, _, _, rfl, rfl, e2'', by rw [List.length_map]; exact small1000 (by omega), ?_⟩
    exact ⟨_, rfl, fin y H8 s8 (s2'.free ny) la⟩
end
section
variable {P : Program} {w : World} {K : PySem.W.Frag} {mg : Str → Option Value} {base : Heap} {c : Cs}
/-! ### a text bent, the numbers -/
/-- code points that a text may have -/
def Uni (l : List Nat) : Prop := ∀ c ∈ l, c < 0x110000
theorem Uni.app {a b : List Nat} (x : Uni a) (y : Uni b) : Uni (a ++ b) := fun c h => (List.mem_append.mp h).elim (x c) (y c)
theorem Uni.drop {a : List Nat} (x : Uni a) (k : Nat) : Uni (a.drop k) := fun c h => x c (List.mem_of_mem_drop h)
theorem Uni.take {a : List Nat} (x : Uni a) (k : Nat) : Uni (a.take k) := fun c h => x c (List.mem_of_mem_take h)
abbrev sBent : Stmt := top 51
theorem scBent : FnScope ["_law_tape_here", "_law_line", "_law_at", "_law_sign", "_law_after"] ["_law_tape_here", "_law_line"] (defScope sBent) := ⟨rfl, rfl, rfl, by decide +kernel, rfl, by decide +kernel, by decide +kernel⟩
def spBent : Sp := fun vs H Q _ => ∃ (a : Addr) (l : List Nat), vs = [.ref a, .str (S l)] ∧ TapeAt H a ∧ l.length ≤ 1000 ∧ Uni l ∧ ∀ (m : List Nat) (H' : Hp), Kp a H H' → m.length ≤ l.length + 1 → Uni m → Q (.str (S m)) H'
theorem sign10 (r : Int) (h0 : 0 ≤ r) (h : r < 10) : ∃ d, atI ([48, 97, 46, 58, 47, 32, 45, 57, 122, 65] : List Nat) r = some d ∧ d < 0x110000 := by
  obtain rfl | rfl | rfl | rfl | rfl | rfl | rfl | rfl | rfl | rfl : r = 0 ∨ r = 1 ∨ r = 2 ∨ r = 3 ∨ r = 4 ∨ r = 5 ∨ r = 6 ∨ r = 7 ∨ r = 8 ∨ r = 9 := by omega
  all_goals exact ⟨_, rfl, by decide⟩
theorem three_at {x y z : V} (r : Int) (h0 : 0 ≤ r) (h : r < 3) : ∃ v, atI [x, y, z] r = some v ∧ (v = x ∨ v = y ∨ v = z) := by
  obtain rfl | rfl | rfl : r = 0 ∨ r = 1 ∨ r = 2 := by omega
  · exact ⟨_, rfl, .inl rfl⟩
  · exact ⟨_, rfl, .inr (.inl rfl)⟩
  · exact ⟨_, rfl, .inr (.inr rfl)⟩
theorem four_at {x y z u : V} (r : Int) (h0 : 0 ≤ r) (h : r < 4) : ∃ v, atI [x, y, z, u] r = some v ∧ (v = x ∨ v = y ∨ v = z ∨ v = u) := by
  obtain rfl | rfl | rfl | rfl : r = 0 ∨ r = 1 ∨ r = 2 ∨ r = 3 := by omega
  · exact ⟨_, rfl, .inl rfl⟩
  · exact ⟨_, rfl, .inr (.inl rfl)⟩
  · exact ⟨_, rfl, .inr (.inr (.inl rfl))⟩
  · exact ⟨_, rfl, .inr (.inr (.inr rfl))⟩
theorem ok_bent (T : Txt K mg c) {f : Addr} {fd : FuncData} (F : Fun K "_law_bent" "_law_bent" sBent f fd) : FnOk P w K mg base CX0 2 f fd ["_law_tape_here", "_law_line"] spBent := by
  have cP : Cal P w K mg base CX0 1 "_law_pick" spPick := cal_of T.d__law_pick fun f fd F => ok_pick T F
  refine F.ok scBent (fun vs H Q E h => ?_) (fun cdv A' outer s H vs Q E hr h => ?_)
  · obtain ⟨a, l, rfl, _⟩ := h
    rfl
  · obtain ⟨a, l, rfl, ta, hl, hu, q⟩ := h
    refine ⟨_, (pss_cons (ps_set (i := 2) scBent.nd rfl (Or.inl rfl) (pe_c cP hr (by decide) rfl (pa_cons (pv 0) (pa_cons (pe_op op_add (pe_callB call_lenS (by rfl) T.z_len (by decide +kernel) (pa_cons (pv 1) pa_nil)) pe_int) pa_nil))))
  (pss_cons (ps_set (i := 3) scBent.nd rfl (Or.inl rfl) (pe_ix ix_S (pe_strS [48, 97, 46, 58, 47, 32, 45, 57, 122, 65] (by decide +kernel)) (pe_c cP hr (by decide) rfl (pa_cons (pv 0) (pa_cons pe_int pa_nil))) (fun _ _ => rfl)))
  (pss_cons (ps_set (i := 4) scBent.nd rfl (Or.inl rfl) (pe_lst (pa_cons (pe_op op_catS (pv 3) (pe_slice sl_from (pv 1) (po_some (pv 2)) po_none)) (pa_cons (pe_slice sl_from (pv 1) (po_some (pe_op op_add (pv 2) pe_int)) po_none) (pa_cons (pe_op op_catS (pv 3) (pe_slice sl_from (pv 1) (po_some (pe_op op_add (pv 2) pe_int)) po_none)) pa_nil)))))
  (pss_one (ps_ret (pe_op op_catS (pe_slice sl_to (pv 1) po_none (po_some (pv 2))) (pe_ix ix_list (pv 4) (pe_c cP hr (by decide) rfl (pa_cons (pv 0) (pa_cons pe_int pa_nil))) (fun _ _ => rfl)))))))), ?_⟩
    refine ⟨_, rfl, _, rfl, l, rfl, by omega, _, _, rfl, rfl, a, _, rfl, ta, by omega, by omega, fun at' H1 a0 a1 F1 => ?_⟩
    refine ⟨_, rfl, a, 10, rfl, F1.2, by decide, by decide, fun r H2 r0 r1 F2 => ?_⟩
    obtain ⟨d, hd, hdu⟩ := sign10 r r0 r1
    refine ⟨[48, 97, 46, 58, 47, 32, 45, 57, 122, 65], r, d, rfl, rfl, by decide, hd, ?_⟩
    have k2 := (Kp.of F1).trans (Kp.of F2)
    have dl : ∀ k, (l.drop k).length ≤ l.length := fun k => by rw [List.length_drop]; omega
    refine ⟨_, rfl, _, rfl, _, rfl, _, rfl, l, at', rfl, rfl, rfl, a0, by omega, [d], l.drop at'.toNat, rfl, rfl, by have := dl at'.toNat; simp only [List.length_singleton]; omega, ?_⟩
    refine ⟨_, rfl, _, rfl, _, _, rfl, rfl, _, rfl, l, at' + 1, rfl, rfl, rfl, by omega, by omega, ?_⟩
    refine ⟨_, rfl, _, rfl, _, rfl, _, _, rfl, rfl, _, rfl, l, at' + 1, rfl, rfl, rfl, by omega, by omega, [d], l.drop (at' + 1).toNat, rfl, rfl, by have := dl (at' + 1).toNat; simp only [List.length_singleton]; omega, ?_⟩
    refine ⟨(by show 3 ≤ sizeLine; decide), fun p hp => ?_⟩
    have k3 := k2.trans (Kp.new (o := .lst [V.str (S ([d] ++ l.drop at'.toNat)), V.str (S (l.drop (at' + 1).toNat)), V.str (S ([d] ++ l.drop (at' + 1).toNat))]) k2.2 hp)
    have np := ntape k2.2 hp
    refine ⟨_, rfl, _, rfl, _, rfl, l, at', rfl, rfl, rfl, a0, by omega, ?_⟩
    refine ⟨_, rfl, _, rfl, a, 3, rfl, k3.2, by decide, by decide, fun r3 H3 r30 r31 F3 => ?_⟩
    obtain ⟨v, hv, hh⟩ := three_at (x := V.str (S ([d] ++ l.drop at'.toNat))) (y := V.str (S (l.drop (at' + 1).toNat))) (z := V.str (S ([d] ++ l.drop (at' + 1).toNat))) r3 r30 r31
    refine ⟨p, _, r3, v, rfl, rfl, SqL.of (by rw [F3.1 p np]; exact upd_same), hv, ?_⟩
    have ud : Uni [d] := fun c h => by rw [List.mem_singleton.mp h]; exact hdu
    have fin : ∀ m : List Nat, m.length + at'.toNat ≤ l.length + 1 → Uni m → v = V.str (S m) → rCatS (.str (S (l.take at'.toNat))) v H3 fun z H' => Q z H' := fun m hm um e => by
      subst e
      refine ⟨l.take at'.toNat, m, rfl, rfl, by rw [List.length_take]; omega, q _ H3 (k3.trans (Kp.of F3)) (by rw [List.length_append, List.length_take]; omega) ((hu.take _).app um)⟩
    rcases hh with e | e | e
    · exact fin _ (by simp only [List.length_append, List.length_singleton, List.length_drop]; omega) (ud.app (hu.drop _)) e
    · exact fin _ (by simp only [List.length_drop]; omega) (hu.drop _) e
    · exact fin _ (by simp only [List.length_append, List.length_singleton, List.length_drop]; omega) (ud.app (hu.drop _)) e
theorem putK_le {kvs : List (Key × V)} {k : Key} {v : V} : (putK kvs k v).length ≤ kvs.length + 1 := by
  unfold putK
  split
  · rw [List.length_map]; omega
  · rw [List.length_append]; exact Nat.le_refl _
abbrev sNums : Stmt := top 52
theorem scNums : FnScope ["_law_tape_here", "_law_plans", "_law_most", "_law_found", "_law_plan_here", "_law_name", "_law_form"] ["_law_tape_here", "_law_plans", "_law_most"] (defScope sNums) := ⟨rfl, rfl, rfl, by decide +kernel, rfl, by decide +kernel, by decide +kernel⟩
/-- a plan, told by its slots -/
def PlanOf (H : Hp) (P : Addr) (sl : List (List Nat × Bool)) : Prop := ∃ A B ts hd js, PlanAt H P A B ts hd sl js
/-- the plans of a list -/
def PlansAt (H : Hp) (PL : Addr) (pls : List (Addr × List (List Nat × Bool))) : Prop := H PL = some (.lst (pls.map fun q => V.ref q.1)) ∧ pls.length ≤ 10 ∧ pls ≠ [] ∧ ∀ q ∈ pls, PlanOf H q.1 q.2 ∧ GoodSl q.2 ∧ NoSp q.2
def numOf (kvs : List (Key × V)) (x : List Nat) : Nat := match valV kvs (Sum.inr (S x)) with
  | some (.int i) => i.toNat
  | _ => 0
/-- a dict that has numbers for some names -/
def NumI (a D : Addr) (H : Hp) (done : List (List Nat)) (H' : Hp) : Prop := Kp a H H' ∧ ∃ kvs : List (Key × V), H' D = some (.dK kvs) ∧ kvs.length ≤ done.length ∧ ∀ x ∈ done, ∃ n : Nat, valV kvs (Sum.inr (S x)) = some (.int n) ∧ n < 10 ^ 60
theorem num_put {kvs : List (Key × V)} {done : List (List Nat)} {y : List Nat} {m : Int} (h0 : 0 ≤ m) (h1 : m < 10 ^ 60) (h : ∀ x ∈ done, ∃ n : Nat, valV kvs (Sum.inr (S x)) = some (.int n) ∧ n < 10 ^ 60) :
    ∀ x ∈ done ++ [y], ∃ n : Nat, valV (putK kvs (Sum.inr (S y)) (.int m)) (Sum.inr (S x)) = some (.int n) ∧ n < 10 ^ 60 := fun x hx => by
  rw [valV_put]
  by_cases e : (Sum.inr (S x) : Key) = Sum.inr (S y)
  · rw [if_pos e]
    exact ⟨m.toNat, by rw [Int.toNat_of_nonneg h0], by omega⟩
  · rw [if_neg e]
    rcases List.mem_append.mp hx with hx | hx
    · exact h x hx
    · rw [List.mem_singleton.mp hx] at e
      exact absurd rfl e
def spNums : Sp := fun vs H Q _ => ∃ (a PL : Addr) (most : Int) (pls : List (Addr × List (List Nat × Bool))), vs = [.ref a, .ref PL, .int most] ∧ TapeAt H a ∧ 0 < most ∧ most ≤ 10 ^ 30 ∧ PlansAt H PL pls ∧
  ∀ (D : Addr) (H' : Hp) (kvs : List (Key × V)), Kp a H H' → H D = none → H' D = some (.dK kvs) → (∀ q ∈ pls, NumsAt kvs (numOf kvs) q.2) → Q (.ref D) H'
theorem four_int {most : Int} (h0 : 0 < most) (h1 : most ≤ 10 ^ 30) (r : Int) (r0 : 0 ≤ r) (r1 : r < 4) : ∃ m : Int, atI [V.int 2, V.int 30, V.int 800, V.int most] r = some (.int m) ∧ 0 < m ∧ m ≤ 10 ^ 30 := by
  obtain ⟨v, hv, h⟩ := four_at (x := V.int 2) (y := V.int 30) (z := V.int 800) (u := V.int most) r r0 r1
  rcases h with rfl | rfl | rfl | rfl
  · exact ⟨_, hv, by decide, by decide⟩
  · exact ⟨_, hv, by decide, by decide⟩
  · exact ⟨_, hv, by decide, by decide⟩
  · exact ⟨_, hv, h0, h1⟩
/-- the names of the first plans -/
def doneN (pls : List (Addr × List (List Nat × Bool))) : List (List Nat) := pls.flatMap fun q => q.2.map (·.1)
theorem doneN_len : ∀ {pls : List (Addr × List (List Nat × Bool))}, (∀ q ∈ pls, q.2.length ≤ 4) → (doneN pls).length ≤ 4 * pls.length
  | [], _ => Nat.le_refl _
  | q :: r, h => by
    have := doneN_len (pls := r) fun q hq => h q (List.mem_cons_of_mem _ hq)
    have h1 := h q (List.mem_cons_self ..)
    have e : doneN (q :: r) = q.2.map (·.1) ++ doneN r := rfl
    rw [e, List.length_append, List.length_map, List.length_cons]
    omega
theorem ok_nums (T : Txt K mg c) {f : Addr} {fd : FuncData} (F : Fun K "_law_numbers" "_law_numbers" sNums f fd) : FnOk P w K mg base CX0 2 f fd ["_law_tape_here", "_law_plans", "_law_most"] spNums := by
  have cP : Cal P w K mg base CX0 1 "_law_pick" spPick := cal_of T.d__law_pick fun f fd F => ok_pick T F
  refine F.ok scNums (fun vs H Q E h => ?_) (fun cdv A' outer s H vs Q E hr h => ?_)
  · obtain ⟨a, PL, most, pls, rfl, _⟩ := h
    rfl
  · obtain ⟨a, PL, most, pls, rfl, ta, m0, m1, ⟨hPL, hpl, hne, hps⟩, q⟩ := h
    refine ⟨_, (pss_cons (ps_set (i := 3) scNums.nd rfl (Or.inl rfl) pe_dnewK)
  (pss_cons (ps_for PassesOwn.never rfl (pi_list (pv 1)) (pg_name (i := 4) scNums.nd rfl (Or.inl rfl))
  (pss_one (ps_for PassesOwn.never rfl (pi_list (pe_ix ix_list (pv 4) pe_int (fun _ _ => rfl))) (pg_tup (by rfl) (pgs_cons (pg_name (i := 5) scNums.nd rfl (Or.inl rfl)) (pgs_cons (pg_name (i := 6) scNums.nd rfl (Or.inl rfl)) pgs_nil)))
  (pss_one (ps_dput (hu_of hr) (pv 3) (pv 5) (pe_c cP hr (by decide) rfl (pa_cons (pv 0) (pa_cons (pe_ix ix_list (pe_lst (pa_cons pe_int (pa_cons pe_int (pa_cons pe_int (pa_cons (pv 2) pa_nil))))) (pe_c cP hr (by decide) rfl (pa_cons (pv 0) (pa_cons pe_int pa_nil))) (fun _ _ => rfl)) pa_nil))) rfl)))))
  (pss_cons (ps_dput (hu_of hr) (pv 3) (pe_strS [115, 112, 97, 114, 101] (by decide +kernel)) (pe_ix ix_list (pe_lst (pa_cons pe_int (pa_cons (pe_un un_neg pe_int) (pa_cons (pe_op op_sub pe_int (pe_op op_pow pe_int pe_int)) pa_nil)))) (pe_c cP hr (by decide) rfl (pa_cons (pv 0) (pa_cons pe_int pa_nil))) (fun _ _ => rfl)) rfl)
  (pss_one (ps_ret (pv 3)))))), ?_⟩
    intro D hD
    have nD := ntape ta hD
    have nPL : PL ≠ a := fun z => by
      obtain ⟨x, y, e, _⟩ := ta
      rw [z, e] at hPL
      cases pls with
      | nil => exact hne rfl
      | cons q r => unfold tapeO at hPL; simp at hPL
    refine ⟨_, rfl, PL, rfl, ⟨_, SqL.of (same_new hD _ _ hPL)⟩, for_at (n := pls.length) (Y := yIt (pls.map fun q => V.ref q.1)) (fun i σ' H' => (∃ v4 v5 v6 : Option V, σ' = [some (.ref a), some (.ref PL), some (.int most), some (.ref D), v4, v5, v6]) ∧ NumI a D H (doneN (pls.take i)) H') ⟨⟨_, _, _, rfl⟩, Kp.new ta hD, [], upd_same, Nat.le_refl _, fun x hx => by simp [doneN] at hx⟩ ?_ ?_ ?_⟩
    · rintro i σ' H' hi ⟨_, z⟩
      have w := walks_l (K := K) (i := i) (SqL.of (z.1.1 _ _ nPL hPL))
      rw [List.length_map] at w
      exact w
    · rintro i v σ' H2 H1 hi ⟨rfl, hv⟩ ⟨⟨v4, v5, v6, rfl⟩, kk, kvs, eD, hk, hn⟩
      rw [List.getElem?_map] at hv
      obtain ⟨⟨P1, sl⟩, hq, rfl⟩ := Option.map_eq_some_iff.mp hv
      obtain ⟨⟨A, B, ts, hd, js, pl⟩, g, ns⟩ := hps _ (List.mem_of_getElem? hq)
      have pl2 := pl.kp ta kk
      have nDP : ∀ {b : Addr} {o : HO}, H b = some o → b ≠ D := fun e z => by rw [z, hD] at e; cases e
      refine ⟨_, rfl, P1, _, 1, _, rfl, rfl, SqL.of pl2.p, at_of (j := 1) rfl rfl, A, rfl, ⟨_, SqL.of pl2.a⟩, for_at (n := sl.length) (Y := yIt (ts.map V.ref)) (fun j σ' H' => (∃ v5 v6 : Option V, σ' = [some (.ref a), some (.ref PL), some (.int most), some (.ref D), some (.ref P1), v5, v6]) ∧ NumI a D H (doneN (pls.take i) ++ (sl.take j).map (·.1)) H') ⟨⟨_, _, rfl⟩, kk, kvs, eD, by simpa using hk, by simpa using hn⟩ ?_ ?_ ?_⟩
      · rintro j σ' H' hj ⟨_, z⟩
        have w := walks_l (K := K) (i := j) (SqL.of (pl.kp ta z.1).a)
        rw [List.length_map, pl.t.1] at w
        exact w
      · rintro j v σ' H4 H3 hj ⟨rfl, hv⟩ ⟨⟨v5, v6, rfl⟩, k3, kvs3, eD3, hk3, hn3⟩
        have pl3 := pl.kp ta k3
        obtain ⟨t, y, rfl, hy, et⟩ := slot_at pl3.t hv
        refine ⟨t, _, rfl, SqT.of et, rfl, _, _, rfl, _, _, rfl, rfl, ?_⟩
        refine ⟨_, rfl, _, rfl, (by show 4 ≤ sizeLine; decide), fun e he => ?_⟩
        have ne' := ntape k3.2 he
        have nDe : D ≠ e := fun z => by rw [← z, eD3] at he; cases he
        have k4 := k3.trans (Kp.new (o := .lst [V.int 2, V.int 30, V.int 800, V.int most]) k3.2 he)
        refine ⟨_, rfl, a, 4, rfl, k4.2, by decide, by decide, fun r H5 r0 r1 F5 => ?_⟩
        obtain ⟨mm, hm, hm0, hm1⟩ := four_int m0 m1 r r0 r1
        refine ⟨e, _, r, _, rfl, rfl, SqL.of (by rw [F5.1 e ne']; exact upd_same), hm, a, mm, rfl, F5.2, hm0, Int.lt_of_le_of_lt hm1 (by decide), fun n H6 n0 n1 F6 => ?_⟩
        have eD6 : H6 D = some (.dK kvs3) := by rw [F6.1 D nD, F5.1 D nD, upd_ne nDe]; exact eD3
        have k6 := (k4.trans (Kp.of F5)).trans (Kp.of F6)
        have ln : (doneN (pls.take i) ++ (sl.take j).map (·.1)).length ≤ 100 := by
          have h1 := doneN_len (pls := pls.take i) fun q hq => (hps q (List.mem_of_mem_take hq)).2.1.le
          have : sl.length ≤ 4 := g.le
          rw [List.length_take] at h1
          rw [List.length_append, List.length_map, List.length_take]
          omega
        refine ⟨_, rfl, _, rfl, D, _, rfl, DPut.k (k := Sum.inr (S y.1)) eD6 (small1000 (by omega)), ⟨_, _, rfl⟩, k6.mut hD nD, _, upd_same, ?_, ?_⟩
        · have := putK_le (kvs := kvs3) (k := Sum.inr (S y.1)) (v := .int n)
          rw [List.take_succ, hy, List.map_append]
          simp only [List.length_append] at hk3 ⊢
          simp
          simp at hk3
          omega
        · rw [List.take_succ, hy, List.map_append, ← List.append_assoc]
          exact num_put n0 (by have := Int.lt_of_lt_of_le n1 hm1; exact Int.lt_trans this (by decide)) hn3
      · rintro σ' H' ⟨⟨v5, v6, rfl⟩, k3, z⟩
        refine ⟨⟨_, _, _, rfl⟩, ?_⟩
        rw [List.take_length] at z
        have ed : doneN (pls.take (i + 1)) = doneN (pls.take i) ++ sl.map (·.1) := by
          rw [List.take_succ, hq]
          simp [doneN]
        rw [ed]
        exact ⟨k3, z⟩
    · rintro σ' H1 ⟨⟨v4, v5, v6, rfl⟩, kk, kvs, eD, hk, hn⟩
      rw [List.take_length] at hk hn
      refine ⟨_, rfl, 10, 20, rfl, rfl, ⟨by decide, by decide, by decide⟩, _, _, rfl, rfl, (by show 3 ≤ sizeLine; decide), fun e he => ?_⟩
      have nDe : D ≠ e := fun z => by rw [← z, eD] at he; cases he
      have ne' := ntape kk.2 he
      generalize hxs : ([V.int 7, V.int (-1), V.int (0 - 10 ^ Int.toNat 20)] : List V) = xs
      have k4 := kk.trans (Kp.new (o := .lst xs) kk.2 he)
      refine ⟨_, rfl, a, 3, rfl, k4.2, by decide, by decide, fun r H5 r0 r1 F5 => ?_⟩
      have ex : ∃ v, atI xs r = some v := by
        subst hxs
        obtain ⟨v, hv, _⟩ := three_at (x := V.int 7) (y := V.int (-1)) (z := V.int (0 - 10 ^ Int.toNat 20)) r r0 r1
        exact ⟨v, hv⟩
      obtain ⟨v, hv⟩ := ex
      have eD5 : H5 D = some (.dK kvs) := by rw [F5.1 D nD, upd_ne nDe]; exact eD
      have k5 := k4.trans (Kp.of F5)
      have ln := doneN_len (pls := pls) fun q hq => (hps q hq).2.1.le
      refine ⟨e, _, r, v, rfl, rfl, SqL.of (by rw [F5.1 e ne']; exact upd_same), hv, _, rfl, D, _, rfl, DPut.k (k := Sum.inr (S spareL)) eD5 (small1000 (by omega)), ?_⟩
      refine ⟨_, rfl, q D _ _ (k5.mut hD nD) hD upd_same fun qq hqq x hx => ?_⟩
      obtain ⟨n, en, hl⟩ := hn x.1 (List.mem_flatMap.mpr ⟨qq, hqq, List.mem_map.mpr ⟨x, hx, rfl⟩⟩)
      have e2 : valV (putK kvs (Sum.inr (S spareL)) v) (Sum.inr (S x.1)) = some (.int n) := by
        rw [valV_put, if_neg (fun z => (hps qq hqq).2.2 x hx (S_inj (Sum.inr.inj z)))]
        exact en
      have e3 : numOf (putK kvs (Sum.inr (S spareL)) v) x.1 = n := by
        unfold numOf
        rw [e2]
        rfl
      rw [e3]
      exact ⟨e2, hl⟩
end
section
variable {P : Program} {w : World} {K : PySem.W.Frag} {mg : Str → Option Value} {base : Heap} {c : Cs}
/-! ### the number of a word -/
theorem walks_s {l : List Nat} {i : Nat} {H : Hp} : Walks (Its (S l)) l.length (yIt (l.map fun c => V.str (S [c]))) i H :=
  ⟨fun z => by show (S l).cps.size ≤ i; exact z, fun z => by show i < (S l).cps.size; exact z, fun v H' ⟨e, c, hc, ev⟩ => ⟨e, by
    subst ev
    have hc' : l[i]? = some c := by simpa using hc
    rw [List.getElem?_map, hc']
    rfl⟩⟩
abbrev alpL : List Nat := [97, 98, 99, 100, 101, 102, 103, 104, 105, 106, 107, 108, 109, 110, 111, 112, 113, 114, 115, 116, 117, 118, 119, 120, 121, 122]
abbrev digitL : List Nat := [48, 49, 50, 51, 52, 53, 54, 55, 56, 57]
theorem mem_alpha (c : Nat) : decide (c ∈ alpL) = (decide (97 ≤ c) && decide (c ≤ 122)) := by
  rw [show alpL = List.range' 97 26 from by decide, ← Bool.decide_and]
  refine decide_eq_decide.mpr ?_
  rw [List.mem_range'_1]
  omega
theorem mem_digit (c : Nat) : decide (c ∈ digitL) = (decide (48 ≤ c) && decide (c ≤ 57)) := by
  rw [show digitL = List.range' 48 10 from by decide, ← Bool.decide_and]
  refine decide_eq_decide.mpr ?_
  rw [List.mem_range'_1]
  omega
theorem occ_alpha : ∀ k : Nat, k < 26 → Builtin.Str.occurrences (S alpL) (S [97 + k]) 0 (S alpL).length 1 = [k] := by decide +kernel
theorem filter_nil (l al : List Nat) : decide ((l.filter fun c => !decide (c ∈ al)) = []) = l.all fun c => decide (c ∈ al) := by
  rw [Bool.eq_iff_iff, decide_eq_true_iff, List.filter_eq_nil_iff, List.all_eq_true]
  simp
theorem filt_snoc {w : List Nat} {p : Nat → Bool} {i ch : Nat} (hc : w[i]? = some ch) : (w.take (i + 1)).filter p = (w.take i).filter p ++ (if p ch = true then [ch] else []) := by
  rw [List.take_succ, hc, List.filter_append]
  show _ ++ List.filter p [ch] = _
  by_cases h : p ch = true
  · rw [if_pos h, List.filter_cons_of_pos h, List.filter_nil]
  · rw [if_neg h, List.filter_cons_of_neg h, List.filter_nil]
theorem sh_chars {l : List Nat} (h : Uni l) : SeqAt.shaped (.list (l.map dJ)) = true := (shk_list (k := 0) (shk_map fun d hd => shk_str (fun x hx => by rw [List.mem_singleton.mp hx]; exact h d hd) 0)).sh (by decide)
abbrev sNumb : Stmt := top 49
theorem scNumb : FnScope ["_law_form", "_law_word_here", "_law_signs", "_law_sign", "_law_found"] ["_law_form", "_law_word_here"] (defScope sNumb) := ⟨rfl, rfl, rfl, by decide +kernel, rfl, by decide +kernel, by decide +kernel⟩
def spNumb : Sp := fun vs H Q _ => ∃ (b : Bool) (w : List Nat), vs = [.str (S (formL b)), .str (S w)] ∧ w.length ≤ 600 ∧ Uni w ∧ (rdOk b w = true → ∀ H', Same H H' → Q (.int (rdVal b w)) H') ∧ (rdOk b w = false → ∀ H', Same H H' → Q .non H')
theorem ok_numb (T : Txt K mg c) {f : Addr} {fd : FuncData} (F : Fun K "_law_number" "_law_number" sNumb f fd) : FnOk P w K mg base CX0 1 f fd ["_law_form", "_law_word_here"] spNumb := by
  refine F.ok scNumb (fun vs H Q E h => ?_) (fun cdv A' outer s H vs Q E hr h => ?_)
  · obtain ⟨b, w, rfl, _⟩ := h
    rfl
  · obtain ⟨b, w, rfl, hl, hu, q1, q2⟩ := h
    refine ⟨_, (pss_cons (ps_if (PW.pt (pw_and (pt_cmpR op_eq (pv 0) (pe_strS [108, 101, 116, 116, 101, 114, 115] (by decide +kernel)) (nomark _)) (pw_and1 (pt_cmpR op_eq (pv 1) (pe_strS [45] (by decide +kernel)) (nomark _))))) (pss_one (ps_ret pe_int)) pss_nil)
  (pss_cons (ps_set (i := 2) scNumb.nd rfl (Or.inr rfl) (pe_ifExp (pt_cmpR op_eq (pv 0) (pe_strS [102, 105, 103, 117, 114, 101, 115] (by decide +kernel)) (nomark _)) (pe_strS [48, 49, 50, 51, 52, 53, 54, 55, 56, 57] (by decide +kernel)) (pe_strS [97, 98, 99, 100, 101, 102, 103, 104, 105, 106, 107, 108, 109, 110, 111, 112, 113, 114, 115, 116, 117, 118, 119, 120, 121, 122] (by decide +kernel))))
  (pss_cons (ps_if (PW.pt (pw_or (pt_cmpR op_eq (pv 1) (pe_strS ([] : List Nat) (by decide +kernel)) (nomark _)) (pw_or1 (pt_cmpR (op_neD hr.units) (pe_lc (own := [("_law_sign", 3)]) (g := (gName 3)) (tt := _) rfl scNumb.nd (pi_str (pv 1)) (blkOk_by (N := ["_law_form", "_law_word_here", "_law_signs", "_law_sign", "_law_found"]) (sc := defScope sNumb) (by decide +kernel)) (fun _ _ _ _ _ => (pg_name (i := 3) scNumb.nd rfl (Or.inl rfl))) (fun _ _ _ _ _ => (pts_one (pt_cmpR op_notIn_sign (pv 3) (pv 2) (by rfl)))) (fun _ _ _ _ _ => (pv 3))) (pe_lst pa_nil) (nomark _))))) (pss_one (ps_ret pe_non)) pss_nil)
  (pss_cons (ps_if (pt_cmpR op_eq (pv 0) (pe_strS [102, 105, 103, 117, 114, 101, 115] (by decide +kernel)) (nomark _)) (pss_one (ps_ret (pe_ifExp (PW.pt (pw_or (pt_cmpR op_eq (pv 1) (pe_strS [48] (by decide +kernel)) (nomark _)) (pw_or1 (pt_cmpR op_ne (pe_ix ix_S (pv 1) pe_int (fun _ _ => rfl)) (pe_strS [48] (by decide +kernel)) (nomark _))))) (pe_callTy call_int_str (by rfl) T.z_int (by decide +kernel) (pa_cons (pv 1) pa_nil)) pe_non))) pss_nil)
  (pss_cons (ps_set (i := 4) scNumb.nd rfl (Or.inl rfl) pe_int)
  (pss_cons (ps_for PassesOwn.never rfl (pi_str (pv 1)) (pg_name (i := 3) scNumb.nd rfl (Or.inl rfl))
  (pss_one (ps_set (i := 4) scNumb.nd rfl (Or.inl rfl) (pe_op op_add (pe_op op_add (pe_op op_mul (pv 4) pe_int) (pe_bm PySem.F.plainAttrs_str PySem.F.slot_str_index PySem.F.type_str_index mt_sindex (pv 2) (pa_cons (pv 3) pa_nil))) pe_int))))
  (pss_one (ps_ret (pv 4))))))))), ?_⟩
    cases b
    case true =>
      refine ⟨_, rfl, rfl, _, rfl, if_true_of (by decide) ?_⟩
      refine ⟨_, rfl, rfl, _, rfl, ?_⟩
      rw [S_dec]
      by_cases e1 : w = [45]
      · refine if_true_of (decide_eq_true e1) ?_
        subst e1
        exact q1 rfl H fun _ _ e => e
      refine if_false_of (decide_eq_false e1) ?_
      refine ⟨_, rfl, rfl, _, rfl, if_false_of (by decide) ?_⟩
      refine ⟨_, rfl, rfl, _, rfl, ?_⟩
      rw [S_dec]
      by_cases e0 : w = []
      · refine if_true_of (decide_eq_true e0) (if_true_of rfl ?_)
        subst e0
        exact q2 rfl H fun _ _ e => e
      refine if_false_of (decide_eq_false e0) ?_
      have er : rdOk true w = w.all fun c => decide (c ∈ alpL) := by
        unfold rdOk letOk
        rw [if_pos rfl, beq_false_of_ne e1, Bool.false_or, (by cases w with | nil => exact absurd rfl e0 | cons x r => rfl : w.isEmpty = false), Bool.not_false, Bool.true_and]
        congr 1
        funext c
        rw [mem_alpha]
      refine ⟨_, rfl, S w, rfl, fun D hD => lc_at (n := w.length) (Y := yIt (w.map fun c => V.str (S [c]))) (fun i H' => Same H H' ∧ H' D = some (.lst (((w.take i).filter fun c => !decide (c ∈ alpL)).map fun c => V.str (S [c])))) ⟨same_new hD, upd_same⟩ (fun i H' hi z => walks_s) (fun i v H2 H1 hi yy z => ?_) (fun H' z => ?_)⟩
      · obtain ⟨rfl, hv⟩ := yy
        obtain ⟨s1, hz⟩ := z
        rw [List.getElem?_map] at hv
        obtain ⟨ch, hc, rfl⟩ := Option.map_eq_some_iff.mp hv
        refine ⟨rfl, _, rfl, _, rfl, ch, S alpL, rfl, rfl, _, rfl, ?_⟩
        have hlen : ((w.take i).filter fun c => !decide (c ∈ alpL)).length ≤ 600 := Nat.le_trans (List.length_filter_le _ _) (by rw [List.length_take]; omega)
        by_cases hm : ch ∈ alpL
        · refine if_false_of (by show (!decide (ch ∈ alpL)) = false; rw [decide_eq_true hm]; rfl) ?_
          refine ⟨s1, ?_⟩
          rw [filt_snoc hc, if_neg (by rw [decide_eq_true hm]; decide), List.append_nil]
          exact hz
        · refine if_true_of (by show (!decide (ch ∈ alpL)) = true; rw [decide_eq_false hm]; rfl) ?_
          refine ⟨_, rfl, _, hz, by rw [List.length_map]; exact small1000 (by omega), same_mut s1 hD, ?_⟩
          rw [upd_same, filt_snoc hc, if_pos (by rw [decide_eq_false hm]; rfl), List.map_append]
          rfl
      obtain ⟨s1, hz⟩ := z
      rw [List.take_length] at hz
      refine ⟨(by show 0 ≤ sizeLine; decide), fun e he => ?_⟩
      have se := same_new (o := .lst []) he
      have ee := upd_same (H := H') (a := e) (o := .lst [])
      have uf : Uni (w.filter fun c => !decide (c ∈ alpL)) := fun x hx => hu x ((List.mem_filter.mp hx).1)
      refine ⟨.list ((w.filter fun c => !decide (c ∈ alpL)).map dJ), .list [], .lst (SqL.of (se _ _ hz)) (dp_js _), .lst (SqL.of ee) .nil, sh_chars uf, rfl, _, rfl, ?_⟩
      rw [eqv_jsl, filter_nil, ← er]
      have s2 := s1.trans se
      cases e2 : rdOk true w
      case false => exact if_true_of rfl (q2 e2 _ s2)
      case true =>
      refine if_false_of rfl ?_
      refine ⟨_, rfl, rfl, _, rfl, if_false_of (by decide) ?_⟩
      have all : ∀ x ∈ w, 97 ≤ x ∧ x ≤ 122 := fun x hx => by
        have h := List.all_eq_true.mp (er.symm.trans e2) x hx
        rw [mem_alpha] at h
        simpa using h
      generalize upd H' e (.lst []) = H3 at s2 ⊢
      refine ⟨_, rfl, S w, rfl, for_at (n := w.length) (Y := yIt (w.map fun c => V.str (S [c]))) (fun i σ' H' => (∃ v3 : Option V, σ' = [some (.str (S (formL true))), some (.str (S w)), some (.str (S alpL)), v3, some (.int (wval (w.take i)))]) ∧ H' = H3) ⟨⟨_, rfl⟩, rfl⟩ (fun i σ' H' hi z => walks_s) ?_ ?_⟩
      · rintro i v σ' H5 H4 hi ⟨rfl, hv⟩ ⟨⟨v3, rfl⟩, rfl⟩
        rw [List.getElem?_map] at hv
        obtain ⟨ch, hc, rfl⟩ := Option.map_eq_some_iff.mp hv
        obtain ⟨c1, c2⟩ := all ch (List.mem_of_getElem? hc)
        have oc := occ_alpha (ch - 97) (by omega)
        rw [show 97 + (ch - 97) = ch from by omega] at oc
        refine ⟨_, rfl, _, _, rfl, rfl, .inr ⟨by decide, by decide⟩, _, rfl, rfl, _, rfl, S alpL, S [ch], ch - 97, [], rfl, rfl, oc, _, _, rfl, rfl, _, _, rfl, rfl, ⟨some (.str (S [ch])), ?_⟩, rfl⟩
        rw [List.take_succ, hc]
        show [_, _, _, _, _] = [_, _, _, _, some (V.int (wval (w.take i ++ [ch])))]
        have hw : ((wval (w.take i) : Nat) : Int) * 26 + ((ch - 97 : Nat) : Int) + 1 = ((wval (w.take i ++ [ch]) : Nat) : Int) := by
          rw [wval_snoc]
          omega
        rw [← hw]
      · rintro σ' H' ⟨⟨v3, rfl⟩, rfl⟩
        rw [List.take_length]
        refine ⟨_, rfl, ?_⟩
        have z := q1 e2 H' s2
        unfold rdVal letVal at z
        rw [if_pos rfl, if_neg e1] at z
        exact z
    case false =>
      refine ⟨_, rfl, rfl, _, rfl, if_false_of (by decide) (if_false_of rfl ?_)⟩
      refine ⟨_, rfl, rfl, _, rfl, if_true_of (by decide) ?_⟩
      refine ⟨_, rfl, rfl, _, rfl, ?_⟩
      rw [S_dec]
      by_cases e0 : w = []
      · refine if_true_of (decide_eq_true e0) (if_true_of rfl ?_)
        subst e0
        exact q2 rfl H fun _ _ e => e
      refine if_false_of (decide_eq_false e0) ?_
      have ee0 : w.isEmpty = false := by cases w with | nil => exact absurd rfl e0 | cons x r => rfl
      have er : rdOk false w = ((w.all fun c => decide (c ∈ digitL)) && (!(w.head? == some 48) || w.length == 1)) := by
        unfold rdOk figOk
        rw [if_neg (by decide), ee0, Bool.not_false, Bool.true_and]
        congr 2
        funext c
        rw [mem_digit]
      refine ⟨_, rfl, S w, rfl, fun D hD => lc_at (n := w.length) (Y := yIt (w.map fun c => V.str (S [c]))) (fun i H' => Same H H' ∧ H' D = some (.lst (((w.take i).filter fun c => !decide (c ∈ digitL)).map fun c => V.str (S [c])))) ⟨same_new hD, upd_same⟩ (fun i H' hi z => walks_s) (fun i v H2 H1 hi yy z => ?_) (fun H' z => ?_)⟩
      · obtain ⟨rfl, hv⟩ := yy
        obtain ⟨s1, hz⟩ := z
        rw [List.getElem?_map] at hv
        obtain ⟨ch, hc, rfl⟩ := Option.map_eq_some_iff.mp hv
        refine ⟨rfl, _, rfl, _, rfl, ch, S digitL, rfl, rfl, _, rfl, ?_⟩
        have hlen : ((w.take i).filter fun c => !decide (c ∈ digitL)).length ≤ 600 := Nat.le_trans (List.length_filter_le _ _) (by rw [List.length_take]; omega)
        by_cases hm : ch ∈ digitL
        · refine if_false_of (by show (!decide (ch ∈ digitL)) = false; rw [decide_eq_true hm]; rfl) ?_
          refine ⟨s1, ?_⟩
          rw [filt_snoc hc, if_neg (by rw [decide_eq_true hm]; decide), List.append_nil]
          exact hz
        · refine if_true_of (by show (!decide (ch ∈ digitL)) = true; rw [decide_eq_false hm]; rfl) ?_
          refine ⟨_, rfl, _, hz, by rw [List.length_map]; exact small1000 (by omega), same_mut s1 hD, ?_⟩
          rw [upd_same, filt_snoc hc, if_pos (by rw [decide_eq_false hm]; rfl), List.map_append]
          rfl
      obtain ⟨s1, hz⟩ := z
      rw [List.take_length] at hz
      refine ⟨(by show 0 ≤ sizeLine; decide), fun e he => ?_⟩
      have se := same_new (o := .lst []) he
      have ee := upd_same (H := H') (a := e) (o := .lst [])
      have uf : Uni (w.filter fun c => !decide (c ∈ digitL)) := fun x hx => hu x ((List.mem_filter.mp hx).1)
      refine ⟨.list ((w.filter fun c => !decide (c ∈ digitL)).map dJ), .list [], .lst (SqL.of (se _ _ hz)) (dp_js _), .lst (SqL.of ee) .nil, sh_chars uf, rfl, _, rfl, ?_⟩
      rw [eqv_jsl, filter_nil]
      have s2 := s1.trans se
      cases e2 : w.all fun c => decide (c ∈ digitL)
      case false => exact if_true_of rfl (q2 (by rw [er, e2]; rfl) _ s2)
      case true =>
      rw [e2, Bool.true_and] at er
      refine if_false_of rfl ?_
      refine ⟨_, rfl, rfl, _, rfl, if_true_of (by decide) ?_⟩
      generalize upd H' e (.lst []) = H3 at s2 ⊢
      have hall : w.all (fun c => decide (48 ≤ c) && decide (c ≤ 57)) = true := by
        rw [← e2]
        congr 1
        funext c
        rw [mem_digit]
      have fin : rdOk false w = true → Q (.int (NumText.digitsVal w : Nat)) H3 := fun z => q1 z H3 s2
      have hi : intText? (S w) = some ((NumText.digitsVal w : Nat) : Int) := SX.int_S hall e0 (by omega)
      refine ⟨_, rfl, rfl, _, rfl, ?_⟩
      rw [S_dec]
      by_cases e3 : w = [48]
      · refine if_true_of (decide_eq_true e3) (if_true_of rfl ?_)
        exact ⟨_, rfl, S w, _, rfl, hi, by rw [S_len]; omega, fin (by rw [er, e3]; rfl)⟩
      refine if_false_of (decide_eq_false e3) ?_
      obtain ⟨x, r, rfl⟩ : ∃ x r, w = x :: r := by cases w with | nil => exact absurd rfl e0 | cons x r => exact ⟨x, r, rfl⟩
      refine ⟨_, rfl, x :: r, 0, x, rfl, rfl, by omega, (by unfold atI ixN; rw [if_pos (Int.le_refl 0), if_pos (by simp)]; rfl), rfl, _, rfl, ?_⟩
      rw [S_dec]
      by_cases e4 : x = 48
      · refine if_false_of (by rw [decide_eq_true (by rw [e4])]; rfl) ?_
        refine q2 ?_ H3 s2
        rw [er, e4]
        cases r with
        | nil => exact absurd (by rw [e4]) e3
        | cons y r => simp
      · refine if_true_of (by rw [decide_eq_false (fun z => e4 (by simpa using z))]; rfl) ?_
        exact ⟨_, rfl, S (x :: r), _, rfl, hi, by rw [S_len]; omega, fin (by rw [er]; simp [e4])⟩
end
section
variable {P : Program} {w : World} {K : PySem.W.Frag} {mg : Str → Option Value} {base : Heap} {c : Cs}
/-! ### a line cut at the joints, sign by sign -/
def splitJ : List Nat → List Nat → List Nat → List (List Nat)
  | _, cur, [] => [cur]
  | [], cur, c :: l => splitJ [] (cur ++ [c]) l
  | d :: ds, cur, c :: l => if c = d then cur :: splitJ ds [] l else splitJ (d :: ds) (cur ++ [c]) l
theorem split_nil (ds cur : List Nat) : splitJ ds cur [] = [cur] := by cases ds <;> rfl
theorem split_len : ∀ (ds cur l : List Nat), (splitJ ds cur l).length ≤ ds.length + 1
  | ds, cur, [] => by rw [split_nil]; simp
  | [], cur, c :: l => split_len [] (cur ++ [c]) l
  | d :: ds, cur, c :: l => by
    unfold splitJ
    split
    · have := split_len ds [] l
      simp only [List.length_cons]
      omega
    · exact split_len (d :: ds) (cur ++ [c]) l
theorem cut_none {d : Nat} : ∀ {l : List Nat}, d ∉ l → cutAt d l = (l, [])
  | [], _ => rfl
  | x :: r, h => by
    unfold cutAt
    rw [if_neg (fun e => h (by rw [e]; exact List.mem_cons_self ..)), cut_none (fun m => h (List.mem_cons_of_mem _ m))]
theorem cut_at {d : Nat} {q : List Nat} : ∀ {p : List Nat}, d ∉ p → cutAt d (p ++ d :: q) = (p, q)
  | [], _ => by
    show cutAt d (d :: q) = _
    unfold cutAt
    rw [if_pos rfl]
  | x :: r, h => by
    show cutAt d (x :: (r ++ d :: q)) = _
    unfold cutAt
    rw [if_neg (fun e => h (by rw [e]; exact List.mem_cons_self ..)), cut_at (fun m => h (List.mem_cons_of_mem _ m))]
theorem part_nil : ∀ ds : List Nat, [] ∈ partL ds []
  | [] => List.mem_cons_self ..
  | d :: ds => List.mem_cons_self ..
/-- all joints met: the pieces; not all: an empty piece -/
theorem split_part : ∀ (ds cur l : List Nat), (∀ d, ds.head? = some d → d ∉ cur) → ((splitJ ds cur l).length = ds.length + 1 → splitJ ds cur l = partL ds (cur ++ l)) ∧ ((splitJ ds cur l).length ≠ ds.length + 1 → [] ∈ partL ds (cur ++ l))
  | [], cur, [], _ => ⟨fun _ => by simp [split_nil, partL], fun z => absurd rfl z⟩
  | d :: ds, cur, [], h => ⟨fun z => by simp [split_nil] at z, fun _ => by
      rw [List.append_nil]
      unfold partL
      rw [cut_none (h d rfl)]
      exact List.mem_cons_of_mem _ (part_nil ds)⟩
  | [], cur, c :: l, _ => by
    have r := split_part [] (cur ++ [c]) l fun d z => nomatch z
    rw [List.append_assoc] at r
    exact r
  | d :: ds, cur, c :: l, h => by
    unfold splitJ
    by_cases e : c = d
    · subst e
      rw [if_pos rfl]
      have r := split_part ds [] l fun d _ => by simp
      unfold partL
      rw [cut_at (h c rfl)]
      refine ⟨fun z => ?_, fun z => ?_⟩
      · rw [r.1 (by simpa using z)]
        rfl
      · exact List.mem_cons_of_mem _ (r.2 (fun y => z (by simp [y])))
    · rw [if_neg e]
      have r := split_part (d :: ds) (cur ++ [c]) l fun x z m => by
        rcases List.mem_append.mp m with m | m
        · exact h x z m
        · rw [List.mem_singleton.mp m] at z
          exact e (Option.some.inj z).symm
      rw [List.append_assoc] at r
      exact r
theorem cut_sub {d : Nat} (l : List Nat) : (∀ c ∈ (cutAt d l).1, c ∈ l) ∧ ∀ c ∈ (cutAt d l).2, c ∈ l := by
  rcases cut_spec d l with ⟨_, e⟩ | ⟨p, q, rfl, _, e⟩
  · rw [e]
    exact ⟨fun c h => h, fun c h => nomatch h⟩
  · rw [e]
    exact ⟨fun c h => by simp [h], fun c h => by simp [h]⟩
theorem partL_sub : ∀ (js l : List Nat), ∀ p ∈ partL js l, ∀ c ∈ p, c ∈ l
  | [], l, p, hp, c, hc => by
    rw [List.mem_singleton.mp (show p ∈ [l] from hp)] at hc
    exact hc
  | d :: ds, l, p, hp, c, hc => by
    rcases List.mem_cons.mp (show p ∈ (cutAt d l).1 :: partL ds (cutAt d l).2 from hp) with rfl | hp
    · exact (cut_sub l).1 c hc
    · exact (cut_sub l).2 c (partL_sub ds _ p hp c hc)
theorem rd_empty (b : Bool) : rdOk b [] = false := by cases b <;> rfl
/-- an empty piece: no text of the label -/
theorem no_text {hd : List Nat} {sl : List (List Nat × Bool)} {js l : List Nat} (g : GoodLab hd sl js) (h : [] ∈ partL js (l.drop hd.length)) : readOk hd sl js l = false := by
  unfold readOk
  rw [Bool.and_eq_false_iff]
  refine .inr ?_
  rw [Bool.eq_false_iff]
  intro z
  obtain ⟨i, hi⟩ := List.mem_iff_getElem?.mp h
  have hl : i < sl.length := by
    have := (List.getElem?_eq_some_iff.mp hi).1
    rw [(partL_len js _).1] at this
    have := g.l
    omega
  have hq : (pairsR hd sl js l)[i]? = some (sl[i], []) := by
    unfold pairsR
    rw [List.getElem?_zip_eq_some]
    exact ⟨List.getElem?_eq_getElem hl, hi⟩
  have := List.all_eq_true.mp z _ (List.mem_of_getElem? hq)
  unfold okP at this
  rw [rd_empty] at this
  cases this
theorem set_last {α : Type} (xs : List α) (a b : α) : (xs ++ [a]).set xs.length b = xs ++ [b] := by
  induction xs with
  | nil => rfl
  | cons x r ih => simp [ih]
abbrev sLrdd : Stmt := top 50
theorem scLrdd : FnScope ["_law_plan_here", "_law_line", "_law_words", "_law_sign", "_law_told", "_law_k", "_law_number_here"] ["_law_plan_here", "_law_line"] (defScope sLrdd) := ⟨rfl, rfl, rfl, by decide +kernel, rfl, by decide +kernel, by decide +kernel⟩
def spLrdd : Sp := fun vs H Q _ => ∃ (P A B : Addr) (ts : List Addr) (hd : List Nat) (sl : List (List Nat × Bool)) (js l : List Nat), vs = [.ref P, .str (S l)] ∧ PlanAt H P A B ts hd sl js ∧ GoodLab hd sl js ∧ l.length ≤ 600 ∧ Uni l ∧
  (readOk hd sl js l = true → ∀ (p : Addr) (H' : Hp), Same H H' → H p = none → H' p = some (.dK (readKv hd sl js l)) → Q (.ref p) H') ∧ (readOk hd sl js l = false → ∀ H', Same H H' → Q .non H')
theorem ok_lrdd (T : Txt K mg c) {f : Addr} {fd : FuncData} (F : Fun K "_law_read" "_law_read" sLrdd f fd) : FnOk P w K mg base CX0 2 f fd ["_law_plan_here", "_law_line"] spLrdd := by
  have cNb : Cal P w K mg base CX0 1 "_law_number" spNumb := cal_of T.d__law_number fun f fd F => ok_numb T F
  refine F.ok scLrdd (fun vs H Q E h => ?_) (fun cdv A' outer s H vs Q E hr h => ?_)
  · obtain ⟨P, A, B, ts, hd, sl, js, l, rfl, _⟩ := h
    rfl
  · obtain ⟨P, A, B, ts, hd, sl, js, l, rfl, pl, g, hl, hu, q1, q2⟩ := h
    refine ⟨_, (pss_cons (ps_if (pt_cmpR op_ne (pe_slice sl_to (pv 1) po_none (po_some (pe_callB call_lenS (by rfl) T.z_len (by decide +kernel) (pa_cons (pe_ix ix_list (pv 0) pe_int (fun _ _ => rfl)) pa_nil)))) (pe_ix ix_list (pv 0) pe_int (fun _ _ => rfl)) (nomark _)) (pss_one (ps_ret pe_non)) pss_nil)
  (pss_cons (ps_set (i := 2) scLrdd.nd rfl (Or.inl rfl) (pe_lst (pa_cons (pe_strS ([] : List Nat) (by decide +kernel)) pa_nil)))
  (pss_cons (ps_for PassesOwn.never rfl (pi_str (pe_slice sl_from (pv 1) (po_some (pe_callB call_lenS (by rfl) T.z_len (by decide +kernel) (pa_cons (pe_ix ix_list (pv 0) pe_int (fun _ _ => rfl)) pa_nil))) po_none)) (pg_name (i := 3) scLrdd.nd rfl (Or.inl rfl))
  (pss_one (ps_if (PW.pt (pw_and (pt_cmpR op_le (pe_callB call_len_seq (by rfl) T.z_len (by decide +kernel) (pa_cons (pv 2) pa_nil)) (pe_callB call_len_seq (by rfl) T.z_len (by decide +kernel) (pa_cons (pe_ix ix_list (pv 0) pe_int (fun _ _ => rfl)) pa_nil)) (nomark _)) (pw_and1 (pt_cmpR op_eq (pv 3) (pe_ix ix_list (pe_ix ix_list (pv 0) pe_int (fun _ _ => rfl)) (pe_op op_sub (pe_callB call_len_seq (by rfl) T.z_len (by decide +kernel) (pa_cons (pv 2) pa_nil)) pe_int) (fun _ _ => rfl)) (nomark _))))) (pss_one (ps_expr (pe_bm PySem.F.plainAttrs_list PySem.F.slot_list_append PySem.F.type_list_append mt_append (pv 2) (pa_cons (pe_strS ([] : List Nat) (by decide +kernel)) pa_nil)))) (pss_one (ps_asg (pe_op op_catS (pe_ix ix_list (pv 2) (pe_un un_neg pe_int) (fun _ _ => rfl)) (pv 3)) (pg_sub (pv 2) (pe_un un_neg pe_int) set_list))))))
  (pss_cons (ps_if (pt_cmpR op_ne (pe_callB call_len_seq (by rfl) T.z_len (by decide +kernel) (pa_cons (pv 2) pa_nil)) (pe_callB call_len_seq (by rfl) T.z_len (by decide +kernel) (pa_cons (pe_ix ix_list (pv 0) pe_int (fun _ _ => rfl)) pa_nil)) (nomark _)) (pss_one (ps_ret pe_non)) pss_nil)
  (pss_cons (ps_set (i := 4) scLrdd.nd rfl (Or.inl rfl) pe_dnewK)
  (pss_cons (ps_for PassesOwn.never rfl (pi_range1 (by rfl) T.z_range (pa_cons (pe_callB call_len_seq (by rfl) T.z_len (by decide +kernel) (pa_cons (pv 2) pa_nil)) pa_nil)) (pg_name (i := 5) scLrdd.nd rfl (Or.inl rfl))
  (pss_cons (ps_set (i := 6) scLrdd.nd rfl (Or.inl rfl) (pe_c cNb hr (by decide) rfl (pa_cons (pe_ix ix_tup (pe_ix ix_list (pe_ix ix_list (pv 0) pe_int (fun _ _ => rfl)) (pv 5) (fun _ _ => rfl)) pe_int (fun _ _ => rfl)) (pa_cons (pe_ix ix_list (pv 2) (pv 5) (fun _ _ => rfl)) pa_nil))))
  (pss_cons (ps_if (pt_cmpR op_isN (pv 6) pe_non (nomark _)) (pss_one (ps_ret pe_non)) pss_nil)
  (pss_one (ps_dput (hu_of hr) (pv 4) (pe_ix ix_tup (pe_ix ix_list (pe_ix ix_list (pv 0) pe_int (fun _ _ => rfl)) (pv 5) (fun _ _ => rfl)) pe_int (fun _ _ => rfl)) (pv 6) rfl)))))
  (pss_one (ps_ret (pv 4))))))))), ?_⟩
    have hdl := g.hl
    refine ⟨_, rfl, _, rfl, P, _, 0, _, rfl, rfl, SqL.of pl.p, at_of (j := 0) rfl rfl, hd, rfl, by omega, _, rfl, l, _, rfl, rfl, rfl, Int.natCast_nonneg _, by omega, _, rfl, P, _, 0, _, rfl, rfl, SqL.of pl.p, at_of (j := 0) rfl rfl, rfl, _, rfl, ?_⟩
    rw [S_dec, Int.toNat_natCast]
    by_cases e0 : l.take hd.length = hd
    case neg =>
      refine if_true_of (by rw [decide_eq_false e0]; rfl) ?_
      exact q2 (by unfold readOk; rw [beq_false_of_ne e0, Bool.false_and]) H fun _ _ e => e
    refine if_false_of (by rw [decide_eq_true e0]; rfl) ?_
    refine ⟨(by show 1 ≤ sizeLine; decide), fun W hW => ?_⟩
    have s1 := same_new (o := .lst [V.str (S [])]) hW
    have eW := upd_same (H := H) (a := W) (o := .lst [V.str (S [])])
    refine ⟨_, rfl, _, rfl, P, _, 0, _, rfl, rfl, SqL.of (s1 _ _ pl.p), at_of (j := 0) rfl rfl, hd, rfl, by omega, _, rfl, l, _, rfl, rfl, rfl, Int.natCast_nonneg _, by omega, ?_⟩
    rw [Int.toNat_natCast]
    generalize hm : l.drop hd.length = m
    have ml : m.length ≤ 600 := by rw [← hm, List.length_drop]; omega
    have jl := g.jl
    generalize hH1 : upd H W (.lst [V.str (S [])]) = H1 at s1 eW ⊢
    refine ⟨S m, rfl, for_at (n := m.length) (Y := yIt (m.map fun c => V.str (S [c]))) (fun i σ' H' => (∃ v3 : Option V, σ' = [some (.ref P), some (.str (S l)), some (.ref W), v3, none, none, none]) ∧ Same H H' ∧ ∃ (ds : List (List Nat)) (cur : List Nat), H' W = some (.lst ((ds ++ [cur]).map fun x => V.str (S x))) ∧
      ds.length ≤ js.length ∧ cur.length ≤ i ∧ splitJ js [] m = ds ++ splitJ (js.drop ds.length) cur (m.drop i)) ⟨⟨_, rfl⟩, s1, [], [], eW, Nat.zero_le _, Nat.le_refl _, rfl⟩ (fun i σ' H' hi z => walks_s) ?_ ?_⟩
    · rintro i v σ' H5 H4 hi ⟨rfl, hv⟩ ⟨⟨v3, rfl⟩, s4, ds, cur, eW4, hds, hcur, hsp⟩
      rw [List.getElem?_map] at hv
      obtain ⟨ch, hc, rfl⟩ := Option.map_eq_some_iff.mp hv
      obtain ⟨hil, hce⟩ := List.getElem?_eq_some_iff.mp hc
      have hdr : m.drop i = ch :: m.drop (i + 1) := by rw [List.drop_eq_getElem_cons hil, hce]
      have nPW : P ≠ W := fun z => by have e := pl.p; rw [z, hW] at e; cases e
      have nBW : B ≠ W := fun z => by have e := pl.b; rw [z, hW] at e; cases e
      have wl : ((ds ++ [cur]).map fun x => V.str (S x)).length = ds.length + 1 := by simp
      refine ⟨_, rfl, W, _, rfl, .inl (SqL.of eW4), _, rfl, P, _, 2, _, rfl, rfl, SqL.of (s4 _ _ pl.p), at_of (j := 2) rfl rfl, B, _, rfl, .inl (SqL.of (s4 _ _ pl.b)), ?_⟩
      rw [wl, List.length_map]
      refine ⟨_, _, rfl, rfl, _, rfl, ?_⟩
      by_cases c1 : ds.length + 1 ≤ js.length
      case neg =>
        refine if_false_of (decide_eq_false (by omega)) (if_false_of rfl ?_)
        have hj : js.drop ds.length = [] := List.drop_eq_nil_of_le (by omega)
        have eW6 : H4 W = some (.lst (ds.map (fun x => V.str (S x)) ++ [V.str (S cur)])) := by rw [eW4, List.map_append]; rfl
        refine ⟨_, rfl, _, rfl, W, _, -1, _, rfl, rfl, SqL.of eW6, atI_last _ _, _, rfl, cur, [ch], rfl, rfl, by simp only [List.length_singleton]; omega, _, rfl, _, rfl, W, _, -1, ds.length, rfl, rfl, eW6, (by unfold ixN; rw [if_neg (by decide), if_pos (by simp only [List.length_append, List.length_map, List.length_singleton]; omega)]; congr 1; simp only [List.length_append, List.length_map, List.length_singleton]; omega), ?_⟩
        refine ⟨⟨_, rfl⟩, same_mut s4 hW, ds, cur ++ [ch], ?_, hds, by simp only [List.length_append, List.length_singleton]; omega, ?_⟩
        · rw [upd_same]
          have z := set_last (ds.map fun x => V.str (S x)) (V.str (S cur)) (V.str (S (cur ++ [ch])))
          rw [List.length_map] at z
          rw [z, List.map_append]
          rfl
        · rw [hsp, hdr, hj, show splitJ [] cur (ch :: m.drop (i + 1)) = splitJ [] (cur ++ [ch]) (m.drop (i + 1)) from by rw [splitJ]]
      refine if_true_of (decide_eq_true (by omega)) ?_
      have hjd : js[ds.length]? = some (js[ds.length]'(by omega)) := List.getElem?_eq_getElem _
      have hjr : js.drop ds.length = js[ds.length]'(by omega) :: js.drop (ds.length + 1) := List.drop_eq_getElem_cons (by omega)
      generalize js[ds.length]'(by omega) = d at hjd hjr
      refine ⟨_, rfl, _, rfl, P, _, 2, _, rfl, rfl, SqL.of (s4 _ _ pl.p), at_of (j := 2) rfl rfl, _, rfl, W, _, rfl, .inl (SqL.of eW4), _, _, rfl, rfl, B, _, _, _, rfl, rfl, SqL.of (s4 _ _ pl.b), at_of (j := ds.length) (by rw [wl]; omega) (by rw [List.getElem?_map, hjd]; rfl), rfl, _, rfl, ?_⟩
      rw [S_dec]
      by_cases c2 : ch = d
      case neg =>
        refine if_false_of (decide_eq_false (fun z => c2 (by simpa using z))) ?_
        have eW6 : H4 W = some (.lst (ds.map (fun x => V.str (S x)) ++ [V.str (S cur)])) := by rw [eW4, List.map_append]; rfl
        refine ⟨_, rfl, _, rfl, W, _, -1, _, rfl, rfl, SqL.of eW6, atI_last _ _, _, rfl, cur, [ch], rfl, rfl, by simp only [List.length_singleton]; omega, _, rfl, _, rfl, W, _, -1, ds.length, rfl, rfl, eW6, (by unfold ixN; rw [if_neg (by decide), if_pos (by simp only [List.length_append, List.length_map, List.length_singleton]; omega)]; congr 1; simp only [List.length_append, List.length_map, List.length_singleton]; omega), ?_⟩
        refine ⟨⟨_, rfl⟩, same_mut s4 hW, ds, cur ++ [ch], ?_, hds, by simp only [List.length_append, List.length_singleton]; omega, ?_⟩
        · rw [upd_same]
          have z := set_last (ds.map fun x => V.str (S x)) (V.str (S cur)) (V.str (S (cur ++ [ch])))
          rw [List.length_map] at z
          rw [z, List.map_append]
          rfl
        · rw [hsp, hdr, hjr, show splitJ (d :: js.drop (ds.length + 1)) cur (ch :: m.drop (i + 1)) = splitJ (d :: js.drop (ds.length + 1)) (cur ++ [ch]) (m.drop (i + 1)) from by rw [splitJ, if_neg c2]]
      subst c2
      refine if_true_of (decide_eq_true rfl) ?_
      refine ⟨_, rfl, .inl ⟨rfl, _, SqL.of eW4⟩, W, _, _, rfl, rfl, eW4, by rw [wl]; exact small1000 (by omega), ⟨_, rfl⟩, same_mut s4 hW, ds ++ [cur], [], ?_, by simp only [List.length_append, List.length_singleton]; omega, Nat.zero_le _, ?_⟩
      · rw [upd_same]
        simp only [List.map_append]
        rfl
      · rw [hsp, hdr, hjr, show splitJ (ch :: js.drop (ds.length + 1)) cur (ch :: m.drop (i + 1)) = cur :: splitJ (js.drop (ds.length + 1)) [] (m.drop (i + 1)) from by rw [splitJ, if_pos rfl], List.append_assoc]
        simp
    · rintro σ' H4 ⟨⟨v3, rfl⟩, s4, ds, cur, eW4, hds, hcur, hsp⟩
      rw [List.drop_length, split_nil] at hsp
      have sp := split_part js [] m fun d _ => by simp
      rw [List.nil_append, hsp] at sp
      have gl := g.l
      refine ⟨_, rfl, W, _, rfl, .inl (SqL.of eW4), _, rfl, P, _, 1, _, rfl, rfl, SqL.of (s4 _ _ pl.p), at_of (j := 1) rfl rfl, A, _, rfl, .inl (SqL.of (s4 _ _ pl.a)), rfl, _, rfl, ?_⟩
      rw [List.length_map, List.length_map, pl.t.1]
      by_cases cl : (ds ++ [cur]).length = sl.length
      case neg =>
        refine if_true_of (by rw [decide_eq_false (fun z => cl (by have := V.int.inj z; omega))]; rfl) ?_
        exact q2 (no_text g (by rw [hm]; exact sp.2 (by omega))) H4 s4
      refine if_false_of (by rw [decide_eq_true (by rw [cl])]; rfl) ?_
      have hw := sp.1 (by omega)
      rw [hw] at eW4 cl
      intro D hD
      have nD : H D = none := s4.free hD
      have s5 := s4.trans (same_new (o := .dK []) hD)
      have eW5 := same_new (o := .dK []) hD _ _ eW4
      have plm := partL_len js m
      have pls := partL_sub js m
      have er : readOk hd sl js l = (pairsR hd sl js l).all okP := by unfold readOk; rw [e0, beq_self_eq_true, Bool.true_and]
      rw [er] at q1 q2
      unfold pairsR at q1 q2
      unfold readKv pairsR at q1
      rw [hm] at q1 q2
      have hum : Uni m := fun x hx => hu x (List.mem_of_mem_drop (by rw [hm]; exact hx))
      clear hw sp hsp
      generalize partL js m = ps at eW4 eW5 cl plm pls q1 q2
      generalize hH6 : upd H4 D (.dK []) = H6 at s5 eW5 ⊢
      have eD6 : H6 D = some (.dK []) := by rw [← hH6]; exact upd_same
      have nDW : D ≠ W := fun z => by rw [z, eW4] at hD; cases hD
      refine ⟨_, rfl, W, _, rfl, .inl (SqL.of eW5), _, rfl, by omega, by rw [List.length_map]; omega, for_range (lo := 0) (n := (ps.map fun x => V.str (S x)).length) (fun i σ' H' => (∃ v3 v5 v6 : Option V, σ' = [some (.ref P), some (.str (S l)), some (.ref W), v3, some (.ref D), v5, v6]) ∧ Same H H' ∧ H' W = some (.lst (ps.map fun x => V.str (S x))) ∧
        H' D = some (.dK (((sl.zip ps).take i).map kvP)) ∧ ((sl.zip ps).take i).all okP = true) ⟨⟨_, _, _, rfl⟩, s5, eW5, eD6, rfl⟩ (fun i σ' H' hi z => ?_) (fun σ' H' z => ?_)⟩
      · obtain ⟨⟨v3', v5, v6, rfl⟩, s7, eW7, eD7, ha⟩ := z
        rw [List.length_map] at hi
        have hps : ps[i]? = some (ps[i]'hi) := List.getElem?_eq_getElem hi
        have hy : sl[i]? = some (sl[i]'(by omega)) := List.getElem?_eq_getElem (by omega)
        have ht : ts[i]? = some (ts[i]'(by rw [pl.t.1]; omega)) := List.getElem?_eq_getElem (by rw [pl.t.1]; omega)
        have et := s7 _ _ (pl.t.2 i _ _ ht hy)
        generalize ps[i]'hi = pc at hps
        generalize sl[i]'(by omega) = y at hy et
        generalize ts[i]'(by rw [pl.t.1]; omega) = t at ht et
        have hq : (sl.zip ps)[i]? = some (y, pc) := by rw [List.getElem?_zip_eq_some]; exact ⟨hy, hps⟩
        have hpl := plm.2 pc (List.mem_of_getElem? hps)
        refine ⟨_, rfl, P, _, 1, _, rfl, rfl, SqL.of (s7 _ _ pl.p), at_of (j := 1) rfl rfl, _, rfl, A, _, _, _, rfl, rfl, SqL.of (s7 _ _ pl.a), at_of (j := i) (by omega) (by rw [List.getElem?_map, ht]; rfl), t, _, 1, _, rfl, rfl, SqT.of et, at_of (j := 1) rfl rfl,
          _, rfl, _, rfl, W, _, _, _, rfl, rfl, SqL.of eW7, at_of (j := i) (by omega) (by rw [List.getElem?_map, hps]; rfl), y.2, pc, rfl, by omega, fun x hx => hum x (pls pc (List.mem_of_getElem? hps) x hx), fun ok H8 s8 => ?_, fun no H8 s8 => ?_⟩
        · refine ⟨_, rfl, rfl, _, rfl, if_false_of rfl ?_⟩
          have s78 := s7.trans s8
          have eD8 := s8 _ _ eD7
          refine ⟨_, rfl, _, rfl, _, rfl, P, _, 1, _, rfl, rfl, SqL.of (s78 _ _ pl.p), at_of (j := 1) rfl rfl, _, rfl, A, _, _, _, rfl, rfl, SqL.of (s78 _ _ pl.a), at_of (j := i) (by omega) (by rw [List.getElem?_map, ht]; rfl), t, _, 0, _, rfl, rfl, SqT.of (s8 _ _ et), at_of (j := 0) rfl rfl,
            D, _, rfl, DPut.k (k := Sum.inr (S y.1)) eD8 (by rw [List.length_map, List.length_take]; exact small1000 (by have := g.s.le; rw [List.length_zip]; omega)), ⟨_, _, _, rfl⟩, same_mut s78 nD, by rw [upd_ne (Ne.symm nDW)]; exact s8 _ _ eW7, ?_, ?_⟩
          · rw [upd_same, putK_new _ (kv_new g.s.nd hy), List.take_succ, hq, List.map_append]
            rfl
          · rw [List.take_succ, hq, List.all_append, ha]
            simp [okP, ok]
        · refine ⟨_, rfl, rfl, _, rfl, if_true_of rfl ?_⟩
          refine q2 ?_ _ (s7.trans s8)
          rw [Bool.eq_false_iff]
          intro z
          have := List.all_eq_true.mp z (y, pc) (List.mem_of_getElem? hq)
          unfold okP at this
          rw [no] at this
          cases this
      · obtain ⟨⟨v3', v5, v6, rfl⟩, s7, eW7, eD7, ha⟩ := z
        have hzl : (sl.zip ps).length ≤ ps.length := by rw [List.length_zip]; omega
        rw [List.length_map, List.take_of_length_le hzl] at eD7 ha
        exact ⟨_, rfl, q1 ha D H' s7 nD eD7⟩
end
section
variable {P : Program} {w : World} {K : PySem.W.Frag} {mg : Str → Option Value} {base : Heap} {c : Cs}
/-! ### a label that is the planned one -/
theorem SqT.ty {H : Hp} {a : Addr} {xs : List V} (h : SqT K H a xs) : TyX K H (.ref a) (.type "tuple") := by
  rcases h with (h | ⟨o, h⟩) | ⟨o, its, n, e, c, _⟩
  · exact .base (.tup h)
  · exact .fTuple h
  · exact .kTuple e c
theorem kit_tup : PySem.W.kitOne K (.type "tuple") (.type "tuple") = some true := by
  unfold PySem.W.kitOne
  exact if_pos (by decide)
theorem kit_bool : PySem.W.kitOne K (.type "bool") (.type "bool") = some true := by
  unfold PySem.W.kitOne
  exact if_pos (by decide)
def dLab (hd : List Nat) (sl : List (List Nat × Bool)) (js : List Nat) : PyData := .list [.str (S hd), .tuple (sl.map dSl), .tuple (js.map dJ)]
theorem head_lt {hd : List Nat} (h : headB hd = true) : ∀ c ∈ hd, c < 0x110000 := fun c hc => by
  rcases head_chars h c hc with rfl | h
  · decide
  · unfold ltr at h
    simp at h
    omega
theorem GoodLab.shL {hd : List Nat} {sl : List (List Nat × Bool)} {js : List Nat} (g : GoodLab hd sl js) : ShK 3 (dLab hd sl js) := shk_list fun d hd' => by
  rcases List.mem_cons.mp hd' with rfl | hd'
  · exact shk_str (head_lt g.h) 2
  rcases List.mem_cons.mp hd' with rfl | hd'
  · exact shk_tup (shk_map fun x hx => shk_sl (g.s.nm x hx))
  rw [List.mem_singleton.mp hd']
  exact shk_tup (shk_map fun d hd => shk_str (fun x hx => by rw [List.mem_singleton.mp hx]; exact joint_lt (List.all_eq_true.mp g.j d hd)) 1)
theorem eqv_dLab (hd hd2 : List Nat) (sl sl2 : List (List Nat × Bool)) (js js2 : List Nat) : PyData.eqv (dLab hd sl js) (dLab hd2 sl2 js2) = (decide (hd = hd2) && (decide (sl = sl2) && decide (js = js2))) := by
  unfold dLab
  simp only [PyData.eqv, PyData.eqvAll, Bool.and_true]
  rw [show (S hd == S hd2) = decide (hd = hd2) from eqV_S _ _, show PyData.eqvAll (sl.map dSl) (sl2.map dSl) = decide (sl = sl2) from eqv_map fun x _ y _ => eqv_dSl x y, show PyData.eqvAll (js.map dJ) (js2.map dJ) = decide (js = js2) from eqv_map fun x _ y _ => eqv_dJ x y]
abbrev sRight : Stmt := top 53
theorem scRight : FnScope ["_law_plan_here", "_law_made_here", "_law_told"] ["_law_plan_here", "_law_made_here"] (defScope sRight) := ⟨rfl, rfl, rfl, by decide +kernel, rfl, by decide +kernel, by decide +kernel⟩
def spRight (K : PySem.W.Frag) (CL : Addr) : Sp := fun vs H Q _ => ∃ (P A B y : Addr) (ts : List Addr) (hd : List Nat) (sl : List (List Nat × Bool)) (js : List Nat), vs = [.ref P, .ref y] ∧ PlanAt H P A B ts hd sl js ∧ GoodLab hd sl js ∧ LabAt K CL H y hd sl js ∧ ∀ H', Same H H' → Q (.bl true) H'
theorem ok_right (T : Txt K mg c) {f : Addr} {fd : FuncData} (F : Fun K "_law_right" "_law_right" sRight f fd) : FnOk P w K mg base CX0 7 f fd ["_law_plan_here", "_law_made_here"] (spRight K c.CL) := by
  have gHd : FnOk P w K mg base CX0 1 c.mHd c.fdHd ["self"] (getSp c.CL "_head") := ok_ghd T
  have gSh : FnOk P w K mg base CX0 1 c.mSh c.fdSh ["self"] (getSp c.CL "_shown") := ok_gsh T
  have gJn : FnOk P w K mg base CX0 1 c.mJn c.fdJn ["self"] (getSp c.CL "_joints") := ok_gjn T
  have mTx : FnOk P w K mg base CX0 2 c.mTx c.fdTx ["self"] (spTx K c.CL) := ok_ltx T
  have mEq : FnOk P w K mg base CX0 1 c.mEq c.fdEq ["self", "other"] (spLEq K c.CL) := ok_leq T
  have cFc : Cal P w K mg base CX0 2 "_law_face" spFace := cal_of T.d__law_face fun f fd F => ok_face T T.d__law_joined F
  have cRb : Cal P w K mg base CX0 6 "read_label" (spRlb K c.CL) := cal_of T.d_read_label fun f fd F => ok_rlb T F
  refine F.ok scRight (fun vs H Q E h => ?_) (fun cdv A' outer s H vs Q E hr h => ?_)
  · obtain ⟨P, A, B, y, ts, hd, sl, js, rfl, _⟩ := h
    rfl
  · obtain ⟨P, A, B, y, ts, hd, sl, js, rfl, pl, g, la, q⟩ := h
    have la' := la
    obtain ⟨dy, A2, B2, ts2, lp⟩ := la'
    refine ⟨_, (pss_cons (ps_set (i := 2) scRight.nd rfl (Or.inl rfl) (pe_lst (pa_cons (pe_prop (pv 1) T.clL T.PHd gHd (hr.mono (by decide)) T.bHd .nil pass0 rfl) (pa_cons (pe_prop (pv 1) T.clL T.PSh gSh (hr.mono (by decide)) T.bSh .nil pass0 rfl) (pa_cons (pe_prop (pv 1) T.clL T.PJn gJn (hr.mono (by decide)) T.bJn .nil pass0 rfl) pa_nil)))))
  (pss_cons (ps_if (PW.pt (pw_or (pt_cmpR (op_neD hr.units) (pv 2) (pe_lst (pa_cons (pe_ix ix_list (pv 0) pe_int (fun _ _ => rfl)) (pa_cons (pe_callTy call_tuple_of (by rfl) T.z_tuple (by decide +kernel) (pa_cons (pe_ix ix_list (pv 0) pe_int (fun _ _ => rfl)) pa_nil)) (pa_cons (pe_callTy call_tuple_of (by rfl) T.z_tuple (by decide +kernel) (pa_cons (pe_ix ix_list (pv 0) pe_int (fun _ _ => rfl)) pa_nil)) pa_nil)))) (nomark _)) (pw_or1 (pt_not (pt_val (pe_callB call_isi (by rfl) T.z_isinstance (by decide +kernel) (pa_cons (pe_prop (pv 1) T.clL T.PSh gSh (hr.mono (by decide)) T.bSh .nil pass0 rfl) (pa_cons (pe_bltn (v := .ty "tuple") (by rfl) T.z_tuple (by decide +kernel) rfl) pa_nil)))))))) (pss_one (ps_ret pe_bl)) pss_nil)
  (pss_one (ps_ret (pe_and (pe_callB call_isi (by rfl) T.z_isinstance (by decide +kernel) (pa_cons (pe_prop (pv 1) T.clL T.PJn gJn (hr.mono (by decide)) T.bJn .nil pass0 rfl) (pa_cons (pe_bltn (v := .ty "tuple") (by rfl) T.z_tuple (by decide +kernel) rfl) pa_nil))) (pe_and (pe_cmpR op_eq (pe_meth0 (pv 1) T.clL T.MTx mTx (hr.mono (by decide)) T.bTx .nil pass0) (pe_c cFc hr (by decide) rfl (pa_cons (pv 0) pa_nil)) (nomark _)) (pe_one (pe_cmpR (op_eqOwn mEq (hr.mono (by decide)) T.MEq.at_ T.MEq.fn T.bEq pass0) (pe_c cRb hr (by decide) rfl (pa_cons (pe_c cFc hr (by decide) rfl (pa_cons (pv 0) pa_nil)) pa_nil)) (pv 1) (nomark _))))))))), ?_⟩
    refine ⟨_, rfl, y, dy, _, rfl, lp.i, y, dy, _, _, rfl, lp.i, rfl, _, rfl, y, dy, _, rfl, lp.i, y, dy, _, _, rfl, lp.i, rfl, _, rfl, y, dy, _, rfl, lp.i, y, dy, _, _, rfl, lp.i, rfl, (by show 3 ≤ sizeLine; decide), fun L hL => ?_⟩
    have s1 := same_new (o := .lst [V.str (S hd), V.ref A2, V.ref B2]) hL
    have eL := upd_same (H := H) (a := L) (o := .lst [V.str (S hd), V.ref A2, V.ref B2])
    generalize upd H L (.lst [V.str (S hd), V.ref A2, V.ref B2]) = H1 at s1 eL ⊢
    refine ⟨_, rfl, _, rfl, P, _, 0, _, rfl, rfl, SqL.of (s1 _ _ pl.p), at_of (j := 0) rfl rfl, _, rfl, P, _, 1, _, rfl, rfl, SqL.of (s1 _ _ pl.p), at_of (j := 1) rfl rfl, A, _, rfl, .inl ⟨SqL.of (s1 _ _ pl.a), fun t1 ht1 => ?_⟩⟩
    have s2 := s1.trans (same_new (o := .tup (ts.map V.ref)) ht1)
    have e2 := upd_same (H := H1) (a := t1) (o := .tup (ts.map V.ref))
    have eL2 := same_new (o := .tup (ts.map V.ref)) ht1 _ _ eL
    generalize upd H1 t1 (.tup (ts.map V.ref)) = H2 at s2 e2 eL2 ⊢
    refine ⟨_, rfl, P, _, 2, _, rfl, rfl, SqL.of (s2 _ _ pl.p), at_of (j := 2) rfl rfl, B, _, rfl, .inl ⟨SqL.of (s2 _ _ pl.b), fun t2 ht2 => ?_⟩⟩
    have s3 := s2.trans (same_new (o := .tup (js.map fun d => V.str (S [d]))) ht2)
    have e3 := upd_same (H := H2) (a := t2) (o := .tup (js.map fun d => V.str (S [d])))
    have e23 := same_new (o := .tup (js.map fun d => V.str (S [d]))) ht2 _ _ e2
    have eL3 := same_new (o := .tup (js.map fun d => V.str (S [d]))) ht2 _ _ eL2
    generalize upd H2 t2 (.tup (js.map fun d => V.str (S [d]))) = H3 at s3 e3 e23 eL3 ⊢
    refine ⟨(by show 3 ≤ sizeLine; decide), fun M hM => ?_⟩
    have s4 := s3.trans (same_new (o := .lst [V.str (S hd), V.ref t1, V.ref t2]) hM)
    have e4 := upd_same (H := H3) (a := M) (o := .lst [V.str (S hd), V.ref t1, V.ref t2])
    have e24 := same_new (o := .lst [V.str (S hd), V.ref t1, V.ref t2]) hM _ _ e23
    have e34 := same_new (o := .lst [V.str (S hd), V.ref t1, V.ref t2]) hM _ _ e3
    have eL4 := same_new (o := .lst [V.str (S hd), V.ref t1, V.ref t2]) hM _ _ eL3
    generalize upd H3 M (.lst [V.str (S hd), V.ref t1, V.ref t2]) = H4 at s4 e4 e24 e34 eL4 ⊢
    have lp4 := lp.sm s4
    refine ⟨dLab hd sl js, dLab hd sl js, .lst (SqL.of eL4) (.cons (.str _) (.cons lp4.dA (.cons lp4.dB .nil))), .lst (SqL.of e4) (.cons (.str _) (.cons (.tup (SqT.of e24) (dp_slots (pl.t.sm s4))) (.cons (.tup (SqT.of e34) (dp_js js)) .nil))), g.shL.sh (by decide), g.shL.sh (by decide), _, rfl, ?_⟩
    rw [eqv_dLab]
    refine if_false_of (by simp) ?_
    refine ⟨_, rfl, y, dy, _, rfl, lp4.i, y, dy, _, _, rfl, lp4.i, rfl, _, _, _, _, true, rfl, .ty _, SqT.ty lp4.a, kit_tup, _, rfl, if_false_of rfl ?_⟩
    refine ⟨_, rfl, y, dy, _, rfl, lp4.i, y, dy, _, _, rfl, lp4.i, rfl, _, _, _, _, true, rfl, .ty _, SqT.ty lp4.b, kit_tup, _, rfl, if_true_of rfl ?_⟩
    refine ⟨_, rfl, y, dy, _, rfl, lp4.i, rfl, y, hd, sl, js, rfl, la.sm s4, g, fun H5 s5 => ?_⟩
    have s45 := s4.trans s5
    refine ⟨_, rfl, P, A, B, ts, hd, sl, js, rfl, ⟨s45 _ _ pl.p, s45 _ _ pl.a, s45 _ _ pl.b, pl.t.sm s45, pl.l, pl.lj, pl.lh, pl.ln⟩, fun H6 s6 => ?_⟩
    have s46 := s45.trans s6
    refine ⟨rfl, _, rfl, if_true_of (decide_eq_true rfl) ?_⟩
    refine ⟨_, rfl, P, A, B, ts, hd, sl, js, rfl, ⟨s46 _ _ pl.p, s46 _ _ pl.a, s46 _ _ pl.b, pl.t.sm s46, pl.l, pl.lj, pl.lh, pl.ln⟩, fun H7 s7 => ?_⟩
    have s47 := s46.trans s7
    refine ⟨hd, sl, js, rfl, g, fun z H8 s8 nz lz => ?_⟩
    have s48 := s47.trans s8
    have lz' := lz
    obtain ⟨dz, A3, B3, ts3, lpz⟩ := lz'
    have la8 := la.sm s48
    have lp8 := lp.sm s48
    refine ⟨_, rfl, z, dz, _, rfl, lpz.i, .inl ⟨y, dy, _, rfl, lp8.i⟩, z, _, hd, sl, js, rfl, lz, g, .inl ⟨y, hd, sl, js, rfl, la8, g, ⟨_, rfl⟩, ?_⟩⟩
    simp only [decide_true, Bool.and_self]
    exact q H8 s48
end
section
variable {P : Program} {w : World} {K : PySem.W.Frag} {mg : Str → Option Value} {base : Heap} {c : Cs}
/-! ### texts are the same just if all is -/
theorem spl_end : ∀ {l : List Nat}, (splL 32 l).getLast? = some [] → l = [] ∨ ∃ t, l = t ++ [32]
  | [], _ => .inl rfl
  | x :: r, h => by
    unfold splL at h
    by_cases e : x = 32
    · rw [if_pos e] at h
      obtain ⟨p, ps, hp⟩ : ∃ p ps, splL 32 r = p :: ps := by
        cases hs : splL 32 r with
        | nil => exact absurd hs (splL_ne 32 r)
        | cons p ps => exact ⟨p, ps, rfl⟩
      rw [hp, List.getLast?_cons_cons, ← hp] at h
      rcases spl_end h with rfl | ⟨t, rfl⟩
      · exact .inr ⟨[], by rw [e]; rfl⟩
      · exact .inr ⟨x :: t, rfl⟩
    · rw [if_neg e] at h
      cases hs : splL 32 r with
      | nil => exact absurd hs (splL_ne 32 r)
      | cons p ps =>
        rw [hs] at h
        cases ps with
        | nil =>
          simp at h
        | cons q qs =>
          have h2 : (splL 32 r).getLast? = some [] := by
            rw [hs, List.getLast?_cons_cons]
            simpa [List.getLast?_cons_cons] using h
          rcases spl_end h2 with rfl | ⟨t, rfl⟩
          · simp [splL] at hs
          · exact .inr ⟨x :: t, rfl⟩
def EndSp (h : List Nat) : Prop := h = [] ∨ ∃ t, h = t ++ [32]
theorem head_end {hd : List Nat} (h : headB hd = true) : EndSp hd := by
  unfold headB at h
  simp only [Bool.and_eq_true, decide_eq_true_eq] at h
  exact spl_end h.2.1
theorem head_cut1 {h1 h2 a r : List Nat} (e2 : EndSp h2) (n1 : (32 : Nat) ∉ a ++ r) (e : h2 = h1 ++ a) : a = [] := by
  cases ha : a with
  | nil => rfl
  | cons x y =>
    exfalso
    rcases e2 with z | ⟨t, z⟩
    · rw [z, ha] at e
      simp at e
    · have l := congrArg List.getLast? (z.symm.trans e)
      rw [List.getLast?_append, List.getLast?_append] at l
      have hx : ∃ u, a.getLast? = some u := by
        rw [ha]
        exact ⟨_, List.getLast?_eq_some_getLast (by simp)⟩
      obtain ⟨u, hu⟩ := hx
      rw [hu] at l
      simp at l
      subst l
      exact n1 (List.mem_append.mpr (.inl (List.mem_of_getLast? hu)))
theorem head_cut {h1 h2 r1 r2 : List Nat} (e1 : EndSp h1) (e2 : EndSp h2) (n1 : (32 : Nat) ∉ r1) (n2 : (32 : Nat) ∉ r2) (e : h1 ++ r1 = h2 ++ r2) : h1 = h2 ∧ r1 = r2 := by
  rcases List.append_eq_append_iff.mp e with ⟨a, x, y⟩ | ⟨a, x, y⟩
  · have z := head_cut1 (r := r2) e2 (by rw [← y]; exact n1) x
    subst z
    exact ⟨by simpa using x.symm, by simpa using y⟩
  · have z := head_cut1 (r := r1) e1 (by rw [← y]; exact n2) x
    subst z
    exact ⟨by simpa using x, by simpa using y.symm⟩
theorem cut_inj {p : Nat → Bool} {X Y : List Nat} {d e : Nat} (hd : p d = true) (he : p e = true) : ∀ {w v : List Nat}, (∀ c ∈ w, p c = false) → (∀ c ∈ v, p c = false) → w ++ d :: X = v ++ e :: Y → w = v ∧ d = e ∧ X = Y
  | [], [], _, _, h => by simpa using h
  | [], y :: v, _, hv, h => by
    have z : d = y := (List.cons.inj h).1
    have := hv y (List.mem_cons_self ..)
    rw [← z, hd] at this
    cases this
  | x :: w, [], hw, _, h => by
    have z : x = e := (List.cons.inj h).1
    have := hw x (List.mem_cons_self ..)
    rw [z, he] at this
    cases this
  | x :: w, y :: v, hw, hv, h => by
    obtain ⟨h1, h2⟩ := List.cons.inj h
    obtain ⟨a, b, c⟩ := cut_inj hd he (fun c hc => hw c (List.mem_cons_of_mem _ hc)) (fun c hc => hv c (List.mem_cons_of_mem _ hc)) h2
    exact ⟨by rw [h1, a], b, c⟩
def FreeJ (w : List Nat) : Prop := ∀ c ∈ w, jointB c = false
theorem tail_inj : ∀ {js js2 : List Nat} {ws vs : List (List Nat)} {w v : List Nat}, js.length = ws.length → js2.length = vs.length → js.all jointB = true → js2.all jointB = true → FreeJ w → FreeJ v → (∀ x ∈ ws, FreeJ x) → (∀ x ∈ vs, FreeJ x) → w ++ tailT js ws = v ++ tailT js2 vs → w = v ∧ js = js2 ∧ ws = vs
  | [], [], [], [], w, v, _, _, _, _, _, _, _, _, h => by simpa [tailT] using h
  | [], e :: js2, [], y :: vs, w, v, _, _, _, a2, hw, _, _, _, h => by
    exfalso
    have m : e ∈ w := by
      rw [show tailT [] [] = [] from rfl, List.append_nil] at h
      rw [h]
      simp [tailT]
    have := hw e m
    simp only [List.all_cons, Bool.and_eq_true] at a2
    rw [a2.1] at this
    cases this
  | d :: js, [], x :: ws, [], w, v, _, _, a1, _, _, hv, _, _, h => by
    exfalso
    have m : d ∈ v := by
      rw [show tailT [] [] = [] from rfl, List.append_nil] at h
      rw [← h]
      simp [tailT]
    have := hv d m
    simp only [List.all_cons, Bool.and_eq_true] at a1
    rw [a1.1] at this
    cases this
  | d :: js, e :: js2, x :: ws, y :: vs, w, v, l1, l2, a1, a2, hw, hv, hws, hvs, h => by
    simp only [List.all_cons, Bool.and_eq_true] at a1 a2
    obtain ⟨z1, z2, z3⟩ := cut_inj (p := jointB) a1.1 a2.1 hw hv (show w ++ d :: (x ++ tailT js ws) = v ++ e :: (y ++ tailT js2 vs) from by simpa [tailT] using h)
    obtain ⟨y1, y2, y3⟩ := tail_inj (by simpa using l1) (by simpa using l2) a1.2 a2.2 (hws x (List.mem_cons_self ..)) (hvs y (List.mem_cons_self ..)) (fun u hu => hws u (List.mem_cons_of_mem _ hu)) (fun u hu => hvs u (List.mem_cons_of_mem _ hu)) z3
    exact ⟨z1, by rw [z2, y2], by rw [y1, y3]⟩
theorem num_chars (b : Bool) (n : Nat) : ∀ c ∈ numT b n, (48 ≤ c ∧ c ≤ 57 ∧ b = false) ∨ ((c = 45 ∨ (97 ≤ c ∧ c ≤ 122)) ∧ b = true) := fun c hc => by
  cases b with
  | false =>
    refine .inl ?_
    have hc' : c ∈ TL.numL n := hc
    refine ⟨?_, ?_, rfl⟩
    · exact Nat.le_of_not_lt fun z => TL.numL_free (.inl z) hc'
    · exact Nat.le_of_not_lt fun z => TL.numL_free (.inr z) hc'
  | true =>
    refine .inr ⟨?_, rfl⟩
    have hc' : c ∈ lettersL n := hc
    unfold lettersL at hc'
    split at hc'
    · exact .inl (List.mem_singleton.mp hc')
    · exact .inr (wordN_low n c hc')
theorem num_ne (b : Bool) (n : Nat) : numT b n ≠ [] := by
  cases b with
  | false => exact TL.numL_ne n
  | true =>
    show lettersL n ≠ []
    unfold lettersL
    split
    · simp
    · exact wordN_ne (by omega)
theorem num_free (b : Bool) (n : Nat) : FreeJ (numT b n) := fun c hc => by
  have h := num_chars b n c hc
  unfold jointB
  simp
  omega
theorem num_nosp (b : Bool) (n : Nat) : (32 : Nat) ∉ numT b n := fun hc => by
  have h := num_chars b n 32 hc
  omega
theorem num_inj {b b2 : Bool} {n n2 : Nat} (h : numT b n = numT b2 n2) : b = b2 ∧ n = n2 := by
  have hb : b = b2 := by
    obtain ⟨x, r, e⟩ : ∃ x r, numT b n = x :: r := by
      cases z : numT b n with
      | nil => exact absurd z (num_ne b n)
      | cons x r => exact ⟨x, r, rfl⟩
    have h1 := num_chars b n x (by rw [e]; exact List.mem_cons_self ..)
    have h2 := num_chars b2 n2 x (by rw [← h, e]; exact List.mem_cons_self ..)
    rcases h1 with ⟨a1, a2, rfl⟩ | ⟨a1, rfl⟩ <;> rcases h2 with ⟨c1, c2, rfl⟩ | ⟨c1, rfl⟩
    · rfl
    · omega
    · omega
    · rfl
  subst hb
  refine ⟨rfl, ?_⟩
  cases b with
  | false => exact TL.numL_inj h
  | true =>
    have z := congrArg letVal (show lettersL n = lettersL n2 from h)
    rwa [letVal_word, letVal_word] at z
theorem map_num {num : List Nat → Nat} : ∀ {sl sl2 : List (List Nat × Bool)}, sl.map (fun x => numT x.2 (num x.1)) = sl2.map (fun x => numT x.2 (num x.1)) → sl.map (·.2) = sl2.map (·.2) ∧ sl.map (fun x => num x.1) = sl2.map (fun x => num x.1)
  | [], [], _ => ⟨rfl, rfl⟩
  | [], y :: _, h => by simp at h
  | x :: _, [], h => by simp at h
  | x :: sl, y :: sl2, h => by
    simp only [List.map_cons, List.cons.injEq] at h ⊢
    obtain ⟨a, b⟩ := num_inj h.1
    obtain ⟨c, d⟩ := map_num h.2
    exact ⟨⟨a, c⟩, b, d⟩
theorem map_num2 {num : List Nat → Nat} : ∀ {sl sl2 : List (List Nat × Bool)}, sl.map (·.2) = sl2.map (·.2) → sl.map (fun x => num x.1) = sl2.map (fun x => num x.1) → sl.map (fun x => numT x.2 (num x.1)) = sl2.map (fun x => numT x.2 (num x.1))
  | [], [], _, _ => rfl
  | [], y :: _, h, _ => by simp at h
  | x :: _, [], h, _ => by simp at h
  | x :: sl, y :: sl2, h, k => by
    simp only [List.map_cons, List.cons.injEq] at h k ⊢
    exact ⟨by rw [h.1, k.1], map_num2 h.2 k.2⟩
theorem tail_nosp : ∀ {js : List Nat} {ws : List (List Nat)}, js.all jointB = true → (∀ x ∈ ws, (32 : Nat) ∉ x) → (32 : Nat) ∉ tailT js ws
  | [], _, _, _ => by simp [tailT]
  | _ :: _, [], _, _ => by simp [tailT]
  | d :: js, x :: ws, a, h => by
    simp only [List.all_cons, Bool.and_eq_true] at a
    have r := tail_nosp a.2 fun u hu => h u (List.mem_cons_of_mem _ hu)
    have h1 := h x (List.mem_cons_self ..)
    have hd : (32 : Nat) ≠ d := fun z => by
      have := a.1
      rw [← z] at this
      revert this
      decide
    simp only [tailT, List.mem_append, List.mem_singleton, not_or]
    exact ⟨⟨hd, h1⟩, r⟩
theorem due_eq {hd hd2 : List Nat} {sl sl2 : List (List Nat × Bool)} {js js2 : List Nat} (g : GoodLab hd sl js) (g2 : GoodLab hd2 sl2 js2) (num : List Nat → Nat) :
    decide (dueT num hd sl js = dueT num hd2 sl2 js2) = ((decide (hd = hd2) && (decide (sl.map (·.2) = sl2.map (·.2)) && decide (js = js2))) && decide (sl.map (fun x => num x.1) = sl2.map (fun x => num x.1))) := by
  rw [Bool.eq_iff_iff]
  simp only [Bool.and_eq_true, decide_eq_true_eq]
  constructor
  · intro h
    obtain ⟨y0, ys, rfl, l1⟩ := g.cons
    obtain ⟨z0, zs, rfl, l2⟩ := g2.cons
    unfold dueT joinT at h
    simp only [List.map_cons, List.append_assoc] at h
    have ns : ∀ (b : Bool) (n : Nat) (js : List Nat) (ws : List (List Nat)), js.all jointB = true → (∀ x ∈ ws, (32 : Nat) ∉ x) → (32 : Nat) ∉ numT b n ++ tailT js ws := fun b n js ws a h m => (List.mem_append.mp m).elim (num_nosp b n) (tail_nosp a h)
    have fm : ∀ (ys : List (List Nat × Bool)), ∀ x ∈ ys.map (fun x => numT x.2 (num x.1)), (32 : Nat) ∉ x ∧ FreeJ x := fun ys x hx => by
      obtain ⟨y, _, rfl⟩ := List.mem_map.mp hx
      exact ⟨num_nosp _ _, num_free _ _⟩
    obtain ⟨e1, e2⟩ := head_cut (head_end g.h) (head_end g2.h) (ns _ _ _ _ g.j fun x hx => (fm ys x hx).1) (ns _ _ _ _ g2.j fun x hx => (fm zs x hx).1) h
    obtain ⟨e3, e4, e5⟩ := tail_inj (by rw [List.length_map]; exact l1) (by rw [List.length_map]; exact l2) g.j g2.j (num_free _ _) (num_free _ _) (fun x hx => (fm ys x hx).2) (fun x hx => (fm zs x hx).2) e2
    obtain ⟨m1, m2⟩ := map_num (num := num) (sl := y0 :: ys) (sl2 := z0 :: zs) (by rw [List.map_cons, List.map_cons, e3, e5])
    exact ⟨⟨e1, m1, e4⟩, m2⟩
  · rintro ⟨⟨rfl, m1, rfl⟩, m2⟩
    unfold dueT
    rw [map_num2 m1 m2]
theorem uni_tail : ∀ {js : List Nat} {ws : List (List Nat)}, js.all jointB = true → (∀ x ∈ ws, Uni x) → Uni (tailT js ws)
  | [], _, _, _ => fun c hc => by simp [tailT] at hc
  | _ :: _, [], _, _ => fun c hc => by simp [tailT] at hc
  | d :: js, x :: ws, a, h => by
    simp only [List.all_cons, Bool.and_eq_true] at a
    have ud : Uni [d] := fun c hc => by rw [List.mem_singleton.mp hc]; exact joint_lt a.1
    exact (ud.app (h x (List.mem_cons_self ..))).app (uni_tail a.2 fun u hu => h u (List.mem_cons_of_mem _ hu))
theorem due_uni {hd : List Nat} {sl : List (List Nat × Bool)} {js : List Nat} (g : GoodLab hd sl js) (num : List Nat → Nat) : Uni (dueT num hd sl js) := by
  have un : ∀ (b : Bool) (n : Nat), Uni (numT b n) := fun b n c hc => by
    have := num_chars b n c hc
    omega
  obtain ⟨y0, ys, rfl, l1⟩ := g.cons
  unfold dueT joinT
  rw [List.map_cons]
  refine (Uni.app (head_lt g.h) (un _ _)).app (uni_tail g.j fun x hx => ?_)
  obtain ⟨y, _, rfl⟩ := List.mem_map.mp hx
  exact un _ _
theorem due_len {hd : List Nat} {sl : List (List Nat × Bool)} {js : List Nat} (g : GoodLab hd sl js) {num : List Nat → Nat} (hn : ∀ x ∈ sl, num x.1 < 10 ^ 60) : (dueT num hd sl js).length ≤ 500 := by
  have hl := g.hl
  have hj := g.jl
  obtain ⟨y0, ys, rfl, l1⟩ := g.cons
  unfold dueT joinT
  rw [List.map_cons]
  have tl := tailT_len (ds := js) (xs := ys.map fun x => numT x.2 (num x.1)) (n := 100) fun z hz' => by
    obtain ⟨y, hy, rfl⟩ := List.mem_map.mp hz'
    exact numT_len _ (hn y (List.mem_cons_of_mem _ hy))
  have := numT_len y0.2 (hn y0 (List.mem_cons_self ..))
  simp only [List.length_append]
  omega
end
section
variable {P : Program} {w : World} {K : PySem.W.Frag} {mg : Str → Option Value} {base : Heap} {c : Cs}
/-! ### the law -/
section
variable {X : Cx}
theorem ix_listK {K : PySem.W.Frag} (h : X.K = K := by rfl) : IxR X (rIxL K) := h ▸ ix_list
theorem pi_listK {K : PySem.W.Frag} {tg e : Expr} {te : TE} (he : PE X e te) (h : X.K = K := by rfl) : PI X tg e (iList K te) := h ▸ pi_list he
def rNeAny : R2 := fun x y H Q => rNe x y H Q ∨ rNeDA x y H Q
theorem op_neAny (hu : X.A.units + 1 < cLine) : OpR X (compareOp .NotEq) rNeAny := by
  intro pins s σ H x y v u Q I rx ry h
  rcases h with h | h
  · exact op_ne pins s σ H x y v u Q I rx ry h
  · exact op_ne_dictA (Nat.lt_of_succ_lt hu) pins s σ H x y v u Q I rx ry h
end
structure Pd where
  P : Addr
  A : Addr
  B : Addr
  ts : List Addr
  hd : List Nat
  sl : List (List Nat × Bool)
  js : List Nat
def Pd.at (d : Pd) (H : Hp) : Prop := PlanAt H d.P d.A d.B d.ts d.hd d.sl d.js
structure Pd.Ok (d : Pd) : Prop where
  g : GoodLab d.hd d.sl d.js
  n : NoSp d.sl
abbrev two {α : Type} (f : Nat → α) : List α := [f 0, f 1]
theorem two_at {α : Type} {f : Nat → α} {i : Nat} (h : i < 2) : (two f)[i]? = some (f i) := by
  obtain rfl | rfl : i = 0 ∨ i = 1 := by omega
  · rfl
  · rfl
theorem Kp.at {a b : Addr} {H H' : Hp} {o : HO} (t : TapeAt H a) (k : Kp a H H') (e : H b = some o) (n : ∀ x y, o ≠ tapeO x y) : H' b = some o := by
  refine k.1 b o (fun z => ?_) e
  obtain ⟨x, y, e2, _⟩ := t
  rw [z, e2] at e
  exact n x y (Option.some.inj e).symm
theorem SqT.kp {a b : Addr} {H H' : Hp} {xs : List V} (t : TapeAt H a) (k : Kp a H H') (h : SqT K H b xs) : SqT K H' b xs := by
  rcases h with (h | ⟨o, h⟩) | h
  · exact .inl (.inl (k.at t h fun _ _ z => nomatch z))
  · exact .inl (.inr ⟨o, k.at t h fun _ _ z => nomatch z⟩)
  · exact .inr h
theorem LabAt.kp {CL a x : Addr} {H H' : Hp} {hd : List Nat} {sl : List (List Nat × Bool)} {js : List Nat} (t : TapeAt H a) (k : Kp a H H') (h : LabAt K CL H x hd sl js) : LabAt K CL H' x hd sl js :=
  let ⟨dx, A, B, ts, p⟩ := h
  ⟨dx, A, B, ts, ⟨k.at t p.i (fun _ _ z => nomatch z), SqT.kp t k p.a, SqT.kp t k p.b, k.slots t p.t⟩⟩
theorem PlanAt.sm {H H' : Hp} {P A B : Addr} {ts : List Addr} {hd : List Nat} {sl : List (List Nat × Bool)} {js : List Nat} (h : PlanAt H P A B ts hd sl js) (s : Same H H') : PlanAt H' P A B ts hd sl js :=
  ⟨s _ _ h.p, s _ _ h.a, s _ _ h.b, h.t.sm s, h.l, h.lj, h.lh, h.ln⟩
theorem LabAt.ins {CL x : Addr} {H : Hp} {hd : List Nat} {sl : List (List Nat × Bool)} {js : List Nat} (h : LabAt K CL H x hd sl js) : ∃ dx fs, H x = some (.ins CL dx fs) := let ⟨dx, _, _, _, p⟩ := h; ⟨dx, _, p.i⟩
/-- two labels in a list -/
structure Labs (K : PySem.W.Frag) (CL : Addr) (H : Hp) (M : Addr) (p : Nat → Pd) (y : Nat → Addr) : Prop where
  l : H M = some (.lst (two fun i => V.ref (y i)))
  a : ∀ i, i < 2 → LabAt K CL H (y i) (p i).hd (p i).sl (p i).js
/-- two plans in a list -/
structure Plans (H : Hp) (M : Addr) (p : Nat → Pd) : Prop where
  l : H M = some (.lst (two fun i => V.ref (p i).P))
  a : ∀ i, i < 2 → (p i).at H
theorem two_ne {x y : Int} {u v : Addr} : HO.lst [V.ref u, V.ref v] ≠ tapeO x y := fun z => by
  unfold tapeO at z
  simp at z
theorem Labs.kp {CL a M : Addr} {H H' : Hp} {p : Nat → Pd} {y : Nat → Addr} (h : Labs K CL H M p y) (t : TapeAt H a) (k : Kp a H H') : Labs K CL H' M p y := ⟨k.at t h.l fun _ _ => two_ne, fun i hi => (h.a i hi).kp t k⟩
theorem Labs.sm {CL M : Addr} {H H' : Hp} {p : Nat → Pd} {y : Nat → Addr} (h : Labs K CL H M p y) (s : Same H H') : Labs K CL H' M p y := ⟨s _ _ h.l, fun i hi => (h.a i hi).sm s⟩
theorem Plans.kp {a M : Addr} {H H' : Hp} {p : Nat → Pd} (h : Plans H M p) (t : TapeAt H a) (k : Kp a H H') : Plans H' M p := ⟨k.at t h.l fun _ _ => two_ne, fun i hi => PlanAt.kp (h.a i hi) t k⟩
theorem Plans.sm {M : Addr} {H H' : Hp} {p : Nat → Pd} (h : Plans H M p) (s : Same H H') : Plans H' M p := ⟨s _ _ h.l, fun i hi => PlanAt.sm (h.a i hi) s⟩
theorem SqL.kn {H H' : Hp} {a b : Addr} {xs : List V} (h : SqL K H b xs) (n : H a = none) (k : ∀ b o, b ≠ a → H b = some o → H' b = some o) : SqL K H' b xs := by
  rcases h with (h | ⟨o, h⟩) | h
  · exact .inl (.inl (k _ _ (fun z => by rw [z, n] at h; cases h) h))
  · exact .inl (.inr ⟨o, k _ _ (fun z => by rw [z, n] at h; cases h) h⟩)
  · exact .inr h
theorem walks_r {lo : Int} {n i : Nat} {H : Hp} : Walks (Itr lo n) n (fun i H x H' => H' = H ∧ x = .int (lo + (i : Nat))) i H := ⟨fun z => z, fun z => z, fun _ _ h => h⟩
theorem yI2 {f : Nat → V} {i : Nat} {H H' : Hp} {v : V} (hi : i < 2) (h : yIt (two f) i H v H') : H' = H ∧ v = f i := ⟨h.1, Option.some.inj (h.2.symm.trans (two_at hi))⟩
/-- the first i of y -/
def rng {α : Type} (y : Nat → α) (i : Nat) : List α := (List.range i).map y
theorem rng_two {α : Type} (y : Nat → α) : rng y 2 = two y := rfl
theorem rng_len {α : Type} (y : Nat → α) (i : Nat) : (rng y i).length = i := by unfold rng; rw [List.length_map, List.length_range]
theorem rng_succ {α : Type} (y : Nat → α) (i : Nat) : rng y (i + 1) = rng y i ++ [y i] := by unfold rng; rw [List.range_succ, List.map_append]; rfl
def put {α : Type} (y : Nat → α) (i : Nat) (z : α) : Nat → α := fun j => if j = i then z else y j
theorem put_at {α : Type} (y : Nat → α) (i : Nat) (z : α) : put y i z i = z := if_pos rfl
theorem put_ne {α : Type} (y : Nat → α) {i j : Nat} (z : α) (h : j ≠ i) : put y i z j = y j := if_neg h
theorem rng_put {α : Type} (y : Nat → α) (i : Nat) (z : α) : rng (put y i z) (i + 1) = rng y i ++ [z] := by
  rw [rng_succ, put_at]
  congr 1
  unfold rng
  exact List.map_congr_left fun j hj => put_ne y z (by have := List.mem_range.mp hj; omega)
theorem map_rng {α β : Type} (f : α → β) (y : Nat → α) (i : Nat) : (rng y i).map f = rng (fun j => f (y j)) i := by unfold rng; rw [List.map_map]; rfl
def dForm (d : Pd) : PyData := .list [.str (S d.hd), .list ((d.sl.map (·.2)).map fun b => .str (S (formL b))), .list (d.js.map dJ)]
def dPlan (d : Pd) : PyData := .list [.str (S d.hd), .list (d.sl.map dSl), .list (d.js.map dJ)]
theorem eqv_dForm (d e : Pd) : PyData.eqv (dForm d) (dForm e) = (decide (d.hd = e.hd) && (decide (d.sl.map (·.2) = e.sl.map (·.2)) && decide (d.js = e.js))) := by
  unfold dForm
  simp only [PyData.eqv, PyData.eqvAll, Bool.and_true]
  rw [show (S d.hd == S e.hd) = decide (d.hd = e.hd) from eqV_S _ _, show PyData.eqvAll (d.js.map dJ) (e.js.map dJ) = decide (d.js = e.js) from eqv_map fun x _ y _ => eqv_dJ x y]
  congr 2
  have := eqv_forms (d.sl.map (·.2)) (e.sl.map (·.2))
  simpa only [PyData.eqv] using this
theorem eqv_dPlan (d e : Pd) : PyData.eqv (dPlan d) (dPlan e) = (decide (d.hd = e.hd) && (decide (d.sl = e.sl) && decide (d.js = e.js))) := by
  unfold dPlan
  simp only [PyData.eqv, PyData.eqvAll, Bool.and_true]
  rw [show (S d.hd == S e.hd) = decide (d.hd = e.hd) from eqV_S _ _, show PyData.eqvAll (d.sl.map dSl) (e.sl.map dSl) = decide (d.sl = e.sl) from eqv_map fun x _ y _ => eqv_dSl x y, show PyData.eqvAll (d.js.map dJ) (e.js.map dJ) = decide (d.js = e.js) from eqv_map fun x _ y _ => eqv_dJ x y]
theorem Pd.shP {d : Pd} (o : d.Ok) : SeqAt.shaped (dPlan d) = true := by
  refine (shk_list (k := 2) fun x hx => ?_).sh (by decide)
  rcases List.mem_cons.mp hx with rfl | hx
  · exact shk_str (head_lt o.g.h) 2
  rcases List.mem_cons.mp hx with rfl | hx
  · exact shk_list (shk_map fun x hx => shk_sl (o.g.s.nm x hx))
  rw [List.mem_singleton.mp hx]
  exact shk_list (shk_map fun d hd => shk_str (fun x hx => by rw [List.mem_singleton.mp hx]; exact joint_lt (List.all_eq_true.mp o.g.j d hd)) 1)
theorem Pd.shF {d : Pd} (o : d.Ok) : SeqAt.shaped (dForm d) = true := by
  refine (shk_list (k := 1) fun x hx => ?_).sh (by decide)
  rcases List.mem_cons.mp hx with rfl | hx
  · exact shk_str (head_lt o.g.h) 1
  rcases List.mem_cons.mp hx with rfl | hx
  · exact shk_list (shk_map fun x _ => shk_str (form_lt x) 0)
  rw [List.mem_singleton.mp hx]
  exact shk_list (shk_map fun d hd => shk_str (fun x hx => by rw [List.mem_singleton.mp hx]; exact joint_lt (List.all_eq_true.mp o.g.j d hd)) 0)
theorem Pd.dp {d : Pd} {H : Hp} (h : d.at H) : Dp K H (.ref d.P) (dPlan d) := .lst (SqL.of h.p) (.cons (.str _) (.cons (.lst (SqL.of h.a) (dp_slots h.t)) (.cons (.lst (SqL.of h.b) (dp_js _)) .nil)))
theorem rng_ref (qs : Nat → Addr) (i : Nat) (q : Addr) : rng (fun j => V.ref (put qs i q j)) (i + 1) = rng (fun j => V.ref (qs j)) i ++ [V.ref q] := by
  rw [← rng_put (fun j => V.ref (qs j)) i (V.ref q)]
  unfold rng put
  refine List.map_congr_left fun j _ => ?_
  show V.ref (if j = i then q else qs j) = (if j = i then V.ref q else V.ref (qs j))
  split <;> rfl
/-- a plan's form, in a list -/
def FormAt (D : Addr) (H : Hp) (q : Addr) (d : Pd) : Prop := ∃ D2, q ≠ D ∧ D2 ≠ D ∧ H q = some (.lst [.str (S d.hd), .ref D2, .ref d.B]) ∧ H D2 = some (.lst ((d.sl.map (·.2)).map fun b => .str (S (formL b))))
theorem FormAt.sm {D : Addr} {H H' : Hp} {q : Addr} {d : Pd} (h : FormAt D H q d) (s : Same H H') : FormAt D H' q d := let ⟨D2, a, b, e, f⟩ := h; ⟨D2, a, b, s _ _ e, s _ _ f⟩
theorem FormAt.put {D : Addr} {H : Hp} {o : HO} {q : Addr} {d : Pd} (h : FormAt D H q d) : FormAt D (upd H D o) q d := let ⟨D2, a, b, e, f⟩ := h; ⟨D2, a, b, by rw [upd_ne a]; exact e, by rw [upd_ne b]; exact f⟩
/-- the law's plans, as the numbers' def wants them -/
theorem plans_at {H : Hp} {PL : Addr} {p : Nat → Pd} (h : Plans H PL p) (ok : ∀ i, i < 2 → (p i).Ok) : PlansAt H PL (two fun i => ((p i).P, (p i).sl)) := by
  refine ⟨h.l, (by show 2 ≤ 10; decide), fun z => by simp at z, fun q hq => ?_⟩
  obtain ⟨i, hi, rfl⟩ : ∃ i, i < 2 ∧ q = ((p i).P, (p i).sl) := by
    simp only [List.mem_cons, List.not_mem_nil, or_false] at hq
    rcases hq with rfl | rfl
    · exact ⟨0, by decide, rfl⟩
    · exact ⟨1, by decide, rfl⟩
  exact ⟨⟨_, _, _, _, _, h.a i hi⟩, (ok i hi).g.s, (ok i hi).n⟩
theorem plans_mem {p : Nat → Pd} {i : Nat} (hi : i < 2) : ((p i).P, (p i).sl) ∈ two fun i => ((p i).P, (p i).sl) := List.mem_of_getElem? (two_at (f := fun i => ((p i).P, (p i).sl)) hi)
/-- what a turn holds -/
structure Turn (K : PySem.W.Frag) (CL : Addr) (H : Hp) (PL M G : Addr) (p : Nat → Pd) (y z : Nat → Addr) : Prop where
  q : Plans H PL p
  u : Labs K CL H M p y
  v : Labs K CL H G p z
theorem Turn.kp {CL a PL M G : Addr} {H H' : Hp} {p : Nat → Pd} {y z : Nat → Addr} (h : Turn K CL H PL M G p y z) (t : TapeAt H a) (k : Kp a H H') : Turn K CL H' PL M G p y z := ⟨h.q.kp t k, h.u.kp t k, h.v.kp t k⟩
theorem Turn.sm {CL PL M G : Addr} {H H' : Hp} {p : Nat → Pd} {y z : Nat → Addr} (h : Turn K CL H PL M G p y z) (s : Same H H') : Turn K CL H' PL M G p y z := ⟨h.q.sm s, h.u.sm s, h.v.sm s⟩
abbrev dueP (kvs : List (Key × V)) (d : Pd) : List Nat := dueT (numOf kvs) d.hd d.sl d.js
/-- the numbers of a plan's counters, in a list -/
def RowAt (R : Addr) (H : Hp) (q : Addr) (ks : List Nat) : Prop := q ≠ R ∧ H q = some (.lst (ks.map fun n : Nat => V.int (n : Int)))
theorem RowAt.sm {R : Addr} {H H' : Hp} {q : Addr} {ks : List Nat} (h : RowAt R H q ks) (s : Same H H') : RowAt R H' q ks := ⟨h.1, s _ _ h.2⟩
theorem RowAt.put {R : Addr} {H : Hp} {o : HO} {q : Addr} {ks : List Nat} (h : RowAt R H q ks) : RowAt R (upd H R o) q ks := ⟨h.1, by rw [upd_ne h.1]; exact h.2⟩
def dRow (ks : List Nat) : PyData := .list (ks.map fun n : Nat => .int (n : Int))
theorem eqv_dRow (a b : List Nat) : PyData.eqv (dRow a) (dRow b) = decide (a = b) := by
  unfold dRow
  simp only [PyData.eqv]
  exact eqv_map fun x _ y _ => by
    show PyData.eqv (.int (x : Int)) (.int (y : Int)) = decide (x = y)
    simp only [PyData.eqv]
    rw [Bool.eq_iff_iff]
    simp
    omega
theorem sh_dRow (a : List Nat) : SeqAt.shaped (dRow a) = true := (shk_list (k := 0) (shk_map fun x _ => ⟨rfl, Nat.le_refl _⟩)).sh (by decide)
theorem flat_kv (q : (List Nat × Bool) × List Nat) : flatB (kvP q).2 = true := rfl
theorem zip_nodup : ∀ {sl : List (List Nat × Bool)} {ps : List (List Nat)}, (sl.map (·.1)).Nodup → (((sl.zip ps).map kvP).map (·.1)).Nodup
  | [], _, _ => by simp
  | _ :: _, [], _ => by simp
  | x :: sl, p :: ps, h => by
    rw [List.map_cons, List.nodup_cons] at h
    rw [List.zip_cons_cons, List.map_cons, List.map_cons, List.nodup_cons]
    refine ⟨fun m => h.1 ?_, zip_nodup h.2⟩
    rw [List.map_map] at m
    obtain ⟨q, hq, e⟩ := List.mem_map.mp m
    have e1 : q.1.1 = x.1 := S_inj (Sum.inr.inj e)
    rw [← e1]
    exact List.mem_map.mpr ⟨q.1, (List.of_mem_zip hq).1, rfl⟩
theorem kv_eq {hd : List Nat} {sl : List (List Nat × Bool)} {js l : List Nat} (g : GoodLab hd sl js) : ∀ q ∈ readKv hd sl js l, valV (readKv hd sl js l) q.1 = some q.2 ∧ flatB q.2 = true := fun q hq => by
  refine ⟨val_nodup (zip_nodup g.s.nd) q hq, ?_⟩
  unfold readKv at hq
  obtain ⟨r, _, rfl⟩ := List.mem_map.mp hq
  rfl
def spLaw (K : PySem.W.Frag) : Sp := fun vs H Q _ => ∃ (a : Addr) (ns : List Int), vs = [.ref a] ∧ SqL K H a (ns.map V.int) ∧ ns.length ≤ 63 ∧ ∀ H', Q (.bl true) H'
abbrev sLaw : Stmt := top 55
theorem scLaw : FnScope ["_law_script", "_law_tape_here", "_law_plan_here", "_law_plans", "_law_k", "_law_made_here", "_law_forms", "_law_same", "_law_told", "_law_again", "_law_turn", "_law_numbers_here", "_law_lines", "_law_less", "_law_bent_here", "_law_line", "_law_rows", "_law_one", "_law_name", "_law_form"] ["_law_script"] (defScope sLaw) := ⟨rfl, rfl, rfl, by decide +kernel, rfl, by decide +kernel, by decide +kernel⟩
/-- the scope of a comprehension that is assigned -/
def lcSc : Stmt → Scope
  | .Assign _ (.ListComp _ _ sc _) _ => sc
  | _ => defScope sLaw
def forB : Stmt → List Stmt
  | .For _ _ b _ _ => b
  | _ => []
def atS (l : List Stmt) (i : Nat) : Stmt := l.getD i (.Pass ⟨0, 0, 0, 0⟩)
theorem ok_law (T : Txt K mg c) {f : Addr} {fd : FuncData} (F : Fun K "law" "law" sLaw f fd) : FnOk P w K mg base CX0 8 f fd ["_law_script"] (spLaw K) := by
  have mSf : FnOk P w K mg base CX0 3 c.mSf c.fdSf ["self", "other"] (spSf K c.CL) := ok_lsf T
  have mOf : FnOk P w K mg base CX0 5 c.mOf c.fdOf ["self", "values"] (spOf K c.CL) := ok_lof T
  have mRd : FnOk P w K mg base CX0 5 c.mRd c.fdRd ["self", "text"] (spLRd K c.CL) := ok_lrd T
  have mEq : FnOk P w K mg base CX0 1 c.mEq c.fdEq ["self", "other"] (spLEq K c.CL) := ok_leq T
  have cTp : Cal P w K mg base CX0 1 "_law_tape" (spTape K) := cal_of T.d__law_tape fun f fd F => ok_tape T F
  have cP : Cal P w K mg base CX0 1 "_law_pick" spPick := cal_of T.d__law_pick fun f fd F => ok_pick T F
  have cPl : Cal P w K mg base CX0 3 "_law_plan" spPlan := cal_of T.d__law_plan fun f fd F => ok_plan T F
  have cTw : Cal P w K mg base CX0 4 "_law_twin" spTwin := cal_of T.d__law_twin fun f fd F => ok_twin T F
  have cMd : Cal P w K mg base CX0 6 "_law_made" (spMade K c.CL) := cal_of T.d__law_made fun f fd F => ok_made T F
  have cFc : Cal P w K mg base CX0 2 "_law_face" spFace := cal_of T.d__law_face fun f fd F => ok_face T T.d__law_joined F
  have cRb : Cal P w K mg base CX0 6 "read_label" (spRlb K c.CL) := cal_of T.d_read_label fun f fd F => ok_rlb T F
  have cNu : Cal P w K mg base CX0 2 "_law_numbers" spNums := cal_of T.d__law_numbers fun f fd F => ok_nums T F
  have cDu : Cal P w K mg base CX0 3 "_law_due" spDue := cal_of T.d__law_due fun f fd F => ok_due T T.d__law_word T.d__law_figure T.d__law_joined F
  have cBn : Cal P w K mg base CX0 2 "_law_bent" spBent := cal_of T.d__law_bent fun f fd F => ok_bent T F
  have cRg : Cal P w K mg base CX0 7 "_law_right" (spRight K c.CL) := cal_of T.d__law_right fun f fd F => ok_right T F
  have cRd : Cal P w K mg base CX0 2 "_law_read" spLrdd := cal_of T.d__law_read fun f fd F => ok_lrdd T F
  refine F.ok scLaw (fun vs H Q E h => ?_) (fun cdv A' outer s H vs Q E hr h => ?_)
  · obtain ⟨a, ns, rfl, _⟩ := h
    rfl
  · obtain ⟨SC, ns, rfl, hS, hl, q⟩ := h
    refine ⟨_, (pss_cons (ps_set (i := 1) scLaw.nd rfl (Or.inr rfl) (pe_c cTp hr (by decide) rfl (pa_cons (pv 0) (pa_cons pe_int pa_nil))))
  (pss_cons (ps_set (i := 2) scLaw.nd rfl (Or.inl rfl) (pe_c cPl hr (by decide) rfl (pa_cons (pv 1) pa_nil)))
  (pss_cons (ps_set (i := 3) scLaw.nd rfl (Or.inr rfl) (pe_lst (pa_cons (pv 2) (pa_cons (pe_c cTw hr (by decide) rfl (pa_cons (pv 1) (pa_cons (pv 2) pa_nil))) pa_nil))))
  (pss_cons (ps_setLc (i := 5) (own := [("_law_k", 4)]) (g := (gName 4)) (tt := tYes) rfl scLaw.nd rfl rfl (sw_true rfl rfl rfl (by decide +kernel)) (pi_range1 (by rfl) T.z_range (pa_cons pe_int pa_nil)) (blkOk_by (N := ["_law_script", "_law_tape_here", "_law_plan_here", "_law_plans", "_law_k", "_law_made_here", "_law_forms", "_law_same", "_law_told", "_law_again", "_law_turn", "_law_numbers_here", "_law_lines", "_law_less", "_law_bent_here", "_law_line", "_law_rows", "_law_one", "_law_name", "_law_form"]) (sc := defScope sLaw) (by decide +kernel)) (fun _ _ _ _ _ => (pg_name (i := 4) scLaw.nd rfl (Or.inl rfl))) (fun _ _ _ _ _ => pts_nil) (fun s5 H5 C5 cl5 fp5 => (pe_c cMd hr (by decide) rfl (pa_cons (pe_ix (ix_listK (K := K)) (pv 3) (pv 4) (fun _ _ => rfl)) (pa_cons (pe_c cP hr (by decide) rfl (pa_cons (pv 1) (pa_cons pe_int pa_nil))) pa_nil)))))
  (pss_cons (ps_setLc (i := 6) (own := [("_law_one", 17)]) (g := (gName 17)) (tt := tYes) rfl scLaw.nd rfl rfl (sw_true rfl rfl rfl (by decide +kernel)) (pi_list (pv 3)) (blkOk_by (N := ["_law_script", "_law_tape_here", "_law_plan_here", "_law_plans", "_law_k", "_law_made_here", "_law_forms", "_law_same", "_law_told", "_law_again", "_law_turn", "_law_numbers_here", "_law_lines", "_law_less", "_law_bent_here", "_law_line", "_law_rows", "_law_one", "_law_name", "_law_form"]) (sc := defScope sLaw) (by decide +kernel)) (fun _ _ _ _ _ => (pg_name (i := 17) scLaw.nd rfl (Or.inl rfl))) (fun _ _ _ _ _ => pts_nil) (fun s5 H5 C5 cl5 fp5 => (pe_lst (pa_cons (pe_ix (ix_listK (K := K)) (pv 17) pe_int (fun _ _ => rfl)) (pa_cons (pe_lc (X := Cx.blk ((cxOf CX0 P w K mg base ["_law_script", "_law_tape_here", "_law_plan_here", "_law_plans", "_law_k", "_law_made_here", "_law_forms", "_law_same", "_law_told", "_law_again", "_law_turn", "_law_numbers_here", "_law_lines", "_law_less", "_law_bent_here", "_law_line", "_law_rows", "_law_one", "_law_name", "_law_form"] "law" (defScope sLaw) f cdv A' outer s H E).nox) s5 H5 ({ kind := .function, names := [(".0", .local), ("_law_one", .local)], isGenerator := false, isCoroutine := false }) (compEnvC ({ kind := .function, names := [(".0", .local), ("_law_one", .local)], isGenerator := false, isCoroutine := false }) cl5 C5 ((cxOf CX0 P w K mg base ["_law_script", "_law_tape_here", "_law_plan_here", "_law_plans", "_law_k", "_law_made_here", "_law_forms", "_law_same", "_law_told", "_law_again", "_law_turn", "_law_numbers_here", "_law_lines", "_law_less", "_law_bent_here", "_law_line", "_law_rows", "_law_one", "_law_name", "_law_form"] "law" (defScope sLaw) f cdv A' outer s H E).nox).env) fp5) (own := [("_law_name", 18), ("_law_form", 19)]) (g := (gTup K 2 (gCons (gName 18) (gCons (gName 19) gNil)))) (tt := tYes) rfl scLaw.nd (pi_listK (K := K) (pe_ix (ix_listK (K := K)) (pv 17) pe_int (fun _ _ => rfl))) (blkOk_by (N := ["_law_script", "_law_tape_here", "_law_plan_here", "_law_plans", "_law_k", "_law_made_here", "_law_forms", "_law_same", "_law_told", "_law_again", "_law_turn", "_law_numbers_here", "_law_lines", "_law_less", "_law_bent_here", "_law_line", "_law_rows", "_law_one", "_law_name", "_law_form"]) (sc := lcSc (atS (defBody sLaw) 4)) (by decide +kernel)) (fun _ _ _ _ _ => (pg_tup (by rfl) (pgs_cons (pg_name (i := 18) scLaw.nd rfl (Or.inl rfl)) (pgs_cons (pg_name (i := 19) scLaw.nd rfl (Or.inl rfl)) pgs_nil)))) (fun _ _ _ _ _ => pts_nil) (fun _ _ _ _ _ => (pv 19))) (pa_cons (pe_ix (ix_listK (K := K)) (pv 17) pe_int (fun _ _ => rfl)) pa_nil))))))
  (pss_cons (ps_set (i := 7) scLaw.nd rfl (Or.inl rfl) (pe_cmpR (op_eqD hr.units) (pe_ix ix_list (pv 6) pe_int (fun _ _ => rfl)) (pe_ix ix_list (pv 6) pe_int (fun _ _ => rfl)) (nomark _)))
  (pss_cons (ps_for PassesOwn.never rfl (pi_list (pe_lst (pa_cons (pe_meth (pe_ix ix_list (pv 5) pe_int (fun _ _ => rfl)) T.clL T.MSf mSf (hr.mono (by decide)) T.bSf .nil pass0 (pa_cons (pe_ix ix_list (pv 5) pe_int (fun _ _ => rfl)) pa_nil)) (pa_cons (pe_meth (pe_ix ix_list (pv 5) pe_int (fun _ _ => rfl)) T.clL T.MSf mSf (hr.mono (by decide)) T.bSf .nil pass0 (pa_cons (pe_ix ix_list (pv 5) pe_int (fun _ _ => rfl)) pa_nil)) pa_nil)))) (pg_name (i := 8) scLaw.nd rfl (Or.inl rfl))
  (pss_one (ps_if (PW.pt (pw_or (pt_not (pt_val (pe_callB call_isi (by rfl) T.z_isinstance (by decide +kernel) (pa_cons (pv 8) (pa_cons (pe_bltn (v := .ty "bool") (by rfl) T.z_bool (by decide +kernel) rfl) pa_nil))))) (pw_or1 (pt_cmpR op_ne (pv 8) (pv 7) (nomark _))))) (pss_one (ps_ret pe_bl)) pss_nil)))
  (pss_cons (ps_if (PW.pt (pw_or (pt_cmpR op_ne (pe_cmpR (op_eqOwn mEq (hr.mono (by decide)) T.MEq.at_ T.MEq.fn T.bEq pass0) (pe_ix ix_list (pv 5) pe_int (fun _ _ => rfl)) (pe_ix ix_list (pv 5) pe_int (fun _ _ => rfl)) (nomark _)) (pe_cmpR (op_eqD hr.units) (pe_ix ix_list (pv 3) pe_int (fun _ _ => rfl)) (pe_ix ix_list (pv 3) pe_int (fun _ _ => rfl)) (nomark _)) (nomark _)) (pw_or (pt_cmpR (op_eqOwn mEq (hr.mono (by decide)) T.MEq.at_ T.MEq.fn T.bEq pass0) (pe_ix ix_list (pv 5) pe_int (fun _ _ => rfl)) (pe_c cFc hr (by decide) rfl (pa_cons (pv 2) pa_nil)) (nomark _)) (pw_or1 (pt_not (pt_val (pe_meth (pe_ix ix_list (pv 5) pe_int (fun _ _ => rfl)) T.clL T.MSf mSf (hr.mono (by decide)) T.bSf .nil pass0 (pa_cons (pe_ix ix_list (pv 5) pe_int (fun _ _ => rfl)) pa_nil)))))))) (pss_one (ps_ret pe_bl)) pss_nil)
  (pss_cons (ps_setLc (i := 9) (own := [("_law_one", 17)]) (g := (gName 17)) (tt := tYes) rfl scLaw.nd rfl rfl (sw_true rfl rfl rfl (by decide +kernel)) (pi_list (pv 3)) (blkOk_by (N := ["_law_script", "_law_tape_here", "_law_plan_here", "_law_plans", "_law_k", "_law_made_here", "_law_forms", "_law_same", "_law_told", "_law_again", "_law_turn", "_law_numbers_here", "_law_lines", "_law_less", "_law_bent_here", "_law_line", "_law_rows", "_law_one", "_law_name", "_law_form"]) (sc := defScope sLaw) (by decide +kernel)) (fun _ _ _ _ _ => (pg_name (i := 17) scLaw.nd rfl (Or.inl rfl))) (fun _ _ _ _ _ => pts_nil) (fun s5 H5 C5 cl5 fp5 => (pe_c cRb hr (by decide) rfl (pa_cons (pe_c cFc hr (by decide) rfl (pa_cons (pv 17) pa_nil)) pa_nil))))
  (pss_cons (ps_for PassesOwn.never rfl (pi_range2 (by rfl) T.z_range (pa_cons pe_int (pa_cons pe_int pa_nil))) (pg_name (i := 10) scLaw.nd rfl (Or.inl rfl))
  (pss_cons (ps_set (i := 1) scLaw.nd rfl (Or.inr rfl) (pe_c cTp hr (by decide) rfl (pa_cons (pv 0) (pa_cons (pv 10) pa_nil))))
  (pss_cons (ps_set (i := 11) scLaw.nd rfl (Or.inr rfl) (pe_c cNu hr (by decide) rfl (pa_cons (pv 1) (pa_cons (pv 3) (pa_cons (pe_op op_pow pe_int pe_int) pa_nil)))))
  (pss_cons (ps_setLc (i := 12) (own := [("_law_one", 17)]) (g := (gName 17)) (tt := tYes) rfl scLaw.nd rfl rfl (sw_true rfl rfl rfl (by decide +kernel)) (pi_list (pv 3)) (blkOk_by (N := ["_law_script", "_law_tape_here", "_law_plan_here", "_law_plans", "_law_k", "_law_made_here", "_law_forms", "_law_same", "_law_told", "_law_again", "_law_turn", "_law_numbers_here", "_law_lines", "_law_less", "_law_bent_here", "_law_line", "_law_rows", "_law_one", "_law_name", "_law_form"]) (sc := defScope sLaw) (by decide +kernel)) (fun _ _ _ _ _ => (pg_name (i := 17) scLaw.nd rfl (Or.inl rfl))) (fun _ _ _ _ _ => pts_nil) (fun s5 H5 C5 cl5 fp5 => (pe_c cDu hr (by decide) rfl (pa_cons (pv 17) (pa_cons (pv 11) pa_nil)))))
  (pss_cons (ps_set (i := 13) scLaw.nd rfl (Or.inr rfl) (pe_c cNu hr (by decide) rfl (pa_cons (pv 1) (pa_cons (pv 3) (pa_cons (pe_op op_pow pe_int pe_int) pa_nil)))))
  (pss_cons (ps_setLc (i := 14) (own := [("_law_one", 17)]) (g := (gName 17)) (tt := tYes) rfl scLaw.nd rfl rfl (sw_true rfl rfl rfl (by decide +kernel)) (pi_list (pv 3)) (blkOk_by (N := ["_law_script", "_law_tape_here", "_law_plan_here", "_law_plans", "_law_k", "_law_made_here", "_law_forms", "_law_same", "_law_told", "_law_again", "_law_turn", "_law_numbers_here", "_law_lines", "_law_less", "_law_bent_here", "_law_line", "_law_rows", "_law_one", "_law_name", "_law_form"]) (sc := defScope sLaw) (by decide +kernel)) (fun _ _ _ _ _ => (pg_name (i := 17) scLaw.nd rfl (Or.inl rfl))) (fun _ _ _ _ _ => pts_nil) (fun s5 H5 C5 cl5 fp5 => (pe_c cBn hr (by decide) rfl (pa_cons (pv 1) (pa_cons (pe_c cDu hr (by decide) rfl (pa_cons (pv 17) (pa_cons (pv 13) pa_nil))) pa_nil)))))
  (pss_cons (ps_for PassesOwn.never rfl (pi_range1 (by rfl) T.z_range (pa_cons pe_int pa_nil)) (pg_name (i := 4) scLaw.nd rfl (Or.inl rfl))
  (pss_cons (ps_if (PW.pt (pw_or (pt_not (pt_val (pe_c cRg hr (by decide) rfl (pa_cons (pe_ix ix_list (pv 3) (pv 4) (fun _ _ => rfl)) (pa_cons (pe_ix ix_list (pv 5) (pv 4) (fun _ _ => rfl)) pa_nil))))) (pw_or1 (pt_cmpR op_ne (pe_meth (pe_ix ix_list (pv 5) (pv 4) (fun _ _ => rfl)) T.clL T.MOf mOf (hr.mono (by decide)) T.bOf .nil pass0 (pa_cons (pv 11) pa_nil)) (pe_ix ix_list (pv 12) (pv 4) (fun _ _ => rfl)) (nomark _))))) (pss_one (ps_ret pe_bl)) pss_nil)
  (pss_cons (ps_if (PW.pt (pw_or (pt_not (pt_val (pe_c cRg hr (by decide) rfl (pa_cons (pe_ix ix_list (pv 3) (pv 4) (fun _ _ => rfl)) (pa_cons (pe_ix ix_list (pv 9) (pv 4) (fun _ _ => rfl)) pa_nil))))) (pw_or1 (pt_cmpR op_ne (pe_meth (pe_ix ix_list (pv 9) (pv 4) (fun _ _ => rfl)) T.clL T.MOf mOf (hr.mono (by decide)) T.bOf .nil pass0 (pa_cons (pv 11) pa_nil)) (pe_ix ix_list (pv 12) (pv 4) (fun _ _ => rfl)) (nomark _))))) (pss_one (ps_ret pe_bl)) pss_nil)
  (pss_one (ps_for PassesOwn.never rfl (pi_list (pe_lst (pa_cons (pe_ix ix_list (pv 12) pe_int (fun _ _ => rfl)) (pa_cons (pe_ix ix_list (pv 12) pe_int (fun _ _ => rfl)) (pa_cons (pe_ix ix_list (pv 14) (pv 4) (fun _ _ => rfl)) (pa_cons (pe_c cBn hr (by decide) rfl (pa_cons (pv 1) (pa_cons (pe_ix ix_list (pv 14) (pe_op op_sub pe_int (pv 4)) (fun _ _ => rfl)) pa_nil))) pa_nil)))))) (pg_name (i := 15) scLaw.nd rfl (Or.inl rfl))
  (pss_cons (ps_set (i := 8) scLaw.nd rfl (Or.inl rfl) (pe_meth (pe_ix ix_list (pv 5) (pv 4) (fun _ _ => rfl)) T.clL T.MRd mRd (hr.mono (by decide)) T.bRd .nil pass0 (pa_cons (pv 15) pa_nil)))
  (pss_cons (ps_if (PW.pt (pw_or (pt_cmpR (op_neAny (hu_of hr)) (pv 8) (pe_c cRd hr (by decide) rfl (pa_cons (pe_ix ix_list (pv 3) (pv 4) (fun _ _ => rfl)) (pa_cons (pv 15) pa_nil))) (nomark _)) (pw_or1 (pt_cmpR (op_neAny (hu_of hr)) (pe_meth (pe_ix ix_list (pv 9) (pv 4) (fun _ _ => rfl)) T.clL T.MRd mRd (hr.mono (by decide)) T.bRd .nil pass0 (pa_cons (pv 15) pa_nil)) (pv 8) (nomark _))))) (pss_one (ps_ret pe_bl)) pss_nil)
  (pss_one (ps_if (pt_cmpR op_notN (pv 8) pe_non (nomark _)) (pss_one (ps_expr (pe_bm0 PySem.F.plainAttrs_dict PySem.F.slot_dict_clear PySem.F.type_dict_clear mtd_clear (pv 8)))) pss_nil)))))))))
  (pss_cons (ps_setLc (i := 16) (own := [("_law_one", 17)]) (g := (gName 17)) (tt := tYes) rfl scLaw.nd rfl rfl (sw_true rfl rfl rfl (by decide +kernel)) (pi_list (pv 3)) (blkOk_by (N := ["_law_script", "_law_tape_here", "_law_plan_here", "_law_plans", "_law_k", "_law_made_here", "_law_forms", "_law_same", "_law_told", "_law_again", "_law_turn", "_law_numbers_here", "_law_lines", "_law_less", "_law_bent_here", "_law_line", "_law_rows", "_law_one", "_law_name", "_law_form"]) (sc := defScope sLaw) (by decide +kernel)) (fun _ _ _ _ _ => (pg_name (i := 17) scLaw.nd rfl (Or.inl rfl))) (fun _ _ _ _ _ => pts_nil) (fun s5 H5 C5 cl5 fp5 => (pe_lc (X := Cx.blk ((cxOf CX0 P w K mg base ["_law_script", "_law_tape_here", "_law_plan_here", "_law_plans", "_law_k", "_law_made_here", "_law_forms", "_law_same", "_law_told", "_law_again", "_law_turn", "_law_numbers_here", "_law_lines", "_law_less", "_law_bent_here", "_law_line", "_law_rows", "_law_one", "_law_name", "_law_form"] "law" (defScope sLaw) f cdv A' outer s H E).nox) s5 H5 ({ kind := .function, names := [(".0", .local), ("_law_one", .local), ("_law_numbers_here", .free)], isGenerator := false, isCoroutine := false }) (compEnvC ({ kind := .function, names := [(".0", .local), ("_law_one", .local), ("_law_numbers_here", .free)], isGenerator := false, isCoroutine := false }) cl5 C5 ((cxOf CX0 P w K mg base ["_law_script", "_law_tape_here", "_law_plan_here", "_law_plans", "_law_k", "_law_made_here", "_law_forms", "_law_same", "_law_told", "_law_again", "_law_turn", "_law_numbers_here", "_law_lines", "_law_less", "_law_bent_here", "_law_line", "_law_rows", "_law_one", "_law_name", "_law_form"] "law" (defScope sLaw) f cdv A' outer s H E).nox).env) fp5) (own := [("_law_name", 18), ("_law_form", 19)]) (g := (gTup K 2 (gCons (gName 18) (gCons (gName 19) gNil)))) (tt := tYes) rfl scLaw.nd (pi_listK (K := K) (pe_ix (ix_listK (K := K)) (pv 17) pe_int (fun _ _ => rfl))) (blkOk_by (N := ["_law_script", "_law_tape_here", "_law_plan_here", "_law_plans", "_law_k", "_law_made_here", "_law_forms", "_law_same", "_law_told", "_law_again", "_law_turn", "_law_numbers_here", "_law_lines", "_law_less", "_law_bent_here", "_law_line", "_law_rows", "_law_one", "_law_name", "_law_form"]) (sc := { kind := .function, names := [(".0", .local), ("_law_one", .local), ("_law_numbers_here", .cell)], isGenerator := false, isCoroutine := false }) (by decide +kernel)) (fun _ _ _ _ _ => (pg_tup (by rfl) (pgs_cons (pg_name (i := 18) scLaw.nd rfl (Or.inl rfl)) (pgs_cons (pg_name (i := 19) scLaw.nd rfl (Or.inl rfl)) pgs_nil)))) (fun _ _ _ _ _ => pts_nil) (fun _ _ _ _ _ => (pe_dget (hu_of hr) (pv 11) (pv 18) (fun _ _ => rfl))))))
  (pss_one (ps_if (pt_cmpR op_ne (pe_cmpR op_eq (pe_ix ix_list (pv 12) pe_int (fun _ _ => rfl)) (pe_ix ix_list (pv 12) pe_int (fun _ _ => rfl)) (nomark _)) (pe_and (pv 7) (pe_one (pe_cmpR (op_eqD hr.units) (pe_ix ix_list (pv 16) pe_int (fun _ _ => rfl)) (pe_ix ix_list (pv 16) pe_int (fun _ _ => rfl)) (nomark _)))) (nomark _)) (pss_one (ps_ret pe_bl)) pss_nil))))))))))
  (pss_one (ps_ret pe_bl)))))))))))), ?_⟩
    refine ⟨_, rfl, SC, ns, 0, rfl, hS, by decide, by decide, fun a x y ha ok => ?_⟩
    have ta : TapeAt (upd H a (tapeO x y)) a := ⟨x, y, upd_same, ok⟩
    have s0 := same_new (o := tapeO x y) ha
    generalize upd H a (tapeO x y) = H0 at ta s0 ⊢
    refine ⟨_, rfl, a, rfl, ta, fun P1 A1 B1 ts1 hd1 sl1 js1 H1 k1 pl1 g1 h71 => ?_⟩
    refine ⟨_, rfl, _, rfl, _, rfl, a, P1, A1, B1, ts1, hd1, sl1, js1, rfl, k1.2, pl1, g1, h71, fun P2 A2 B2 ts2 hd2 sl2 js2 H2 k2 pl2 g2 n2 => ⟨(by show 2 ≤ sizeLine; decide), fun PL hPL => ?_⟩⟩
    have pl1' := PlanAt.kp pl1 k1.2 k2
    have s3 := same_new (o := .lst [V.ref P1, V.ref P2]) hPL
    have e3 := upd_same (H := H2) (a := PL) (o := .lst [V.ref P1, V.ref P2])
    have k3 := (k1.trans k2).trans (Kp.new (o := .lst [V.ref P1, V.ref P2]) k2.2 hPL)
    generalize upd H2 PL (.lst [V.ref P1, V.ref P2]) = H3 at s3 e3 k3 ⊢
    obtain ⟨p, rfl, WP, hok⟩ : ∃ p : Nat → Pd, P1 = (p 0).P ∧ Plans H3 PL p ∧ ∀ i, i < 2 → (p i).Ok := by
      refine ⟨fun i => if i = 0 then ⟨P1, A1, B1, ts1, hd1, sl1, js1⟩ else ⟨P2, A2, B2, ts2, hd2, sl2, js2⟩, rfl, ⟨e3, fun i hi => ?_⟩, fun i hi => ?_⟩
      · obtain rfl | rfl : i = 0 ∨ i = 1 := by omega
        · exact PlanAt.sm pl1' s3
        · exact PlanAt.sm pl2 s3
      · obtain rfl | rfl : i = 0 ∨ i = 1 := by omega
        · exact ⟨g1, NoSp.of h71⟩
        · exact ⟨g2, n2⟩
    have t3 := k3.2
    have k30 : SqL K H3 SC (ns.map V.int) := SqL.kn hS ha fun b o hb e => k3.1 b o hb (s0 b o e)
    have kk3 : ∀ b o, b ≠ a → H b = some o → H3 b = some o := fun b o hb e => k3.1 b o hb (s0 b o e)
    clear pl1 pl1' pl2 g1 g2 h71 n2 e3 s3 k1 k2 k3
    -- the labels
    refine ⟨2, rfl, by decide, by decide, fun M hM => lc_at (n := 2) (Y := fun i H x H' => H' = H ∧ x = .int (0 + (i : Nat))) (fun i H' => Kp a H3 H' ∧ ∃ y : Nat → Addr, H' M = some (.lst (rng (fun j => V.ref (y j)) i)) ∧ ∀ j, j < i → LabAt K c.CL H' (y j) (p j).hd (p j).sl (p j).js) ⟨Kp.new t3 hM, fun _ => 0, upd_same, fun j hj => absurd hj (Nat.not_lt_zero _)⟩ (fun i H' hi z => walks_r) (fun i v H2 H1 hi yy z => ?_) (fun H' z => ?_)⟩
    · obtain ⟨rfl, rfl⟩ := yy
      obtain ⟨k4, y, hz, hl'⟩ := z
      have nM : M ≠ a := ntape t3 hM
      have W4 := WP.kp t3 k4
      refine ⟨rfl, _, rfl, _, rfl, PL, _, _, _, rfl, rfl, SqL.of W4.l, at_of (j := i) (by omega) (two_at hi), _, rfl, a, 2, rfl, k4.2, by decide, by decide, fun r H5 r0 r1 F5 => ?_⟩
      have k5 := k4.trans (Kp.of F5)
      have W5 := WP.kp t3 k5
      refine ⟨(p i).P, (p i).A, (p i).B, (p i).ts, (p i).hd, (p i).sl, (p i).js, r, rfl, W5.a i hi, (hok i hi).g, fun z H6 s6 nz la => ?_⟩
      have k6 := k5.trans (Kp.same k5.2 s6)
      have hz6 : H6 M = some (.lst (rng (fun j => V.ref (y j)) i)) := s6 _ _ (by rw [F5.1 M nM]; exact hz)
      refine ⟨_, hz6, by rw [rng_len]; exact small1000 (by omega), k6.mut hM nM, put y i z, ?_, fun j hj => ?_⟩
      · rw [upd_same]
        have e := rng_put (fun j => V.ref (y j)) i (V.ref z)
        rw [← e]
        congr 2
        unfold rng put
        refine List.map_congr_left fun j _ => ?_
        show (if j = i then V.ref z else V.ref (y j)) = V.ref (if j = i then z else y j)
        split <;> rfl
      · refine LabAt.at_lst hz6 ?_
        by_cases e : j = i
        · subst e
          rw [put_at]
          exact la
        · rw [put_ne _ _ e]
          exact (LabAt.kp k4.2 ((Kp.of F5).trans (Kp.same F5.2 s6)) (hl' j (by omega)))
    obtain ⟨k4, y, hz, hy⟩ := z
    have WY : Labs K c.CL H' M p y := ⟨hz, hy⟩
    have W4 := WP.kp t3 k4
    have t4 := k4.2
    have S4 : SqL K H' SC (ns.map V.int) := SqL.kn hS ha fun b o hb e => k4.1 b o hb (kk3 b o hb e)
    generalize H' = H4 at k4 hz hy WY W4 t4 S4 ⊢
    -- the forms
    refine ⟨_, rfl, PL, rfl, ⟨_, SqL.of W4.l⟩, fun D hD => lc_at (n := 2) (Y := yIt (two fun i => V.ref (p i).P)) (fun i H' => Same H4 H' ∧ ∃ qs : Nat → Addr, H' D = some (.lst (rng (fun j => V.ref (qs j)) i)) ∧ ∀ j, j < i → FormAt D H' (qs j) (p j)) ⟨same_new hD, fun _ => 0, upd_same, fun j hj => absurd hj (Nat.not_lt_zero _)⟩ (fun i H' hi z => walks_l (SqL.of (z.1 _ _ W4.l))) (fun i v H2 H1 hi yy z => ?_) (fun H' z => ?_)⟩
    · obtain ⟨rfl, rfl⟩ := yI2 hi yy
      obtain ⟨s5, qs, hz5, hf⟩ := z
      have pl := PlanAt.sm (W4.a i hi) s5
      refine ⟨rfl, _, rfl, (p i).P, _, 0, _, rfl, rfl, SqL.of pl.p, at_of (j := 0) rfl rfl, _, rfl, (p i).P, _, 1, _, rfl, rfl, SqL.of pl.p, at_of (j := 1) rfl rfl, (p i).A, rfl, ⟨_, SqL.of pl.a⟩, fun D2 hD2 => lc_at (n := (p i).sl.length) (Y := yIt ((p i).ts.map V.ref)) (fun j H' => Same H1 H' ∧ H' D2 = some (.lst ((((p i).sl.map (·.2)).take j).map fun b => V.str (S (formL b))))) ⟨same_new hD2, upd_same⟩ (fun j H' hj z => ?_) (fun j v H5 H6 hj yy z => ?_) (fun H' z => ?_)⟩
      · have w := walks_l (K := K) (i := j) (SqL.of (z.1 _ _ pl.a))
        rw [List.length_map, pl.t.1] at w
        exact w
      · obtain ⟨rfl, hv⟩ := yy
        obtain ⟨s6, hz6⟩ := z
        obtain ⟨t, u, rfl, hu, et⟩ := slot_at (pl.t.sm s6) hv
        refine ⟨t, _, rfl, SqT.of et, rfl, _, _, rfl, _, _, rfl, rfl, rfl, ?_⟩
        refine ⟨_, rfl, _, hz6, by rw [List.length_map, List.length_take, List.length_map]; exact small1000 (by have := (hok i hi).g.s.le; omega), same_mut s6 hD2, ?_⟩
        rw [upd_same, List.take_succ, List.getElem?_map, hu, List.map_append]
        rfl
      · obtain ⟨s6, hz6⟩ := z
        rw [List.take_of_length_le (by rw [List.length_map]; exact Nat.le_refl _)] at hz6
        have pl6 := PlanAt.sm pl s6
        refine ⟨_, rfl, (p i).P, _, 2, _, rfl, rfl, SqL.of pl6.p, at_of (j := 2) rfl rfl, (by show 3 ≤ sizeLine; decide), fun qa hqa => ?_⟩
        have s7 := s6.trans (same_new (o := .lst [V.str (S (p i).hd), V.ref D2, V.ref (p i).B]) hqa)
        have hz7 := s7 _ _ hz5
        have nq : qa ≠ D := fun z => by rw [z, s6 _ _ hz5] at hqa; cases hqa
        have nd : D2 ≠ D := fun z => by rw [z, hz5] at hD2; cases hD2
        refine ⟨_, hz7, by rw [rng_len]; exact small1000 (by omega), same_mut (s5.trans s7) hD, put qs i qa, ?_, fun j hj => ?_⟩
        · rw [upd_same]
          exact congrArg (fun z => some (HO.lst z)) (rng_ref qs i qa).symm
        · by_cases e : j = i
          · subst e
            rw [put_at]
            exact ⟨D2, nq, nd, by rw [upd_ne nq]; exact upd_same, by rw [upd_ne nd]; exact same_new hqa _ _ hz6⟩
          · rw [put_ne _ _ e]
            exact FormAt.put ((hf j (by omega)).sm s7)
    obtain ⟨s5, qs, hz5, hf⟩ := z
    rw [rng_two] at hz5
    have dpF : ∀ i, i < 2 → Dp K H' (.ref (qs i)) (dForm (p i)) := fun i hi => by
      obtain ⟨D2, _, _, e1, e2⟩ := hf i hi
      have pl := PlanAt.sm (W4.a i hi) s5
      exact .lst (SqL.of e1) (.cons (.str _) (.cons (.lst (SqL.of e2) (dp_map fun _ _ => .str _)) (.cons (.lst (SqL.of pl.b) (dp_js _)) .nil)))
    refine ⟨_, rfl, D, _, 0, _, rfl, rfl, SqL.of hz5, at_of (j := 0) rfl rfl, _, rfl, D, _, 1, _, rfl, rfl, SqL.of hz5, at_of (j := 1) rfl rfl, dForm (p 0), dForm (p 1), dpF 0 (by decide), dpF 1 (by decide), Pd.shF (hok 0 (by decide)), Pd.shF (hok 1 (by decide)), ?_⟩
    rw [eqv_dForm]
    have k5 := Kp.same t4 s5
    have WY5 := WY.sm s5
    have W5 := W4.sm s5
    have t5 := k5.2
    have S5 := SqL.sm S4 s5
    generalize hsm : (decide ((p 0).hd = (p 1).hd) && (decide ((p 0).sl.map (·.2) = (p 1).sl.map (·.2)) && decide ((p 0).js = (p 1).js))) = same
    have hs01 : (decide ((p 0).hd = (p 1).hd) && (decide ((p 0).js = (p 1).js) && decide ((p 0).sl.map (·.2) = (p 1).sl.map (·.2)))) = same := by rw [← hsm, Bool.and_comm (decide ((p 0).js = (p 1).js))]
    have hs10 : (decide ((p 1).hd = (p 0).hd) && (decide ((p 1).js = (p 0).js) && decide ((p 1).sl.map (·.2) = (p 0).sl.map (·.2)))) = same := by
      rw [← hs01]
      congr 1
      · exact decide_eq_decide.mpr eq_comm
      · congr 1
        · exact decide_eq_decide.mpr eq_comm
        · exact decide_eq_decide.mpr eq_comm
    generalize H' = H5 at s5 dpF hz5 hf k5 WY5 W5 t5 S5 ⊢
    clear dpF hz5 hf
    obtain ⟨dx0, LA0, LB0, lt0, lp0⟩ := WY5.a 0 (by decide)
    refine ⟨_, rfl, M, _, 0, _, rfl, rfl, SqL.of WY5.l, at_of (j := 0) rfl rfl, y 0, dx0, _, rfl, lp0.i, rfl, _, rfl, M, _, 1, _, rfl, rfl, SqL.of WY5.l, at_of (j := 1) rfl rfl, y 0, y 1, _, _, _, _, _, _, rfl, WY5.a 0 (by decide), (hok 0 (by decide)).g, WY5.a 1 (by decide), (hok 1 (by decide)).g, fun H6 s6 => ?_⟩
    have WY6 := WY5.sm s6
    obtain ⟨dx1, LA1, LB1, lt1, lp1⟩ := WY6.a 1 (by decide)
    refine ⟨_, rfl, M, _, 1, _, rfl, rfl, SqL.of WY6.l, at_of (j := 1) rfl rfl, y 1, dx1, _, rfl, lp1.i, rfl, _, rfl, M, _, 0, _, rfl, rfl, SqL.of WY6.l, at_of (j := 0) rfl rfl, y 1, y 0, _, _, _, _, _, _, rfl, WY6.a 1 (by decide), (hok 1 (by decide)).g, WY6.a 0 (by decide), (hok 0 (by decide)).g, fun H7 s7 => ?_⟩
    rw [hs01, hs10]
    have s57 := s6.trans s7
    refine ⟨(by show 2 ≤ sizeLine; decide), fun TL hTL => ?_⟩
    have s8 := s57.trans (same_new (o := .lst [V.bl same, V.bl same]) hTL)
    have eT := upd_same (H := H7) (a := TL) (o := .lst [V.bl same, V.bl same])
    generalize upd H7 TL (.lst [V.bl same, V.bl same]) = H8 at s8 eT ⊢
    refine ⟨TL, rfl, ⟨_, SqL.of eT⟩, for_at (n := 2) (Y := yIt (two fun _ => V.bl same)) (fun i σ' H' => (∃ v8 : Option V, σ' = [some (.ref SC), some (.ref a), some (.ref (p 0).P), some (.ref PL), none, some (.ref M), some (.ref D), some (.bl same), v8, none, none, none, none, none, none, none, none, none, none, none]) ∧ H' = H8) ⟨⟨_, rfl⟩, rfl⟩ (fun i σ' H' hi z => ?_) ?_ ?_⟩
    · obtain ⟨_, rfl⟩ := z
      exact walks_l (SqL.of eT)
    · rintro i v σ' H9 H10 hi yy ⟨⟨v8, rfl⟩, rfl⟩
      obtain ⟨rfl, rfl⟩ := yI2 hi yy
      refine ⟨_, rfl, _, _, _, _, true, rfl, .ty _, .base (.bl _), kit_bool, _, rfl, if_false_of rfl ?_⟩
      refine ⟨_, rfl, _, rfl, rfl, _, rfl, ?_⟩
      exact if_false_of (by simp) ⟨⟨_, rfl⟩, rfl⟩
    rintro σ' H' ⟨⟨v8, rfl⟩, rfl⟩
    have k8 := Kp.same t5 s8
    have W8 := W5.sm s8
    have WY8 := WY5.sm s8
    have S8 := SqL.sm S5 s8
    have t8 := k8.2
    obtain ⟨dx2, LA2, LB2, lt2, lp2⟩ := WY8.a 0 (by decide)
    obtain ⟨dx3, LA3, LB3, lt3, lp3⟩ := WY8.a 1 (by decide)
    refine ⟨_, rfl, M, _, 0, _, rfl, rfl, SqL.of WY8.l, at_of (j := 0) rfl rfl, _, rfl, M, _, 1, _, rfl, rfl, SqL.of WY8.l, at_of (j := 1) rfl rfl, y 0, dx2, _, rfl, lp2.i, .inl ⟨y 1, dx3, _, rfl, lp3.i⟩, y 0, _, _, _, _, rfl, WY8.a 0 (by decide), (hok 0 (by decide)).g, .inl ⟨y 1, _, _, _, rfl, WY8.a 1 (by decide), (hok 1 (by decide)).g, ⟨_, rfl⟩, ?_⟩⟩
    refine ⟨_, rfl, PL, _, 0, _, rfl, rfl, SqL.of W8.l, at_of (j := 0) rfl rfl, _, rfl, PL, _, 1, _, rfl, rfl, SqL.of W8.l, at_of (j := 1) rfl rfl, dPlan (p 0), dPlan (p 1), Pd.dp (W8.a 0 (by decide)), Pd.dp (W8.a 1 (by decide)), Pd.shP (hok 0 (by decide)), Pd.shP (hok 1 (by decide)), ?_⟩
    rw [eqv_dPlan]
    refine ⟨rfl, _, rfl, if_false_of (by simp) ?_⟩
    have pl8 := W8.a 0 (by decide)
    refine ⟨_, rfl, M, _, 0, _, rfl, rfl, SqL.of WY8.l, at_of (j := 0) rfl rfl, _, rfl, (p 0).P, (p 0).A, (p 0).B, (p 0).ts, (p 0).hd, (p 0).sl, (p 0).js, rfl, pl8, fun H9 s9 => ?_⟩
    have lp9 := lp2.sm s9
    have WY9 := WY8.sm s9
    refine ⟨y 0, dx2, _, rfl, lp9.i, .inr ⟨_, rfl, T.suL⟩, y 0, _, _, _, _, rfl, WY9.a 0 (by decide), (hok 0 (by decide)).g, .inr ⟨_, rfl, ⟨_, rfl⟩, _, rfl, if_false_of rfl ?_⟩⟩
    refine ⟨_, rfl, M, _, 0, _, rfl, rfl, SqL.of WY9.l, at_of (j := 0) rfl rfl, y 0, dx2, _, rfl, lp9.i, rfl, _, rfl, M, _, 0, _, rfl, rfl, SqL.of WY9.l, at_of (j := 0) rfl rfl, y 0, y 0, _, _, _, _, _, _, rfl, WY9.a 0 (by decide), (hok 0 (by decide)).g, WY9.a 0 (by decide), (hok 0 (by decide)).g, fun H10 s10 => ?_⟩
    simp only [decide_true, Bool.and_self]
    refine ⟨_, rfl, if_false_of rfl ?_⟩
    have s8' := s9.trans s10
    have W10 := W8.sm s8'
    have WY10 := WY8.sm s8'
    have S10 := SqL.sm S8 s8'
    have t10 := tape_same t8 s8'
    clear s8 eT s9 s10 lp2 lp3 lp9 WY9 pl8 s8' W8 WY8 S8 t8
    -- again
    refine ⟨_, rfl, PL, rfl, ⟨_, SqL.of W10.l⟩, fun G hG => lc_at (n := 2) (Y := yIt (two fun i => V.ref (p i).P)) (fun i H' => Same H10 H' ∧ ∃ z : Nat → Addr, H' G = some (.lst (rng (fun j => V.ref (z j)) i)) ∧ ∀ j, j < i → LabAt K c.CL H' (z j) (p j).hd (p j).sl (p j).js) ⟨same_new hG, fun _ => 0, upd_same, fun j hj => absurd hj (Nat.not_lt_zero _)⟩ (fun i H' hi z => walks_l (SqL.of (z.1 _ _ W10.l))) (fun i v H2 H1 hi yy z => ?_) (fun H' z => ?_)⟩
    · obtain ⟨rfl, rfl⟩ := yI2 hi yy
      obtain ⟨s5, zs, hz5, hl5⟩ := z
      have pl := PlanAt.sm (W10.a i hi) s5
      refine ⟨rfl, _, rfl, (p i).P, (p i).A, (p i).B, (p i).ts, (p i).hd, (p i).sl, (p i).js, rfl, pl, fun H5 s6 => ?_⟩
      refine ⟨_, _, _, rfl, (hok i hi).g, fun z H6 s7 nz la => ?_⟩
      have s67 := s6.trans s7
      refine ⟨_, s67 _ _ hz5, by rw [rng_len]; exact small1000 (by omega), same_mut (s5.trans s67) hG, put zs i z, ?_, fun j hj => ?_⟩
      · rw [upd_same]
        exact congrArg (fun z => some (HO.lst z)) (rng_ref zs i z).symm
      · refine LabAt.at_lst (s67 _ _ hz5) ?_
        by_cases e : j = i
        · subst e
          rw [put_at]
          exact la
        · rw [put_ne _ _ e]
          exact (hl5 j (by omega)).sm s67
    obtain ⟨s11, z, hz11, hl11⟩ := z
    have WZ : Labs K c.CL H' G p z := ⟨hz11, hl11⟩
    have W11 := W10.sm s11
    have WY11 := WY10.sm s11
    have S11 := SqL.sm S10 s11
    generalize H' = H11 at WZ W11 WY11 S11 ⊢
    clear hz11 hl11 s11 W10 WY10 S10
    have U11 : Turn K c.CL H11 PL M G p y z := ⟨W11, WY11, WZ⟩
    clear W11 WY11 WZ
    refine ⟨1, 4, rfl, ⟨by decide, by decide, by decide, by decide⟩, for_range (lo := 1) (n := 3) (fun i σ' H' => (∃ v1 v4 v8 v10 v11 v12 v13 v14 v15 v16 v17 v18 v19 : Option V, σ' = [some (.ref SC), v1, some (.ref (p 0).P), some (.ref PL), v4, some (.ref M), some (.ref D), some (.bl same), v8, some (.ref G), v10, v11, v12, v13, v14, v15, v16, v17, v18, v19]) ∧ Turn K c.CL H' PL M G p y z ∧ SqL K H' SC (ns.map V.int)) ⟨⟨_, _, _, _, _, _, _, _, _, _, _, _, _, rfl⟩, U11, S11⟩ (fun i σ' H' hi zz => ?_) (fun σ' H' zz => ?_)⟩
    case refine_2 =>
      obtain ⟨⟨v1, v4, v8, v10, v11, v12, v13, v14, v15, v16, v17, v18, v19, rfl⟩, _⟩ := zz
      exact q H'
    obtain ⟨⟨v1, v4, v8, v10, v11, v12, v13, v14, v15, v16, v17, v18, v19, rfl⟩, U, SS⟩ := zz
    clear ta t3 t5 k30 k4 k5 S5 W5 WY5 S4 t4 W4 WY hz hy U11 S11
    refine ⟨_, rfl, _, rfl, SC, ns, 1 + (i : Int), rfl, SS, by omega, by omega, fun a' x' y' ha' ok' => ?_⟩
    have tb : TapeAt (upd H' a' (tapeO x' y')) a' := ⟨x', y', upd_same, ok'⟩
    have sb := same_new (o := tapeO x' y') ha'
    have Ub := U.sm sb
    have kks : ∀ b o, b ≠ a' → H' b = some o → upd H' a' (tapeO x' y') b = some o := fun b o hb e => by rw [upd_ne hb]; exact e
    generalize upd H' a' (tapeO x' y') = Hb at tb sb Ub kks ⊢
    refine ⟨_, rfl, _, rfl, 10, 30, rfl, rfl, ⟨by decide, by decide, by decide⟩, a', PL, _, _, rfl, tb, by decide, by decide, plans_at Ub.q hok, fun DN Hc kvs kc nDN eDN hNum => ?_⟩
    have num1 : ∀ i, i < 2 → NumsAt kvs (numOf kvs) (p i).sl := fun i hi => hNum _ (plans_mem hi)
    have Uc := Ub.kp tb kc
    have nDNa := ntape tb nDN
    -- lines
    refine ⟨_, rfl, PL, rfl, ⟨_, SqL.of Uc.q.l⟩, fun LN hLN => lc_at (n := 2) (Y := yIt (two fun i => V.ref (p i).P)) (fun i H' => Same Hc H' ∧ H' LN = some (.lst (rng (fun j => V.str (S (dueP kvs (p j)))) i))) ⟨same_new hLN, upd_same⟩ (fun i H' hi z => walks_l (SqL.of (z.1 _ _ Uc.q.l))) (fun i v H2 H1 hi yy z => ?_) (fun Hd zd => ?_)⟩
    · obtain ⟨rfl, rfl⟩ := yI2 hi yy
      obtain ⟨s5, hz5⟩ := z
      refine ⟨rfl, _, rfl, _, rfl, (p i).P, (p i).A, (p i).B, DN, (p i).ts, (p i).hd, (p i).sl, (p i).js, kvs, numOf kvs, rfl, PlanAt.sm (Uc.q.a i hi) s5, s5 _ _ eDN, num1 i hi, fun H5 s6 => ?_⟩
      exact ⟨_, s6 _ _ hz5, by rw [rng_len]; exact small1000 (by omega), same_mut (s5.trans s6) hLN, by rw [upd_same, rng_succ]⟩
    obtain ⟨sd, eLN⟩ := zd
    rw [rng_two] at eLN
    have kd := kc.trans (Kp.same kc.2 sd)
    have Ud := Uc.sm sd
    have eDN2 := sd _ _ eDN
    -- less
    refine ⟨_, rfl, _, rfl, 10, 9, rfl, rfl, ⟨by decide, by decide, by decide⟩, a', PL, _, _, rfl, kd.2, by decide, by decide, plans_at Ud.q hok, fun DL He kvl ke nDL eDL hNum2 => ?_⟩
    have num2 : ∀ i, i < 2 → NumsAt kvl (numOf kvl) (p i).sl := fun i hi => hNum2 _ (plans_mem hi)
    have Ue := Ud.kp kd.2 ke
    have nLNa : LN ≠ a' := ntape kc.2 hLN
    have eLN2 := ke.1 _ _ nLNa eLN
    have eDN3 := ke.1 _ _ nDNa eDN2
    have kke := kd.trans ke
    -- bent
    refine ⟨_, rfl, PL, rfl, ⟨_, SqL.of Ue.q.l⟩, fun BN hBN => lc_at (n := 2) (Y := yIt (two fun i => V.ref (p i).P)) (fun i H' => Kp a' He H' ∧ ∃ m : Nat → List Nat, H' BN = some (.lst (rng (fun j => V.str (S (m j))) i)) ∧ ∀ j, j < i → (m j).length ≤ 501 ∧ Uni (m j)) ⟨Kp.new kke.2 hBN, fun _ => [], upd_same, fun j hj => absurd hj (Nat.not_lt_zero _)⟩ (fun i H' hi z => walks_l (SqL.of (Ue.kp kke.2 z.1).q.l)) (fun i v H2 H1 hi yy z => ?_) (fun Hf zf => ?_)⟩
    · obtain ⟨rfl, rfl⟩ := yI2 hi yy
      obtain ⟨k5, m, hz5, hm5⟩ := z
      have nB := ntape kke.2 hBN
      have nDLa : DL ≠ a' := ntape kd.2 nDL
      have U5 := Ue.kp kke.2 k5
      refine ⟨rfl, _, rfl, _, rfl, _, rfl, (p i).P, (p i).A, (p i).B, DL, (p i).ts, (p i).hd, (p i).sl, (p i).js, kvl, numOf kvl, rfl, U5.q.a i hi, k5.1 _ _ nDLa eDL, num2 i hi, fun H5 s6 => ?_⟩
      have k6 := k5.trans (Kp.same k5.2 s6)
      have ln := due_len (hok i hi).g fun x hx => (num2 i hi x hx).2
      refine ⟨a', _, rfl, k6.2, by omega, due_uni (hok i hi).g _, fun mm H6 k7 hml hmu => ?_⟩
      have hz6 := k7.1 _ _ nB (s6 _ _ hz5)
      refine ⟨_, hz6, by rw [rng_len]; exact small1000 (by omega), (k6.trans k7).mut hBN nB, put m i mm, ?_, fun j hj => ?_⟩
      · rw [upd_same, ← rng_put (fun j => V.str (S (m j))) i (V.str (S mm))]
        refine congrArg (fun z => some (HO.lst z)) ?_
        unfold rng put
        refine List.map_congr_left fun j _ => ?_
        show (if j = i then V.str (S mm) else V.str (S (m j))) = V.str (S (if j = i then mm else m j))
        split <;> rfl
      · by_cases e : j = i
        · subst e
          rw [put_at]
          exact ⟨by omega, hmu⟩
        · rw [put_ne _ _ e]
          exact hm5 j (by omega)
    obtain ⟨kf, m, eBN, hm⟩ := zf
    rw [rng_two] at eBN
    have Uf := Ue.kp kke.2 kf
    have kkf := kke.trans kf
    have eLN3 := kf.1 _ _ nLNa eLN2
    have eDN4 := kf.1 _ _ nDNa eDN3
    have nBNa := ntape kke.2 hBN
    have tf := kf.2
    have SSb : SqL K Hf SC (ns.map V.int) := SqL.kn SS ha' fun b o hb e => kkf.1 b o hb (kks b o hb e)
    refine ⟨2, rfl, by decide, by decide, for_range (lo := 0) (n := 2) (fun k σ' H' => (∃ v4 v8 v15 : Option V, σ' = [some (.ref SC), some (.ref a'), some (.ref (p 0).P), some (.ref PL), v4, some (.ref M), some (.ref D), some (.bl same), v8, some (.ref G), some (.int (1 + (i : Int))), some (.ref DN), some (.ref LN), some (.ref DL), some (.ref BN), v15, v16, v17, v18, v19]) ∧ Kp a' Hf H') ⟨⟨_, _, _, rfl⟩, ⟨fun _ _ _ e => e, tf⟩⟩ (fun k σ' H5 hk zz => ?_) (fun σ' Hg zz => ?_)⟩
    · obtain ⟨⟨v4', v8', v15', rfl⟩, k5⟩ := zz
      have U5 := Uf.kp tf k5
      refine ⟨_, rfl, _, rfl, PL, _, _, _, rfl, rfl, SqL.of U5.q.l, at_of (j := k) (by omega) (two_at hk), _, rfl, _, rfl, M, _, _, _, rfl, rfl, SqL.of U5.u.l, at_of (j := k) (by omega) (two_at hk), (p k).P, (p k).A, (p k).B, y k, _, _, _, _, rfl, U5.q.a k hk, (hok k hk).g, U5.u.a k hk, fun H6 s6 => ⟨_, rfl, if_false_of rfl ?_⟩⟩
      have k6 := k5.trans (Kp.same k5.2 s6)
      have U6 := U5.sm s6
      obtain ⟨dx6, LA6, LB6, lt6, lp6⟩ := U6.u.a k hk
      refine ⟨_, rfl, _, rfl, M, _, _, _, rfl, rfl, SqL.of U6.u.l, at_of (j := k) (by omega) (two_at hk), y k, dx6, _, rfl, lp6.i, rfl, _, rfl, y k, DN, _, _, _, kvs, numOf kvs, rfl, U6.u.a k hk, (hok k hk).g, k6.1 _ _ nDNa eDN4, num1 k hk, fun H7 s7 => ?_⟩
      have k7 := k6.trans (Kp.same k6.2 s7)
      have U7 := U6.sm s7
      refine ⟨_, rfl, _, rfl, LN, _, _, _, rfl, rfl, SqL.of (k7.1 _ _ nLNa eLN3), at_of (j := k) (by omega) (two_at hk), rfl, _, rfl, if_false_of (by rw [decide_eq_true rfl]; rfl) ?_⟩
      clear k5 U5 s6 k6 U6 lp6 s7
      have k5 := k7
      have U5 := U7
      clear k7 U7
      refine ⟨_, rfl, _, rfl, PL, _, _, _, rfl, rfl, SqL.of U5.q.l, at_of (j := k) (by omega) (two_at hk), _, rfl, _, rfl, G, _, _, _, rfl, rfl, SqL.of U5.v.l, at_of (j := k) (by omega) (two_at hk), (p k).P, (p k).A, (p k).B, z k, _, _, _, _, rfl, U5.q.a k hk, (hok k hk).g, U5.v.a k hk, fun H6 s6 => ⟨_, rfl, if_false_of rfl ?_⟩⟩
      have k6 := k5.trans (Kp.same k5.2 s6)
      have U6 := U5.sm s6
      obtain ⟨dx6, LA6, LB6, lt6, lp6⟩ := U6.v.a k hk
      refine ⟨_, rfl, _, rfl, G, _, _, _, rfl, rfl, SqL.of U6.v.l, at_of (j := k) (by omega) (two_at hk), z k, dx6, _, rfl, lp6.i, rfl, _, rfl, z k, DN, _, _, _, kvs, numOf kvs, rfl, U6.v.a k hk, (hok k hk).g, k6.1 _ _ nDNa eDN4, num1 k hk, fun H7 s7 => ?_⟩
      have k7 := k6.trans (Kp.same k6.2 s7)
      have U7 := U6.sm s7
      refine ⟨_, rfl, _, rfl, LN, _, _, _, rfl, rfl, SqL.of (k7.1 _ _ nLNa eLN3), at_of (j := k) (by omega) (two_at hk), rfl, _, rfl, if_false_of (by rw [decide_eq_true rfl]; rfl) ?_⟩
      clear k5 U5 s6 k6 U6 lp6 s7
      have k5 := k7
      have U5 := U7
      clear k7 U7
      have eBN5 := k5.1 _ _ nBNa eBN
      have eLN5 := k5.1 _ _ nLNa eLN3
      refine ⟨_, rfl, LN, _, 0, _, rfl, rfl, SqL.of eLN5, at_of (j := 0) rfl rfl, _, rfl, LN, _, 1, _, rfl, rfl, SqL.of eLN5, at_of (j := 1) rfl rfl, _, rfl, _, rfl, BN, _, _, _, rfl, rfl, SqL.of eBN5, at_of (j := k) (by omega) (two_at hk),
        _, rfl, _, rfl, _, rfl, _, _, rfl, rfl, BN, _, _, _, rfl, rfl, SqL.of eBN5, at_of (j := 1 - k) (by omega) (two_at (by omega)), a', _, rfl, k5.2, Nat.le_trans (hm (1 - k) (by omega)).1 (by decide), (hm (1 - k) (by omega)).2, fun mm H6 k6 hml hmu => ⟨(by show 4 ≤ sizeLine; decide), fun LL hLL => ?_⟩⟩
      have hls : ∀ l ∈ [dueP kvs (p 0), dueP kvs (p 1), m k, mm], l.length ≤ 600 ∧ Uni l := fun l hl => by
        have du : ∀ i, i < 2 → (dueP kvs (p i)).length ≤ 600 ∧ Uni (dueP kvs (p i)) := fun i hi => ⟨Nat.le_trans (due_len (hok i hi).g fun x hx => (num1 i hi x hx).2) (by decide), due_uni (hok i hi).g _⟩
        simp only [List.mem_cons, List.not_mem_nil, or_false] at hl
        rcases hl with rfl | rfl | rfl | rfl
        · exact du 0 (by decide)
        · exact du 1 (by decide)
        · exact ⟨Nat.le_trans (hm k hk).1 (by decide), (hm k hk).2⟩
        · exact ⟨by have := (hm (1 - k) (by omega)).1; omega, hmu⟩
      have eLL := upd_same (H := H6) (a := LL) (o := .lst [V.str (S (dueP kvs (p 0))), V.str (S (dueP kvs (p 1))), V.str (S (m k)), V.str (S mm)])
      have nLL := ntape k6.2 hLL
      have k8 := k6.trans (Kp.new (o := .lst [V.str (S (dueP kvs (p 0))), V.str (S (dueP kvs (p 1))), V.str (S (m k)), V.str (S mm)]) k6.2 hLL)
      have U8 := U5.kp k5.2 k8
      have k58 := k5.trans k8
      generalize upd H6 LL (.lst [V.str (S (dueP kvs (p 0))), V.str (S (dueP kvs (p 1))), V.str (S (m k)), V.str (S mm)]) = H8 at eLL k8 U8 k58 ⊢
      generalize hlsq : [dueP kvs (p 0), dueP kvs (p 1), m k, mm] = ls at hls
      have eLL' : H8 LL = some (.lst (ls.map fun l => V.str (S l))) := by rw [← hlsq]; exact eLL
      have n4 : ls.length = 4 := by rw [← hlsq]; rfl
      clear eLL
      have t8 := k8.2
      refine ⟨LL, rfl, ⟨_, SqL.of eLL'⟩, for_at (n := ls.length) (Y := yIt (ls.map fun l => V.str (S l))) (fun j σ' H' => (∃ v8 v15 : Option V, σ' = [some (.ref SC), some (.ref a'), some (.ref (p 0).P), some (.ref PL), some (.int (0 + (k : Int))), some (.ref M), some (.ref D), some (.bl same), v8, some (.ref G), some (.int (1 + (i : Int))), some (.ref DN), some (.ref LN), some (.ref DL), some (.ref BN), v15, v16, v17, v18, v19]) ∧ Kp a' H8 H') ⟨⟨_, _, rfl⟩, ⟨fun _ _ _ e => e, t8⟩⟩ (fun j σ' H' hj zz => ?_) ?_ ?_⟩
      · have w := walks_l (K := K) (i := j) (SqL.of (zz.2.1 _ _ nLL eLL'))
        rw [List.length_map] at w
        exact w
      · rintro j v σ' H9 H10 hj yy ⟨⟨v8'', v15'', rfl⟩, k9⟩
        obtain ⟨rfl, hv⟩ := yy
        rw [List.getElem?_map] at hv
        obtain ⟨l, hlj, rfl⟩ := Option.map_eq_some_iff.mp hv
        obtain ⟨hll, hlu⟩ := hls l (List.mem_of_getElem? hlj)
        have U9 := U8.kp t8 k9
        obtain ⟨dx9, LA9, LB9, lt9, lp9⟩ := U9.u.a k hk
        have g := (hok k hk).g
        refine ⟨_, rfl, _, rfl, M, _, _, _, rfl, rfl, SqL.of U9.u.l, at_of (j := k) (by omega) (two_at hk), y k, dx9, _, rfl, lp9.i, rfl, _, rfl, y k, _, _, _, l, rfl, U9.u.a k hk, g, by omega, fun ok p1 H11 s11 n1 e1 => ?_, fun no H11 s11 => ?_⟩
        · refine ⟨_, rfl, _, rfl, _, rfl, PL, _, _, _, rfl, rfl, SqL.of (U9.sm s11).q.l, at_of (j := k) (by omega) (two_at hk), _, rfl, (p k).P, (p k).A, (p k).B, _, _, _, _, l, rfl, (U9.sm s11).q.a k hk, g, hll, hlu, fun _ p2 H12 s12 n2 e2 => ?_, fun no => by rw [ok] at no; cases no⟩
          have U12 := (U9.sm s11).sm s12
          obtain ⟨dxa, LAa, LBa, lta, lpa⟩ := U12.v.a k hk
          refine .inr ⟨p1, p2, _, _, rfl, rfl, s12 _ _ e1, e2, rfl, kv_eq g, _, rfl, if_false_of rfl ?_⟩
          refine ⟨_, rfl, _, rfl, G, _, _, _, rfl, rfl, SqL.of U12.v.l, at_of (j := k) (by omega) (two_at hk), z k, dxa, _, rfl, lpa.i, rfl, _, rfl, z k, _, _, _, l, rfl, U12.v.a k hk, g, by omega, fun _ p3 H13 s13 n3 e3 => ?_, fun no => by rw [ok] at no; cases no⟩
          have s23 := s12.trans s13
          refine ⟨_, rfl, .inr ⟨p3, p1, _, _, rfl, rfl, e3, s23 _ _ e1, rfl, kv_eq g, _, rfl, if_false_of rfl ?_⟩⟩
          refine ⟨_, rfl, rfl, _, rfl, if_true_of rfl ?_⟩
          exact ⟨_, rfl, .inr (.inr (.inl ⟨rfl, .inl ⟨_, s23 _ _ e1⟩⟩)), p1, _, rfl, rfl, s23 _ _ e1, ⟨_, _, rfl⟩, (k9.trans (Kp.same k9.2 (s11.trans s23))).mut (k9.free t8 n1) (ntape k9.2 n1)⟩
        · refine ⟨_, rfl, _, rfl, _, rfl, PL, _, _, _, rfl, rfl, SqL.of (U9.sm s11).q.l, at_of (j := k) (by omega) (two_at hk), _, rfl, (p k).P, (p k).A, (p k).B, _, _, _, _, l, rfl, (U9.sm s11).q.a k hk, g, hll, hlu, fun ok => (by rw [ok] at no; cases no), fun _ H12 s12 => ?_⟩
          have U12 := (U9.sm s11).sm s12
          obtain ⟨dxa, LAa, LBa, lta, lpa⟩ := U12.v.a k hk
          refine .inl ⟨rfl, _, rfl, if_false_of (by decide) ?_⟩
          refine ⟨_, rfl, _, rfl, G, _, _, _, rfl, rfl, SqL.of U12.v.l, at_of (j := k) (by omega) (two_at hk), z k, dxa, _, rfl, lpa.i, rfl, _, rfl, z k, _, _, _, l, rfl, U12.v.a k hk, g, by omega, fun ok => (by rw [ok] at no; cases no), fun _ H13 s13 => ?_⟩
          refine ⟨_, rfl, .inl ⟨rfl, _, rfl, if_false_of (by decide) ?_⟩⟩
          refine ⟨_, rfl, rfl, _, rfl, if_false_of rfl ?_⟩
          exact ⟨⟨_, _, rfl⟩, k9.trans (Kp.same k9.2 ((s11.trans s12).trans s13))⟩
      · rintro σ' H' ⟨⟨v8'', v15'', rfl⟩, k9⟩
        exact ⟨⟨_, _, _, rfl⟩, k58.trans k9⟩
    obtain ⟨⟨v4', v8', v15', rfl⟩, kg⟩ := zz
    have Ug := Uf.kp tf kg
    have eLNg := kg.1 _ _ nLNa eLN3
    have eDNg := kg.1 _ _ nDNa eDN4
    have SSg : SqL K Hg SC (ns.map V.int) := SqL.kn SS ha' fun b o hb e => (kkf.trans kg).1 b o hb (kks b o hb e)
    refine ⟨_, rfl, PL, rfl, ⟨_, SqL.of Ug.q.l⟩, fun RN hRN => lc_at (n := 2) (Y := yIt (two fun i => V.ref (p i).P)) (fun i H' => Same Hg H' ∧ ∃ qs : Nat → Addr, H' RN = some (.lst (rng (fun j => V.ref (qs j)) i)) ∧ ∀ j, j < i → RowAt RN H' (qs j) ((p j).sl.map fun x => numOf kvs x.1)) ⟨same_new hRN, fun _ => 0, upd_same, fun j hj => absurd hj (Nat.not_lt_zero _)⟩ (fun i H' hi z => walks_l (SqL.of (z.1 _ _ Ug.q.l))) (fun i v H2 H1 hi yy z => ?_) (fun Hr zr => ?_)⟩
    · obtain ⟨rfl, rfl⟩ := yI2 hi yy
      obtain ⟨s5, qs, hz5, hf⟩ := z
      have pl := PlanAt.sm (Ug.q.a i hi) s5
      refine ⟨rfl, _, rfl, (p i).P, _, 1, _, rfl, rfl, SqL.of pl.p, at_of (j := 1) rfl rfl, (p i).A, rfl, ⟨_, SqL.of pl.a⟩, fun D2 hD2 => lc_at (n := (p i).sl.length) (Y := yIt ((p i).ts.map V.ref)) (fun j H' => Same H1 H' ∧ H' D2 = some (.lst ((((p i).sl.map fun x => numOf kvs x.1).take j).map fun n : Nat => V.int (n : Int)))) ⟨same_new hD2, upd_same⟩ (fun j H' hj z => ?_) (fun j v H5 H6 hj yy z => ?_) (fun H' z => ?_)⟩
      · have w := walks_l (K := K) (i := j) (SqL.of (z.1 _ _ pl.a))
        rw [List.length_map, pl.t.1] at w
        exact w
      · obtain ⟨rfl, hv⟩ := yy
        obtain ⟨s6, hz6⟩ := z
        obtain ⟨t, u, rfl, hu, et⟩ := slot_at (pl.t.sm s6) hv
        obtain ⟨n1, n2⟩ := num1 i hi u (List.mem_of_getElem? hu)
        refine ⟨t, _, rfl, SqT.of et, rfl, _, _, rfl, _, _, rfl, rfl, rfl, ?_⟩
        refine ⟨_, rfl, _, rfl, DN, _, rfl, (by have z := DGet.k (k := Sum.inr (S u.1)) (s6 _ _ (s5 _ _ eDNg)); rw [n1] at z; exact z), _, hz6, by rw [List.length_map, List.length_take, List.length_map]; exact small1000 (by have := (hok i hi).g.s.le; omega), same_mut s6 hD2, ?_⟩
        rw [upd_same, List.take_succ, List.getElem?_map, hu, List.map_append]
        rfl
      · obtain ⟨s6, hz6⟩ := z
        rw [List.take_of_length_le (by rw [List.length_map]; exact Nat.le_refl _)] at hz6
        have nd : D2 ≠ RN := fun z => by rw [z, hz5] at hD2; cases hD2
        refine ⟨_, s6 _ _ hz5, by rw [rng_len]; exact small1000 (by omega), same_mut (s5.trans s6) hRN, put qs i D2, ?_, fun j hj => ?_⟩
        · rw [upd_same]
          exact congrArg (fun z => some (HO.lst z)) (rng_ref qs i D2).symm
        · by_cases e : j = i
          · subst e
            rw [put_at]
            exact ⟨nd, by rw [upd_ne nd]; exact hz6⟩
          · rw [put_ne _ _ e]
            exact RowAt.put ((hf j (by omega)).sm s6)
    obtain ⟨sr, qs, eRN, hrow⟩ := zr
    rw [rng_two] at eRN
    have dpR : ∀ i, i < 2 → Dp K Hr (.ref (qs i)) (dRow ((p i).sl.map fun x => numOf kvs x.1)) := fun i hi => .lst (SqL.of (hrow i hi).2) (dp_map fun _ _ => .int _)
    have due := due_eq (hok 0 (by decide)).g (hok 1 (by decide)).g (numOf kvs)
    rw [hsm] at due
    refine ⟨_, rfl, LN, _, 0, _, rfl, rfl, SqL.of (sr _ _ eLNg), at_of (j := 0) rfl rfl, _, rfl, LN, _, 1, _, rfl, rfl, SqL.of (sr _ _ eLNg), at_of (j := 1) rfl rfl, rfl, _, rfl, same, rfl, ?_⟩
    rw [S_dec, due]
    cases same
    · refine if_false_of rfl ?_
      exact ⟨rfl, _, rfl, if_false_of (by simp) ⟨⟨_, _, _, _, _, _, _, _, _, _, _, _, _, rfl⟩, Ug.sm sr, SqL.sm SSg sr⟩⟩
    · refine if_true_of rfl ?_
      refine ⟨_, rfl, RN, _, 0, _, rfl, rfl, SqL.of eRN, at_of (j := 0) rfl rfl, _, rfl, RN, _, 1, _, rfl, rfl, SqL.of eRN, at_of (j := 1) rfl rfl, _, _, dpR 0 (by decide), dpR 1 (by decide), sh_dRow _, sh_dRow _, ?_⟩
      rw [eqv_dRow]
      exact ⟨rfl, _, rfl, if_false_of (by simp) ⟨⟨_, _, _, _, _, _, _, _, _, _, _, _, _, rfl⟩, Ug.sm sr, SqL.sm SSg sr⟩⟩
end
theorem all_mk {l : PySem.W.OpenLaw} {w : World} {K : PySem.W.Frag} {h : Heap} {mg : Str → Option Value} {fa f1 : Addr} (X : K.In h) (G : h.Ns mainGlobals mg) (hfa : mg "law" = some (.ref fa))
    {od an : Option Addr} {sl : Array (Option Value)} {oc kV dc pm cd ct : Value} {c : Cs}
    (T : Txt K mg c)
    (a4 : PySem.W.nsIn K mainGlobals "law" = some (some (.ref f1))) (l4 : K.lookup f1 = some ⟨oc, od, .func (PySem.W.fnOf "law" "law" (defArgs sLaw) (defBody sLaw) (defScope sLaw) .none kV dc pm an cd ct), sl⟩) (c4 : PySem.W.codeIn K cd "law" = true) (k4 : PySem.W.keepIn K (.ref f1) = true) :
    ∃ fd : FuncData, (∀ (s : Shared) (v : Value), BindsTo s fd ⟨[v], []⟩ [("_law_script", v)]) ∧ ∀ base : Heap, K.In base → base.Ns mainGlobals mg → FnOk l.prog w K mg base CX0 8 fa fd ["_law_script"] (spLaw K) := by
  have e := hfa.symm.trans (PySem.W.mg_of X G a4)
  cases e
  exact ⟨PySem.W.fnOf "law" "law" (defArgs sLaw) (defBody sLaw) (defScope sLaw) .none kV dc pm an cd ct, fun s v => .of_eq rfl, fun base _ _ => ok_law T  (fun_mk (st := sLaw) l4 c4 k4)⟩
theorem walk_law {l : PySem.W.OpenLaw} {q : Program} {loose : List Str} {XP : (Str → Option Value) → Heap → Prop} {YP : World → Heap → Prop} {d : DefRec} {K : Params → PySem.W.Frag} (hn : l.most = some 63) (hdf : d.params.defaults = [])
    (hY : ∀ (w : World) (h : Heap), YP w h → (K w.params).In h)
    (F : ∀ (w : World) (mg : Str → Option Value) (fa : Addr) (h : Heap), (K w.params).In h → h.Ns mainGlobals mg → mg d.name = some (.ref fa) →
      ∃ fd : FuncData, (∀ (s : Shared) (u : Value), BindsTo s fd ⟨[u], []⟩ [("_law_script", u)]) ∧ ∀ base : Heap, (K w.params).In base → base.Ns mainGlobals mg → FnOk l.prog w (K w.params) mg base CX0 8 fa fd ["_law_script"] (spLaw (K w.params))) :
    PySem.W.WalkO q loose XP YP l.row.toRowW d [] (fun f vs => PySem.call f vs) :=
  L2.walk_of (n := 63) (k := 8) (x := "_law_script") (CX := fun _ => CX0) (sp := fun w => spLaw (K w.params)) hn (by decide) hdf ⟨rfl, by decide, by decide⟩ hY F (fun _ _ a ns hl _ hS => ⟨a, ns, rfl, hS, hl, fun _ => rfl⟩) fun _ _ _ _ _ z => z
end Pt

open PySem PySem.W PyProof.Rows in
set_option maxRecDepth 100000 in
set_option maxHeartbeats 0 in
theorem PySem.Challenge.cw_partlabels_k21_labels_holds : PySem.Challenge.rw_partlabels_k21_labels.Holds := by
  w_on; o_law; k_head; (case hw => w_witness2)
  k_fill
  refine Pt.walk_law (l := PySem.Challenge.rw_partlabels_k21_labels) rfl rfl (fun w h Y => PySem.W.kIn_of Y) ?F
  case F =>
    intro w mg fa h KX G hmg
    refine' Pt.all_mk KX G hmg (Pt.txt_of KX G ?z_abs ?z_all ?z_bool ?z_divmod ?z_enumerate ?z_int ?z_isinstance ?z_len ?z_list ?z_ord ?z_range ?z_str ?z_tuple ?z_zip ?g_ALPHABET ?r_ALPHABET ?g_LONGEST ?r_LONGEST ?g_LONGEST_HEAD ?r_LONGEST_HEAD ?g_MOST_SHOWN ?r_MOST_SHOWN ?mg_N ?l_N ?b_N ?sa_N ?ty_N ?kc_N ?hg_N ?hk_N ?hs_N ?hd_N ?ha_N ?hn_N ?ht_N ?hm_N ?ss_N ?mg_T ?l_T ?b_T ?sa_T ?ty_T ?kc_T ?hg_T ?hk_T ?hs_T ?hd_T ?ha_T ?hn_T ?ht_T ?hm_T ?ss_T ?noN ?iN ?tN ?lfN ?cfN ?kfN ?qT ?gt_FORMATS ?lt_FORMATS ?vt_FORMATS ?zt_FORMATS ?gt_JOINTS ?lt_JOINTS ?vt_JOINTS ?zt_JOINTS ?gCL ?pgL ?hdL ?poL ?saL ?haL ?hnL ?htL ?hmL ?ttL ?ssL ?snL ?naL__head ?naL__shown ?naL__joints ?a_is_number ?l_is_number ?c_is_number ?k_is_number ?a_is_natural ?l_is_natural ?c_is_natural ?k_is_natural ?a_figures ?l_figures ?c_figures ?k_figures ?a_letters ?l_letters ?c_letters ?k_letters ?a_read_figures ?l_read_figures ?c_read_figures ?k_read_figures ?a_read_letters ?l_read_letters ?c_read_letters ?k_read_letters ?a_is_name ?l_is_name ?c_is_name ?k_is_name ?a_read_label ?l_read_label ?c_read_label ?k_read_label ?a_is_head ?l_is_head ?c_is_head ?k_is_head ?a_wrong_item ?l_wrong_item ?c_wrong_item ?k_wrong_item ?a_is_shown ?l_is_shown ?c_is_shown ?k_is_shown ?a_fit_between ?l_fit_between ?c_fit_between ?k_fit_between ?a_number_text ?l_number_text ?c_number_text ?k_number_text ?a_read_number ?l_read_number ?c_read_number ?k_read_number ?a_shown_text ?l_shown_text ?c_shown_text ?k_shown_text ?a_read_shown ?l_read_shown ?c_read_shown ?k_read_shown ?a_joined ?l_joined ?c_joined ?k_joined ?a_parted ?l_parted ?c_parted ?k_parted ?a__law_tape ?l__law_tape ?c__law_tape ?k__law_tape ?a__law_pick ?l__law_pick ?c__law_pick ?k__law_pick ?a__law_shuffled ?l__law_shuffled ?c__law_shuffled ?k__law_shuffled ?a__law_word ?l__law_word ?c__law_word ?k__law_word ?a__law_figure ?l__law_figure ?c__law_figure ?k__law_figure ?a__law_head ?l__law_head ?c__law_head ?k__law_head ?a__law_plan ?l__law_plan ?c__law_plan ?k__law_plan ?a__law_twin ?l__law_twin ?c__law_twin ?k__law_twin ?a__law_joined ?l__law_joined ?c__law_joined ?k__law_joined ?a__law_due ?l__law_due ?c__law_due ?k__law_due ?a__law_face ?l__law_face ?c__law_face ?k__law_face ?a__law_number ?l__law_number ?c__law_number ?k__law_number ?a__law_read ?l__law_read ?c__law_read ?k__law_read ?a__law_bent ?l__law_bent ?c__law_bent ?k__law_bent ?a__law_numbers ?l__law_numbers ?c__law_numbers ?k__law_numbers ?a__law_right ?l__law_right ?c__law_right ?k__law_right ?a__law_made ?l__law_made ?c__law_made ?k__law_made ?paHd ?pbHd ?pcHd ?pdHd ?lfHd ?cfHd ?kfHd ?paSh ?pbSh ?pcSh ?pdSh ?lfSh ?cfSh ?kfSh ?paJn ?pbJn ?pcJn ?pdJn ?lfJn ?cfJn ?kfJn ?atEq ?isEq ?lfEq ?cfEq ?kfEq ?atSf ?isSf ?lfSf ?cfSf ?kfSf ?atOf ?isOf ?lfOf ?cfOf ?kfOf ?atRd ?isRd ?lfRd ?cfRd ?kfRd ?atTx ?isTx ?lfTx ?cfTx ?kfTx ?atIL ?isIL ?msIL ?kpIL ?lfIL ?cfIL ?kfIL ?lTIL ?vTIL ?lDIL)
       ?a4 ?l4 ?c4 ?k4
    (case z_abs => k_is)
    (case z_all => k_is)
    (case z_bool => k_is)
    (case z_divmod => k_is)
    (case z_enumerate => k_is)
    (case z_int => k_is)
    (case z_isinstance => k_is)
    (case z_len => k_is)
    (case z_list => k_is)
    (case z_ord => k_is)
    (case z_range => k_is)
    (case z_str => k_is)
    (case z_tuple => k_is)
    (case z_zip => k_is)
    (case g_ALPHABET => k_is)
    (case r_ALPHABET => exact ⟨_, rfl⟩)
    (case g_LONGEST => k_is)
    (case r_LONGEST => exact ⟨_, rfl⟩)
    (case g_LONGEST_HEAD => k_is)
    (case r_LONGEST_HEAD => exact ⟨_, rfl⟩)
    (case g_MOST_SHOWN => k_is)
    (case r_MOST_SHOWN => exact ⟨_, rfl⟩)
    (case mg_N => k_is)
    (case l_N => k_is)
    (case b_N => decide +kernel)
    (case sa_N => k_is)
    (case ty_N => k_is)
    (case kc_N => k_is)
    (case hg_N => k_is)
    (case hk_N => k_is)
    (case hs_N => k_is)
    (case hd_N => k_is)
    (case ha_N => k_is)
    (case hn_N => k_is)
    (case ht_N => k_is)
    (case hm_N => k_is)
    (case ss_N => first | rfl | k_is)
    (case mg_T => k_is)
    (case l_T => k_is)
    (case b_T => decide +kernel)
    (case sa_T => k_is)
    (case ty_T => k_is)
    (case kc_T => k_is)
    (case hg_T => k_is)
    (case hk_T => k_is)
    (case hs_T => k_is)
    (case hd_T => k_is)
    (case ha_T => k_is)
    (case hn_T => k_is)
    (case ht_T => k_is)
    (case hm_T => k_is)
    (case ss_T => first | rfl | k_is)
    (case noN => k_is)
    (case iN => k_is)
    (case tN => k_is)
    (case lfN => k_is)
    (case cfN => k_is)
    (case kfN => k_is)
    (case qT => k_exc)
    (case gt_FORMATS => k_is)
    (case lt_FORMATS => k_is)
    (case vt_FORMATS => exact (.cons ⟨_, rfl⟩ (.cons ⟨_, rfl⟩ .nil)))
    (case zt_FORMATS => (show 2 ≤ sizeLine; decide))
    (case gt_JOINTS => k_is)
    (case lt_JOINTS => k_is)
    (case vt_JOINTS => exact (.cons ⟨_, rfl⟩ (.cons ⟨_, rfl⟩ (.cons ⟨_, rfl⟩ .nil))))
    (case zt_JOINTS => (show 3 ≤ sizeLine; decide))
    (case gCL => k_is)
    (case pgL => k_is)
    (case hdL => k_is)
    (case poL => k_is)
    (case saL => k_is)
    (case haL => k_is)
    (case hnL => k_is)
    (case htL => k_is)
    (case hmL => k_is)
    (case ttL => k_is)
    (case ssL => first | rfl | k_is)
    (case snL => k_is)
    (case naL__head => k_is)
    (case naL__shown => k_is)
    (case naL__joints => k_is)
    (case a_is_number => k_is)
    (case l_is_number => k_is)
    (case c_is_number => k_is)
    (case k_is_number => k_is)
    (case a_is_natural => k_is)
    (case l_is_natural => k_is)
    (case c_is_natural => k_is)
    (case k_is_natural => k_is)
    (case a_figures => k_is)
    (case l_figures => k_is)
    (case c_figures => k_is)
    (case k_figures => k_is)
    (case a_letters => k_is)
    (case l_letters => k_is)
    (case c_letters => k_is)
    (case k_letters => k_is)
    (case a_read_figures => k_is)
    (case l_read_figures => k_is)
    (case c_read_figures => k_is)
    (case k_read_figures => k_is)
    (case a_read_letters => k_is)
    (case l_read_letters => k_is)
    (case c_read_letters => k_is)
    (case k_read_letters => k_is)
    (case a_is_name => k_is)
    (case l_is_name => k_is)
    (case c_is_name => k_is)
    (case k_is_name => k_is)
    (case a_read_label => k_is)
    (case l_read_label => k_is)
    (case c_read_label => k_is)
    (case k_read_label => k_is)
    (case a_is_head => k_is)
    (case l_is_head => k_is)
    (case c_is_head => k_is)
    (case k_is_head => k_is)
    (case a_wrong_item => k_is)
    (case l_wrong_item => k_is)
    (case c_wrong_item => k_is)
    (case k_wrong_item => k_is)
    (case a_is_shown => k_is)
    (case l_is_shown => k_is)
    (case c_is_shown => k_is)
    (case k_is_shown => k_is)
    (case a_fit_between => k_is)
    (case l_fit_between => k_is)
    (case c_fit_between => k_is)
    (case k_fit_between => k_is)
    (case a_number_text => k_is)
    (case l_number_text => k_is)
    (case c_number_text => k_is)
    (case k_number_text => k_is)
    (case a_read_number => k_is)
    (case l_read_number => k_is)
    (case c_read_number => k_is)
    (case k_read_number => k_is)
    (case a_shown_text => k_is)
    (case l_shown_text => k_is)
    (case c_shown_text => k_is)
    (case k_shown_text => k_is)
    (case a_read_shown => k_is)
    (case l_read_shown => k_is)
    (case c_read_shown => k_is)
    (case k_read_shown => k_is)
    (case a_joined => k_is)
    (case l_joined => k_is)
    (case c_joined => k_is)
    (case k_joined => k_is)
    (case a_parted => k_is)
    (case l_parted => k_is)
    (case c_parted => k_is)
    (case k_parted => k_is)
    (case a__law_tape => k_is)
    (case l__law_tape => k_is)
    (case c__law_tape => k_is)
    (case k__law_tape => k_is)
    (case a__law_pick => k_is)
    (case l__law_pick => k_is)
    (case c__law_pick => k_is)
    (case k__law_pick => k_is)
    (case a__law_shuffled => k_is)
    (case l__law_shuffled => k_is)
    (case c__law_shuffled => k_is)
    (case k__law_shuffled => k_is)
    (case a__law_word => k_is)
    (case l__law_word => k_is)
    (case c__law_word => k_is)
    (case k__law_word => k_is)
    (case a__law_figure => k_is)
    (case l__law_figure => k_is)
    (case c__law_figure => k_is)
    (case k__law_figure => k_is)
    (case a__law_head => k_is)
    (case l__law_head => k_is)
    (case c__law_head => k_is)
    (case k__law_head => k_is)
    (case a__law_plan => k_is)
    (case l__law_plan => k_is)
    (case c__law_plan => k_is)
    (case k__law_plan => k_is)
    (case a__law_twin => k_is)
    (case l__law_twin => k_is)
    (case c__law_twin => k_is)
    (case k__law_twin => k_is)
    (case a__law_joined => k_is)
    (case l__law_joined => k_is)
    (case c__law_joined => k_is)
    (case k__law_joined => k_is)
    (case a__law_due => k_is)
    (case l__law_due => k_is)
    (case c__law_due => k_is)
    (case k__law_due => k_is)
    (case a__law_face => k_is)
    (case l__law_face => k_is)
    (case c__law_face => k_is)
    (case k__law_face => k_is)
    (case a__law_number => k_is)
    (case l__law_number => k_is)
    (case c__law_number => k_is)
    (case k__law_number => k_is)
    (case a__law_read => k_is)
    (case l__law_read => k_is)
    (case c__law_read => k_is)
    (case k__law_read => k_is)
    (case a__law_bent => k_is)
    (case l__law_bent => k_is)
    (case c__law_bent => k_is)
    (case k__law_bent => k_is)
    (case a__law_numbers => k_is)
    (case l__law_numbers => k_is)
    (case c__law_numbers => k_is)
    (case k__law_numbers => k_is)
    (case a__law_right => k_is)
    (case l__law_right => k_is)
    (case c__law_right => k_is)
    (case k__law_right => k_is)
    (case a__law_made => k_is)
    (case l__law_made => k_is)
    (case c__law_made => k_is)
    (case k__law_made => k_is)
    (case paHd => k_is)
    (case pbHd => k_is)
    (case pcHd => k_is)
    (case pdHd => k_is)
    (case lfHd => k_is)
    (case cfHd => k_is)
    (case kfHd => k_is)
    (case paSh => k_is)
    (case pbSh => k_is)
    (case pcSh => k_is)
    (case pdSh => k_is)
    (case lfSh => k_is)
    (case cfSh => k_is)
    (case kfSh => k_is)
    (case paJn => k_is)
    (case pbJn => k_is)
    (case pcJn => k_is)
    (case pdJn => k_is)
    (case lfJn => k_is)
    (case cfJn => k_is)
    (case kfJn => k_is)
    (case atEq => k_is)
    (case isEq => k_is)
    (case lfEq => k_is)
    (case cfEq => k_is)
    (case kfEq => k_is)
    (case atSf => k_is)
    (case isSf => k_is)
    (case lfSf => k_is)
    (case cfSf => k_is)
    (case kfSf => k_is)
    (case atOf => k_is)
    (case isOf => k_is)
    (case lfOf => k_is)
    (case cfOf => k_is)
    (case kfOf => k_is)
    (case atRd => k_is)
    (case isRd => k_is)
    (case lfRd => k_is)
    (case cfRd => k_is)
    (case kfRd => k_is)
    (case atTx => k_is)
    (case isTx => k_is)
    (case lfTx => k_is)
    (case cfTx => k_is)
    (case kfTx => k_is)
    (case atIL => k_is)
    (case isIL => k_is)
    (case msIL => k_is)
    (case kpIL => k_is)
    (case lfIL => k_is)
    (case cfIL => k_is)
    (case kfIL => k_is)
    (case lTIL => k_is)
    (case vTIL => exact .cons rfl .nil)
    (case lDIL => k_is)
    (case a4 => k_is)
    (case l4 => k_is)
    (case c4 => k_is)
    (case k4 => k_is)
