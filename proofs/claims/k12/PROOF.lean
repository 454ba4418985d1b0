import PyProof.Rows.All
import Wide.All
import OpenK.AllK
import Wide.FinOn
import HandS.ForMost
import HandS.Wide
import HandS.WideBits
import HandS.Style
import HandS.IsInst
import HandS.StrMore
import HandS.Codes
import HandS.Exc
import HandS.TryOnly
import HandS.TryMany
import HandS.ExcOwn
import HandS.WordsExc
import HandS.ExcInit
import HandS.ExcIs
import HandS.ExcField
import HandS.TupLe
import KE.KExcIs
import PySem.Challenge.RW_partlabels_k12_formats
set_option Elab.async false
set_option linter.all false
set_option maxRecDepth 100000
set_option maxHeartbeats 2000000
/-! Common to the laws: how a def of the text is told, the tape, drawing. -/
namespace Pt
open PySem PySem.Spec PyProof.Rows L2

/-- a def that may be called by its name; CX tells what may leave it -/
structure Cal (P : Program) (w : World) (K : PySem.W.Frag) (mg : Str → Option Value) (base : Heap) (CX : CXT) (k : Nat) (x : Str) (sp : Sp) : Prop where
  ex : ∃ (f : Addr) (fd : FuncData) (ps : List Str), FnOk P w K mg base CX k f fd ps sp ∧ mg x = some (.ref f) ∧ PySem.W.keepIn K (.ref f) = true ∧ Binds K fd ps []
/-- a def of the text as the top leaves it, under its name -/
structure DefAt (K : PySem.W.Frag) (mg : Str → Option Value) (x : Str) (st : Stmt) (ps : List Str) : Prop where
  ex : ∃ (f : Addr) (fd : FuncData), Fun K x x st f fd ∧ mg x = some (.ref f) ∧ Binds K fd ps []
theorem defAt_mk {K : PySem.W.Frag} {h : Heap} {mg : Str → Option Value} {x : Str} {st : Stmt} {ps : List Str} {f : Addr} {oc : Value} {od an : Option Addr} {sl : Array (Option Value)} {kV dc pm cd ct : Value} (X : K.In h) (G : h.Ns mainGlobals mg)
    (a : PySem.W.nsIn K mainGlobals x = some (some (.ref f)))
    (l : K.lookup f = some ⟨oc, od, .func (PySem.W.fnOf x x (defArgs st) (defBody st) (defScope st) .none kV dc pm an cd ct), sl⟩) (c : PySem.W.codeIn K cd x = true) (k : PySem.W.keepIn K (.ref f) = true)
    (hb : ∀ (kV doc pm : Value) (an : Option Addr) (cdv ct : Value) (us : List Value), us.length = ps.length → bindArgs (PySem.W.fnOf x x (defArgs st) (defBody st) (defScope st) .none kV doc pm an cdv ct) ⟨us, []⟩ = pure (ps.zip us)) : DefAt K mg x st ps := by
  have F := fun_mk (st := st) l c k
  exact ⟨⟨f, _, F, PySem.W.mg_of X G a, F.binds hb⟩⟩
section
variable {P : Program} {w : World} {K : PySem.W.Frag} {mg : Str → Option Value} {base : Heap}
theorem cal_of {CX : CXT} {k : Nat} {x : Str} {st : Stmt} {ps : List Str} {sp : Sp} (D : DefAt K mg x st ps) (h : ∀ (f : Addr) (fd : FuncData), Fun K x x st f fd → FnOk P w K mg base CX k f fd ps sp) : Cal P w K mg base CX k x sp := by
  obtain ⟨f, fd, F, m, b⟩ := D.ex
  exact ⟨⟨f, fd, ps, h f fd F, m, F.kp, b⟩⟩
end
section
variable {X : Cx} {j k : Nat} {x : Str} {sp : Sp} {p pos : Pos} {e : Expr} {es : List Expr} {t : TA}
theorem pe_c (c : Cal X.prog X.w X.K X.mg X.base CX0 k x sp) (hr : Room j X.A) (hk : k ≤ j) (hg : Gl X x) (ha : PA X (e :: es) t)
    (hdb : (x == ("__debug__" : Str)) = false := by decide) (he : starEach (e :: es) X.env = (false, eval e X.env) :: starEach es X.env := by rfl) (hpl : (backTo pos (starEach es X.env)).any (·.1) = false := by rfl) :
    PE X (.Call (.Name x p) (e :: es) [] pos) (tCall sp [] E0 t) := by
  obtain ⟨f, fd, ps, F, hm, kp, b⟩ := c.ex
  exact pe_call F (hr.mono hk) hg hm kp b .nil pass0 ha hdb he hpl
/-- text * int -/
def rMulS : R2 := fun x y H Q => ∃ (z : Str) (n : Int), x = .str z ∧ y = .int n ∧ 0 ≤ n ∧ n ≤ 100000 ∧ z.length ≤ 100 ∧ Q (.str (Txt.mul z n)) H
theorem op_mul_str : OpR X (binaryOp .Mult) rMulS := by
  intro pins s σ H x y v u Q I rx ry h
  obtain ⟨z, n, rfl, rfl, h0, h1, hz, q⟩ := h
  obtain ⟨t, rfl⟩ := rx
  obtain ⟨t', rfl⟩ := ry
  refine SB.mul ⟨?_, fun a b => ?_, fun a b => ?_⟩ (fun t2 k => ⟨.str (Txt.mul z n), H, I.tok _, ⟨_, rfl⟩, q⟩)
  · rw [decide_eq_false (by omega), decide_eq_false (by omega)] <;> rfl
  · have hn : 0 < n := by omega
    have e : (100 : Int) ≤ (2 ^ 63 - 1) / n := by
      refine (Int.le_ediv_iff_mul_le hn).mpr ?_
      omega
    omega
  · unfold Builtin.Str.tooLong
    have hs : sizeLine = 16777216 := sizeLine_eq
    have e : z.length * n.toNat ≤ 100 * 100000 := Nat.mul_le_mul hz (by omega)
    refine decide_eq_false ?_
    omega
end

theorem if_true_of {c : Bool} {A B : Prop} (hc : c = true) (h : A) : if c = true then A else B := by
  rw [if_pos hc]
  exact h
theorem if_false_of {c : Bool} {A B : Prop} (hc : c = false) (h : B) : if c = true then A else B := by
  rw [hc, if_neg Bool.false_ne_true]
  exact h

/-! ### the tape -/
def tapeO (A B : Int) : HO := .lst [.int A, .int B]
def TapeOk (A B : Int) : Prop := 0 ≤ A ∧ 0 ≤ B ∧ B ≤ 2147483647
def TapeAt (H : Hp) (a : Addr) : Prop := ∃ A B : Int, H a = some (tapeO A B) ∧ TapeOk A B
/-- all but the tape at a stands -/
def Frm (a : Addr) (H H' : Hp) : Prop := (∀ b, b ≠ a → H' b = H b) ∧ TapeAt H' a
theorem Frm.refl {a : Addr} {H : Hp} (h : TapeAt H a) : Frm a H H := ⟨fun _ _ => rfl, h⟩
theorem Frm.trans {a : Addr} {H H1 H2 : Hp} (x : Frm a H H1) (y : Frm a H1 H2) : Frm a H H2 := ⟨fun b hb => (y.1 b hb).trans (x.1 b hb), y.2⟩
theorem Frm.put {a : Addr} {H : Hp} {A B : Int} (h : TapeOk A B) : Frm a H (upd H a (tapeO A B)) := ⟨fun b hb => upd_ne hb, A, B, upd_same, h⟩

def spTape (K : PySem.W.Frag) : Sp := fun vs H Q _ => ∃ (a : Addr) (ns : List Int) (k : Int), vs = [.ref a, .int k] ∧ SqL K H a (ns.map V.int) ∧ 0 ≤ k ∧ k ≤ 1000 ∧
  ∀ (p : Addr) (A B : Int), H p = none → TapeOk A B → Q (.ref p) (upd H p (tapeO A B))
def spPick : Sp := fun vs H Q _ => ∃ (a : Addr) (m : Int), vs = [.ref a, .int m] ∧ TapeAt H a ∧ 0 < m ∧ m < 2 ^ 120 ∧
  ∀ (r : Int) (H' : Hp), 0 ≤ r → r < m → Frm a H H' → Q (.int r) H'
end Pt
/-! Texts as lists of code points: the rules by values, told so. -/
namespace Pt
open PySem PySem.Spec PyProof.Rows L2
open SX (S S_len S_cat)
section
variable {X : Cx}
theorem S_beq_iff {a b : List Nat} : (V.str (S a) = V.str (S b)) ↔ a = b := ⟨fun h => SX.S_inj (V.str.inj h), fun h => by rw [h]⟩
theorem S_dec {a b : List Nat} : decide (V.str (S a) = V.str (S b)) = decide (a = b) := decide_eq_decide.mpr S_beq_iff
theorem size_ok {n : Nat} (h : n ≤ 1000000) : n ≤ sizeLine := Nat.le_trans h (by decide)
theorem pe_strS {x : Str} {j : Nat} {pos : Pos} (l : List Nat) (h : x = S l) : PE X (.Constant (.str x) j pos) (tC (.str (S l))) := by
  subst h
  exact pe_str
def rCatS : R2 := fun x y H Q => ∃ a b : List Nat, x = .str (S a) ∧ y = .str (S b) ∧ a.length + b.length ≤ 1000000 ∧ Q (.str (S (a ++ b))) H
theorem op_catS : OpR X (binaryOp .Add) rCatS := by
  intro pins s σ H x y v u Q I rx ry h
  obtain ⟨a, b, rfl, rfl, hz, q⟩ := h
  rw [← S_cat] at q
  exact op_add_str pins s σ H _ _ v u Q I rx ry ⟨S a, S b, rfl, rfl, by rw [S_len, S_len]; exact size_ok hz, q⟩
def rIxSL : R2 := fun x y H Q => ∃ (l : List Nat) (i : Int) (c : Nat), x = .str (S l) ∧ y = .int i ∧ l.length ≤ 1000000 ∧ atI l i = some c ∧ Q (.str (S [c])) H
theorem ix_S : IxR X rIxSL := by
  intro value slice pins s σ H x y v u Q I rx ry h hs
  obtain ⟨l, i, c, rfl, rfl, hz, he, q⟩ := h
  exact ix_str value slice pins s σ H _ _ v u Q I rx ry ⟨S l, i, c, rfl, rfl, by rw [S_len]; exact size_ok hz, by simpa using he, q⟩ hs
def rSlToS : V → Option Int → Option Int → Hp → VK → Prop := fun x lo hi H Q => ∃ (l : List Nat) (i : Int), x = .str (S l) ∧ lo = none ∧ hi = some i ∧ 0 ≤ i ∧ l.length ≤ 1000000 ∧ Q (.str (S (l.take i.toNat))) H
theorem sl_to : SlR X rSlToS := by
  intro pins s σ H x v vl vu lo hi sl Q I rx hs pl pu h
  obtain ⟨l, i, rfl, rfl, rfl, h0, hz, q⟩ := h
  exact C8.sl_txt pins s σ H _ v vl vu _ _ sl Q I rx hs pl pu ⟨S l, rfl, by rw [S_len]; exact size_ok hz, by rw [SX.slice_to h0]; exact q⟩
def rSlFromS : V → Option Int → Option Int → Hp → VK → Prop := fun x lo hi H Q => ∃ (l : List Nat) (i : Int), x = .str (S l) ∧ lo = some i ∧ hi = none ∧ 0 ≤ i ∧ l.length ≤ 1000000 ∧ Q (.str (S (l.drop i.toNat))) H
theorem sl_from : SlR X rSlFromS := by
  intro pins s σ H x v vl vu lo hi sl Q I rx hs pl pu h
  obtain ⟨l, i, rfl, rfl, rfl, h0, hz, q⟩ := h
  exact C8.sl_txt pins s σ H _ v vl vu _ _ sl Q I rx hs pl pu ⟨S l, rfl, by rw [S_len]; exact size_ok hz, by rw [SX.slice_from h0]; exact q⟩
theorem call_lenS : CallR X (.builtin "len") (fun xs H Q => ∃ l : List Nat, xs = [.str (S l)] ∧ l.length ≤ 1000000 ∧ Q (.int l.length) H) := by
  intro pins s σ H xs us Q I r h
  obtain ⟨l, rfl, hz, q⟩ := h
  exact call_len_str pins s σ H _ us Q I r ⟨S l, rfl, by rw [S_len]; exact size_ok hz, by rw [S_len]; exact q⟩
theorem foldl_rep (l : List Nat) : ∀ (n : Nat) (a : Array Nat), ((List.replicate n l.toArray).foldl (· ++ ·) a).toList = a.toList ++ (List.replicate n l).flatten
  | 0, a => by simp
  | n + 1, a => by
    rw [List.replicate_succ, List.foldl_cons, foldl_rep l n, List.replicate_succ, List.flatten_cons, Array.toList_append, List.append_assoc]
theorem mul_S (l : List Nat) {n : Int} (h0 : 0 ≤ n) : Txt.mul (S l) n = S (List.replicate n.toNat l).flatten := by
  unfold Txt.mul
  by_cases h1 : n < 1
  · have e : n.toNat = 0 := by omega
    rw [if_pos h1, e]
    rfl
  · rw [if_neg h1]
    by_cases h2 : (n == 1 || (S l).length == 0) = true
    · rw [if_pos h2]
      rw [Bool.or_eq_true, beq_iff_eq, beq_iff_eq, S_len] at h2
      rcases h2 with h2 | h2
      · subst h2
        show S l = S (List.replicate 1 l).flatten
        simp
      · have e : l = [] := List.length_eq_zero_iff.mp h2
        subst e
        simp
    · rw [if_neg h2]
      refine (SX.S_tl _).symm.trans (congrArg S ?_)
      show ((List.replicate n.toNat l.toArray).foldl (· ++ ·) #[]).toList = _
      rw [foldl_rep]
      rfl
def rMulSL : R2 := fun x y H Q => ∃ (l : List Nat) (n : Int), x = .str (S l) ∧ y = .int n ∧ 0 ≤ n ∧ n ≤ 100000 ∧ l.length ≤ 100 ∧ Q (.str (S (List.replicate n.toNat l).flatten)) H
theorem op_mulS : OpR X (binaryOp .Mult) rMulSL := by
  intro pins s σ H x y v u Q I rx ry h
  obtain ⟨l, n, rfl, rfl, h0, h1, hz, q⟩ := h
  exact op_mul_str pins s σ H _ _ v u Q I rx ry ⟨S l, n, rfl, rfl, h0, h1, by rw [S_len]; exact hz, by rw [mul_S l h0]; exact q⟩
end
theorem ite_bl {a b : Bool} {A : Prop} {Q : VK} {H : Hp} (h : Q (.bl (a && b)) H) (k : Q (.bl b) H → A) : if a = true then A else Q (.bl false) H := by
  cases a with
  | true => exact if_true_of rfl (k h)
  | false => exact if_false_of rfl h
theorem bl_ne {a b : Bool} (h : a = b) : (!decide (V.bl a = V.bl b)) = false := by rw [h]; simp
theorem at_in {l : List Nat} {r : Int} (h0 : 0 ≤ r) (h1 : r < (l.length : Int)) : ∃ c, atI l r = some c ∧ c ∈ l := by
  have hk : r.toNat < l.length := by omega
  refine ⟨l[r.toNat], by have q := atI_nat (List.getElem?_eq_getElem hk); rwa [show ((r.toNat : Nat) : Int) = r by omega] at q, List.getElem_mem hk⟩
end Pt
/-! Own exceptions: raised with or without a field, asked within a suite. -/
namespace Pt
open PySem PySem.Spec PyProof.Rows L2
/-- an own exception class, by what the written part says of it -/
structure XC (K : PySem.W.Frag) (mg : Str → Option Value) (x : Str) (C : Addr) : Prop where
  gC : mg x = some (.ref C)
  oex : OexC K C
  ex : ExcC K C
  me : PySem.W.exmOne K (.ref C) (.ref C) = some true
theorem XC.xf {K : PySem.W.Frag} {mg : Str → Option Value} {x : Str} {C : Addr} (T : XC K mg x C) : XfC K C := ⟨T.ex.hg, T.ex.hk, T.ex.hs, T.ex.hd⟩
theorem XC.mk' {K : PySem.W.Frag} {mg : Str → Option Value} {x : Str} {C : Addr} {nm q : Str} {N : Addr} {bs bm : List Value} {sn : List Str} {sub : List Value} {ab : Bool} {col : Option Bool} {dd : Option Addr} {k0 k1 k2 k3 k5 : Option Value}
    (gC : mg x = some (.ref C)) (l : K.lookup C = some (excClassObj nm q C N bs bm true sn sub ab col dd k0 k1 k2 k3 k5 "ValueError.__new__")) (hb : PySem.HandSPX.refsVE bm = true)
    (sa : PySem.W.findIn K (.ref C) "__setattr__" = some (some (.builtin "object.__setattr__"))) (tyC : PySem.W.typeIn K (.ref C) = some (.type "type")) (kC : PySem.W.keepIn K (.ref C) = true)
    (hg : PySem.W.findIn K (.ref C) "__getattribute__" = some (some (.builtin "BaseException.__getattribute__"))) (hk : PySem.W.findIn K (.ref C) "__getattr__" = some none)
    (hs : PySem.W.subIn K (.ref C) (.type "BaseException") = some true) (hd : PySem.W.hasDictIn K C = true) (ha : PySem.W.findIn K (.ref C) "__class__" = some (some (.builtin "object.__class__")))
    (hn : PySem.W.specialIn K (.builtin "object.__class__") "__get__" = some (some (.builtin "getset_descriptor.__get__"))) (ht : PySem.W.takesIn K (.builtin "object.__class__") = some true)
    (hm : PySem.W.mroIn K C (.type "object") = some true) (ss : PySem.W.subIn K (.ref C) (.ref C) = some true) : XC K mg x C :=
  ⟨gC, ⟨⟨_, _, _, _, _, _, _, _, _, _, _, _, _, _, _, l, hb⟩, sa, hs, tyC, kC⟩, ⟨hg, hk, hs, hd, ha, hn, ht, hm⟩, PySem.W.exm_ref hs hd tyC ss⟩

theorem kit_own {K : PySem.W.Frag} {C D : Addr} (hd : PySem.W.hasDictIn K D = true) (ht : PySem.W.typeIn K (.ref D) = some (.type "type")) (hs : PySem.W.subIn K (.ref C) (.ref D) = some true) : PySem.W.kitOne K (.ref C) (.ref D) = some true := by
  obtain ⟨cd, hc, _⟩ := PySem.W.any_some hd
  have e : ((PySem.W.clsIn K D).isSome && PySem.W.typeIn K (.ref D) == some (.type "type")) = true := by
    rw [hc, ht]
    rfl
  unfold PySem.W.kitOne PySem.W.kitCls
  split
  · rfl
  · show (if ((PySem.W.clsIn K D).isSome && PySem.W.typeIn K (.ref D) == some (.type "type")) = true then PySem.W.subIn K (.ref C) (.ref D) else none) = some true
    rw [if_pos e]
    exact hs
/-- __init__(self, f): self.f = f, of an exception that is being made -/
def spXI (C : Addr) (f : Str) : Sp := fun vs H Q _ => ∃ (a : Addr) (v : V), vs = [.ref a, v] ∧ H a = some (exo a C none) ∧
  ∀ d, H d = none → d ≠ a → Q .non (upd (upd H d (exd d [(f, v)])) a (exo a C (some d)))
theorem heap_back {H : Hp} {a d : Addr} {o1 o2 o3 o4 : HO} (ha : H a = none) (hd : d ≠ a) : upd (del (upd (upd (upd H a o1) d o2) a o3) a) d o4 = upd H d o4 := by
  funext b
  by_cases h1 : b = d
  · subst h1
    rw [upd_same, upd_same]
  · rw [upd_ne h1, upd_ne h1]
    by_cases h2 : b = a
    · subst h2
      rw [del_same, ha]
    · rw [del_ne h2, upd_ne h2, upd_ne h1, upd_ne h2]
/-- what making such an exception asks -/
theorem mkO_ok {C : Addr} {f : Str} {v : V} {H : Hp} {Q : XK} (h : ∀ d, H d = none → Q (.ref C) (some d) (upd H d (.xd [(f, v)]))) :
    ([v] : List V).length ≤ 1000 ∧ ∀ a, H a = none → spXI C f (.ref a :: (([v] : List V) ++ ([] : List V))) (upd H a (exo a C none))
      (fun u H2 => u = .non ∧ ∃ (d : Addr) (fs : List (Str × V)), H2 a = some (exo a C (some d)) ∧ H2 d = some (exd d fs) ∧ H d = none ∧ Q (.ref C) (some d) (upd (del H2 a) d (.xd fs))) (fun _ _ _ => False) := by
  refine ⟨(by show 1 ≤ 1000; decide), fun a ha => ⟨a, v, rfl, upd_same, fun d hd hda => ⟨rfl, d, [(f, v)], upd_same, ?_, ?_, ?_⟩⟩⟩
  · rw [upd_ne hda, upd_same]
  · rw [upd_ne hda] at hd
    exact hd
  · rw [heap_back ha hda]
    rw [upd_ne hda] at hd
    exact h d hd

section
variable {X : Cx} {C : Addr} {x : Str} {p pos : Pos} {sp : Sp} {j k : Nat} {e : Expr} {es : List Expr} {t : TA}
/-- X(), an own class without an __init__ -/
theorem pmk_own0 {bmB : List Value} {B newId initId : String} (F : ExcBaseFacts B newId initId bmB) (q : PySem.W.excIn X.K C bmB newId = true) (gC : X.mg x = some (.ref C)) (kC : PySem.W.keepIn X.K (.ref C) = true) (r : Raises X (.ref C)) (hg : Gl X x)
    (hdb : (x == ("__debug__" : Str)) = false := by decide) : PMk X (.Call (.Name x p) [] [] pos) (fun _ H Q => Q (.ref C) none H) := by
  intro pins s σ H Q J h
  refine wpAny_Call_Name_kw (ld_glob J hg gC ?_ hdb)
  refine PySem.W.callWith_K0 J.kIn kC ?_
  show wpAny _ _ (call (.ref C) []) _ _ _
  obtain ⟨bm, N, nm, qn, bs, hdct, sn, sub, ab, col, dd, k0, k1, k2, k3, k5, mN, hC, hN, hni, T⟩ := exc_obj J.kIn q
  obtain ⟨hp1, g1, d1, tk1, os1⟩ := s
  exact wpAny_call_exc_subT F T hC hN hni (fun h' a mk => mk_of J mk r h (J.hok.gone mk.new)) (Nat.zero_le _)
/-- a def that may raise, called where it does not -/
theorem pe_cX (c : Cal X.prog X.w X.K X.mg X.base (L2.CX X.prog X.w) k x sp) (hr : Room j X.A) (hk : k ≤ j) (hg : Gl X x) (ha : PA X (e :: es) t)
    (hdb : (x == ("__debug__" : Str)) = false := by decide) (he : starEach (e :: es) X.env = (false, eval e X.env) :: starEach es X.env := by rfl) (hpl : (backTo pos (starEach es X.env)).any (·.1) = false := by rfl) :
    PE X (.Call (.Name x p) (e :: es) [] pos) (tCall sp [] E0 t) := by
  obtain ⟨f, fd, ps, F, hm, kp, b⟩ := c.ex
  exact pe_call F (hr.mono hk) hg hm kp b .nil passL ha hdb he hpl
/-- .. called in a def that hands its error on -/
theorem pe_cE {W : WX} {E : XK} (c : Cal X.prog X.w X.K X.mg X.base (L2.CX X.prog X.w) k x sp) (hr : Room j X.A) (hk : k ≤ j) (hg : Gl X x) (tk : Takes X W) (hW : ∀ cls d σ H, E cls d H → W cls d σ H) (ha : PA X (e :: es) t)
    (hdb : (x == ("__debug__" : Str)) = false := by decide) (he : starEach (e :: es) X.env = (false, eval e X.env) :: starEach es X.env := by rfl) (hpl : (backTo pos (starEach es X.env)).any (·.1) = false := by rfl) :
    PE X (.Call (.Name x p) (e :: es) [] pos) (tCall sp [] E t) := by
  obtain ⟨f, fd, ps, F, hm, kp, b⟩ := c.ex
  exact pe_call F (hr.mono hk) hg hm kp b .nil (passes_call tk hW) ha hdb he hpl
/-- .. called within a try -/
theorem pe_cS {W : WX} (c : Cal X.prog X.w X.K X.mg X.base (L2.CX X.prog X.w) k x sp) (hr : Room j X.A) (hk : k ≤ j) (hg : Gl X x) (tk : Takes X W) (ha : PA X (e :: es) t)
    (hdb : (x == ("__debug__" : Str)) = false := by decide) (he : starEach (e :: es) X.env = (false, eval e X.env) :: starEach es X.env := by rfl) (hpl : (backTo pos (starEach es X.env)).any (·.1) = false := by rfl) :
    PE X (.Call (.Name x p) (e :: es) [] pos) (tCallS sp (WE W) t) := by
  obtain ⟨f, fd, ps, F, hm, kp, b⟩ := c.ex
  exact pe_callS F (hr.mono hk) hg hm kp b (fun σ => passAt tk σ) ha hdb he hpl
/-- isinstance(e, c), e the exception that the suite holds, with or without a dict -/
def rIsX (K : PySem.W.Frag) (a : Addr) (cls : Value) (d : Option Addr) : List V → Hp → VK → Prop := fun xs H Q => ∃ (c : V) (cv : Value) (D : Addr) (b : Bool), xs = [.ref a, c] ∧ cls = .ref D ∧ ExcC K D ∧
  (d = none ∨ ∃ (dd : Addr) (fs : List (Str × V)), d = some dd ∧ H dd = some (.xd fs)) ∧ (∀ u, RelV c u → u = cv) ∧ PySem.W.kitOne K (.ref D) cv = some b ∧ Q (.bl b) H
theorem call_isX {a : Addr} {oe : Obj} {cls : Value} {d : Option Addr} {pn : List (Addr × Obj)} (hz : Zc cls d oe) (hf : ∃ vs, oe.data = .fields vs) : CallR (X.suite a ((a, oe) :: pn)) (.builtin "isinstance") (rIsX X.K a cls d) := by
  intro pins s σ H xs us Q J r h
  obtain ⟨c, cv, D, b, rfl, rfl, T, hd, hcv, e, q⟩ := h
  obtain ⟨u1, u2, rfl, r1, r2⟩ := vals2 r
  cases (show u1 = Value.ref a from r1)
  have ec := hcv _ r2
  subst ec
  obtain ⟨hget, _⟩ := J.pin (a, oe) (List.mem_append_left _ List.mem_cons_self)
  obtain ⟨vs, hv⟩ := hf
  have hnc : PySem.W.notCls oe = true := by unfold PySem.W.notCls; rw [hv]
  have hcl : (PySem.W.clsIn X.K D).isSome = true := by
    obtain ⟨cd, hc, _⟩ := PySem.W.any_some T.hd
    rw [hc]
    rfl
  obtain ⟨od, Y⟩ : ∃ od, PySem.W.InstAt s.heap a oe D od := by
    rcases hd with rfl | ⟨dd, fs, rfl, hdd⟩
    · exact ⟨none, hget, hz.1, hnc, by rw [hz.2]; trivial⟩
    · obtain ⟨mA, hns, _⟩ := (show ObjOk X.prog X.w H s.heap dd (.xd fs) from J.hok dd _ hdd)
      obtain ⟨od, ho, _⟩ := lookIn_ns hns
      exact ⟨some od, hget, hz.1, hnc, by rw [hz.2]; exact ho⟩
  exact PySem.W.kia_one (PySem.W.kitx_exc hcl T.hg T.hk T.hs T.ha T.hn T.ht T.hm) J.kIn Y e (fun z => nomatch z) fun tk => ⟨.bl b, H, J.tok tk, rfl, q⟩
end

/-! ### a walk over a text -/
theorem for_str {l : List Nat} {g : TG} {tb : TS} {D : Ends} {σ : L2.St} {H : Hp} (Pv : Nat → L2.St → Hp → Prop) (h0 : Pv 0 σ H)
    (hs : ∀ i c σ H, l[i]? = some c → Pv i σ H → g (.str (SX.S [c])) σ H fun σ2 H2 => tb { D with nx := Pv (i + 1), ct := Pv (i + 1), bk := D.nx } σ2 H2) (hd : ∀ σ H, Pv l.length σ H → D.nx σ H) :
    ∃ W : Nat → Nat → L2.St → Hp → Prop, (∃ m, W 0 m σ H) ∧ ∀ i m σ H, W i m σ H →
      ((Its (SX.S l)).stop i H ∧ D.nx σ H) ∨ ((Its (SX.S l)).go i H ∧ ∃ N : L2.St → Hp → Prop, (∀ σ' H', N σ' H' → ∃ m', m' < m ∧ W (i + 1) m' σ' H') ∧ ∀ x H', (Its (SX.S l)).yld i H x H' → g x σ H' fun σ2 H2 => tb { D with nx := N, ct := N, bk := D.nx } σ2 H2) := by
  refine ⟨fun i m σ H => m = l.length - i ∧ i ≤ l.length ∧ Pv i σ H, ⟨l.length, rfl, Nat.zero_le _, h0⟩, ?_⟩
  rintro i m σ H ⟨rfl, hi, pv⟩
  have hsz : (SX.S l).cps.size = l.length := by simp
  by_cases hlt : i < l.length
  · refine .inr ⟨(by show i < (SX.S l).cps.size; omega), Pv (i + 1), fun σ' H' p' => ⟨l.length - (i + 1), by omega, rfl, hlt, p'⟩, fun x H' y => ?_⟩
    obtain ⟨rfl, c, hc, rfl⟩ := y
    exact hs i c σ _ (by simpa using hc) pv
  · have e : i = l.length := by omega
    subst e
    exact .inl ⟨(by show (SX.S l).cps.size ≤ l.length; omega), hd σ H pv⟩
end Pt
/-! Figures and letters: the mathematics. -/
namespace Pt
open PySem PySem.Spec PyProof.Rows L2
open SX (S S_len S_cat)
/-- the words of letters: no word for 0 -/
def wordN : Nat → List Nat
  | 0 => []
  | n + 1 => wordN (n / 26) ++ [97 + n % 26]
def lettersL (n : Nat) : List Nat := if n = 0 then [45] else wordN n
def wval (l : List Nat) : Nat := l.foldl (fun v c => v * 26 + (c - 96)) 0
theorem wordN_succ (n : Nat) : wordN (n + 1) = wordN (n / 26) ++ [97 + n % 26] := by rw [wordN]
theorem wordN_zero : wordN 0 = [] := by rw [wordN]
theorem wval_snoc (l : List Nat) (c : Nat) : wval (l ++ [c]) = wval l * 26 + (c - 96) := by
  unfold wval
  rw [List.foldl_append]
  rfl
theorem wval_word : ∀ n : Nat, wval (wordN n) = n
  | 0 => by rw [wordN_zero]; rfl
  | n + 1 => by
    have ih := wval_word (n / 26)
    rw [wordN_succ, wval_snoc, ih]
    omega
theorem wordN_low : ∀ n : Nat, ∀ c ∈ wordN n, 97 ≤ c ∧ c ≤ 122
  | 0, c, h => by rw [wordN_zero] at h; cases h
  | n + 1, c, h => by
    have ih := wordN_low (n / 26)
    rw [wordN_succ] at h
    rcases List.mem_append.mp h with h | h
    · exact ih c h
    · rw [List.mem_singleton.mp h]
      omega
theorem wordN_ne {n : Nat} (h : 0 < n) : wordN n ≠ [] := by
  cases n with
  | zero => omega
  | succ n => rw [wordN_succ]; simp
theorem word_wval : ∀ (k : Nat) (l : List Nat), l.length = k → (∀ c ∈ l, 97 ≤ c ∧ c ≤ 122) → wordN (wval l) = l
  | 0, l, h, _ => by
    have e : l = [] := List.length_eq_zero_iff.mp h
    subst e
    exact wordN_zero
  | k + 1, l, h, hl => by
    have hne : l ≠ [] := fun e => by rw [e] at h; cases h
    have e := List.dropLast_concat_getLast hne
    generalize l.getLast hne = c at e
    generalize l.dropLast = r at e
    subst e
    have hc := hl c (by simp)
    have ih := word_wval k r (by simpa using h) (fun d hd => hl d (by simp [hd]))
    rw [wval_snoc, show wval r * 26 + (c - 96) = (wval r * 26 + (c - 97)) + 1 by omega, wordN_succ, show (wval r * 26 + (c - 97)) / 26 = wval r by omega, ih, show 97 + (wval r * 26 + (c - 97)) % 26 = c by omega]
theorem wval_pos {l : List Nat} (hne : l ≠ []) (hl : ∀ c ∈ l, 97 ≤ c ∧ c ≤ 122) : 0 < wval l := by
  have e := List.dropLast_concat_getLast hne
  have hc := hl _ (List.getLast_mem hne)
  rw [← e, wval_snoc]
  omega
theorem wval_lt : ∀ (k : Nat) (l : List Nat), l.length = k → (∀ c ∈ l, 97 ≤ c ∧ c ≤ 122) → wval l < 27 ^ k
  | 0, l, h, _ => by
    have e : l = [] := List.length_eq_zero_iff.mp h
    subst e
    decide
  | k + 1, l, h, hl => by
    have hne : l ≠ [] := fun e => by rw [e] at h; cases h
    have e := List.dropLast_concat_getLast hne
    generalize l.getLast hne = c at e
    generalize l.dropLast = r at e
    subst e
    have hc := hl c (by simp)
    have ih := wval_lt k r (by simpa using h) (fun d hd => hl d (by simp [hd]))
    rw [wval_snoc, Nat.pow_succ]
    omega
theorem lettersL_low {n : Nat} (h : 0 < n) : lettersL n = wordN n := by unfold lettersL; rw [if_neg (by omega)]
theorem wordN_len_le : ∀ n : Nat, (wordN n).length ≤ n
  | 0 => by rw [wordN_zero]; exact Nat.le_refl 0
  | n + 1 => by
    have ih := wordN_len_le (n / 26)
    rw [wordN_succ, List.length_append, List.length_singleton]
    omega
theorem wordN_len {k n : Nat} (h : n < 26 ^ k) : (wordN n).length ≤ k := by
  induction k generalizing n with
  | zero =>
    have e : n = 0 := by simpa using h
    subst e
    rw [wordN_zero]; exact Nat.le_refl 0
  | succ k ih =>
    cases n with
    | zero => rw [wordN_zero]; exact Nat.zero_le _
    | succ n =>
      rw [wordN_succ, List.length_append, List.length_singleton]
      have := ih (n := n / 26) (by rw [Nat.pow_succ] at h; omega)
      omega
/-! the order of the words -/
theorem lex_app : ∀ {a b : List Nat} (x y : List Nat), a.length = b.length → a < b → a ++ x < b ++ y
  | [], [], _, _, _, h => absurd h (List.lt_irrefl _)
  | [], _ :: _, _, _, e, _ => by cases e
  | _ :: _, [], _, _, e, _ => by cases e
  | c :: a, d :: b, x, y, e, h => by
    rw [List.cons_lt_cons_iff] at h
    rw [List.cons_append, List.cons_append, List.cons_lt_cons_iff]
    rcases h with h | ⟨h, h2⟩
    · exact .inl h
    · exact .inr ⟨h, lex_app x y (by simpa using e) h2⟩
theorem lex_same : ∀ (a : List Nat) {x y : List Nat}, x < y → a ++ x < a ++ y
  | [], _, _, h => h
  | c :: a, x, y, h => by
    rw [List.cons_append, List.cons_append, List.cons_lt_cons_iff]
    exact .inr ⟨rfl, lex_same a h⟩
theorem word_order : ∀ {m n : Nat}, m < n → (wordN m).length ≤ (wordN n).length ∧ ((wordN m).length = (wordN n).length → wordN m < wordN n)
  | _, 0, h => absurd h (Nat.not_lt_zero _)
  | 0, n + 1, _ => by
    rw [wordN_zero, wordN_succ]
    refine ⟨Nat.zero_le _, fun e => ?_⟩
    simp at e
  | m + 1, n + 1, h => by
    rw [wordN_succ, wordN_succ, List.length_append, List.length_append, List.length_singleton, List.length_singleton]
    by_cases hq : m / 26 < n / 26
    · have ih := word_order hq
      refine ⟨by omega, fun e => lex_app _ _ (by omega) (ih.2 (by omega))⟩
    · have e : m / 26 = n / 26 := by omega
      rw [e]
      refine ⟨Nat.le_refl _, fun _ => lex_same _ ?_⟩
      rw [List.cons_lt_cons_iff]
      exact .inl (by omega)
/-! which texts are read -/
def figOk (l : List Nat) : Bool := l.all (fun c => decide (48 ≤ c) && decide (c ≤ 57)) && (!l.isEmpty && (!(l.head? == some 48) || l.length == 1))
def letOk (l : List Nat) : Bool := l == [45] || (!l.isEmpty && l.all (fun c => decide (97 ≤ c) && decide (c ≤ 122)))
theorem all_dig {l : List Nat} : l.all (fun c => decide (48 ≤ c) && decide (c ≤ 57)) = true ↔ ∀ c ∈ l, 48 ≤ c ∧ c ≤ 57 := by
  simp [List.all_eq_true]
theorem all_low {l : List Nat} : l.all (fun c => decide (97 ≤ c) && decide (c ≤ 122)) = true ↔ ∀ c ∈ l, 97 ≤ c ∧ c ≤ 122 := by
  simp [List.all_eq_true]
theorem num_head : ∀ n : Nat, 0 < n → (TL.numL n).head? ≠ some 48
  | n, h => by
    by_cases h10 : n < 10
    · rw [TL.numL_lt h10]
      simp; omega
    · rw [TL.numL_step (by omega)]
      have ih := num_head (n / 10) (by omega)
      cases e : TL.numL (n / 10) with
      | nil => exact absurd e (TL.numL_ne _)
      | cons c r =>
        rw [e] at ih
        simpa using ih
theorem figOk_num (n : Nat) : figOk (TL.numL n) = true := by
  unfold figOk
  have h1 : (TL.numL n).all (fun c => decide (48 ≤ c) && decide (c ≤ 57)) = true := all_dig.mpr fun c hc => TL.numL_digits n c hc
  have h2 : (!(TL.numL n).isEmpty) = true := by
    cases e : TL.numL n with
    | nil => exact absurd e (TL.numL_ne n)
    | cons c r => rfl
  rw [h1, h2, Bool.true_and, Bool.true_and]
  by_cases h0 : n = 0
  · subst h0
    rw [TL.numL_lt (by decide)]
    rfl
  · have q := num_head n (by omega)
    have e : ((TL.numL n).head? == some 48) = false := by simpa using q
    rw [e]
    rfl
theorem letOk_word (n : Nat) : letOk (lettersL n) = true := by
  unfold letOk lettersL
  by_cases h : n = 0
  · rw [if_pos h]
    rfl
  · rw [if_neg h]
    have h1 : (wordN n).all (fun c => decide (97 ≤ c) && decide (c ≤ 122)) = true := all_low.mpr (wordN_low n)
    have h2 : (!(wordN n).isEmpty) = true := by
      cases e : wordN n with
      | nil => exact absurd e (wordN_ne (by omega))
      | cons c r => rfl
    rw [h1, h2]
    simp
/-- the numbers that are read -/
def figVal (l : List Nat) : Nat := NumText.digitsVal l
def letVal (l : List Nat) : Nat := if l = [45] then 0 else wval l
theorem figVal_num (n : Nat) : figVal (TL.numL n) = n := TL.numL_val n
theorem letVal_word (n : Nat) : letVal (lettersL n) = n := by
  unfold letVal lettersL
  by_cases h : n = 0
  · rw [if_pos h, if_pos rfl, h]
  · rw [if_neg h, if_neg, wval_word]
    intro e
    have q := wordN_low n 45 (by rw [e]; simp)
    omega
end Pt
/-! More of texts: joined without a sign between, begun with, stripped. -/
namespace Pt
open PySem PySem.Spec PyProof.Rows L2
open SX (S S_len S_cat)
theorem joinL_nil : ∀ ps : List (List Nat), TL.joinL [] ps = ps.flatten
  | [] => rfl
  | [p] => by simp [TL.joinL]
  | p :: q :: r => by
    have ih := joinL_nil (q :: r)
    show p ++ ([] ++ TL.joinL [] (q :: r)) = (p :: q :: r).flatten
    rw [ih]
    simp
theorem sum_lens (ps : List (List Nat)) : ((ps.map S).map (·.length)).sum = ps.flatten.length := by
  rw [SX.lens, List.length_flatten]
section
variable {X : Cx}
theorem mt_joinE : MtR X "str.join" (fun x xs H Q => ∃ (p : Addr) (ps : List (List Nat)), x = .str (S []) ∧ xs = [.ref p] ∧ SqL X.K H p (ps.map fun l => V.str (S l)) ∧ ps.flatten.length ≤ 1000000 ∧ Q (.str (S ps.flatten)) H) := by
  intro pins s σ H x xs v us Q I rx rs h
  obtain ⟨p, ps, rfl, rfl, hp, hz, q⟩ := h
  refine mt_join pins s σ H _ _ v us Q I rx rs ⟨S [], p, ps.map S, rfl, rfl, .inl (by rw [List.map_map]; exact hp), ?_, ?_⟩
  · rw [sum_lens]
    show _ + _ * 0 ≤ _
    omega
  · rw [SX.join_S, joinL_nil]
    exact q
theorem starts_S (a b : List Nat) : Txt.startswith (S a) (S b) = (a.take b.length == b) := by
  unfold Txt.startswith Builtin.Str.subAt
  rw [S_len, S_len, Nat.zero_add]
  have e : (S a).cps.extract 0 b.length = (a.take b.length).toArray := by simp
  rw [e]
  have e2 : ((a.take b.length).toArray == (S b).cps) = (a.take b.length == b) := by simp
  rw [e2]
  by_cases h : b.length ≤ a.length
  · rw [decide_eq_true h, Bool.true_and]
  · rw [decide_eq_false h, Bool.false_and]
    refine (beq_eq_false_iff_ne.mpr fun q => h ?_).symm
    have q2 := congrArg List.length q
    rw [List.length_take] at q2
    omega
theorem mt_startsS : MtR X "str.startswith" (fun x xs H Q => ∃ a b : List Nat, x = .str (S a) ∧ xs = [.str (S b)] ∧ Q (.bl (a.take b.length == b)) H) := by
  intro pins s σ H x xs v us Q I rx rs h
  obtain ⟨a, b, rfl, rfl, q⟩ := h
  exact mt_startswith pins s σ H _ _ v us Q I rx rs ⟨S a, S b, rfl, rfl, by rw [starts_S]; exact q⟩
theorem tw_all {p : Nat → Bool} : ∀ a : List Nat, (∀ c ∈ a, p c = true) → a.takeWhile p = a
  | [], _ => rfl
  | c :: r, h => by rw [List.takeWhile_cons, if_pos (h c (List.mem_cons_self ..)), tw_all r fun d hd => h d (List.mem_cons_of_mem _ hd)]
/-- what is nothing but signs of y is stripped to nothing -/
theorem strip_all {a y : List Nat} (h : ∀ c ∈ a, c ∈ y) : Txt.stripChars (S a) (S y) = S [] := by
  have g : ∀ c ∈ a, (S y).cps.contains c = true := fun c hc => by simpa using h c hc
  have e1 : (S a).cps.toList.takeWhile (S y).cps.contains = a := by
    show a.takeWhile _ = a
    exact tw_all a g
  have lo : stripLo (S y).cps.contains true (S a) = a.length := by
    unfold stripLo
    rw [if_pos rfl, e1]
  unfold Txt.stripChars Txt.stripBy stripSame stripped
  rw [lo]
  by_cases h0 : a = []
  · subst h0
    split
    · rfl
    · show Builtin.Str.strSub (S []) 0 _ = S []
      unfold Builtin.Str.strSub
      simp
  · have hp : 0 < a.length := List.length_pos_iff.mpr h0
    rw [show (a.length == 0) = false by simpa using h0, Bool.false_and, if_neg Bool.false_ne_true]
    unfold Builtin.Str.strSub
    have e2 : (S a).cps.extract a.length (stripHi (S y).cps.contains true (S a) a.length) = #[] := by
      refine Array.extract_empty_of_size_le_start ?_
      simp
    rw [e2]
def rStripS : V → List V → Hp → VK → Prop := fun x xs H Q => ∃ a y : List Nat, x = .str (S a) ∧ xs = [.str (S y)] ∧ a.length ≤ 1000000 ∧ ∀ b : List Nat, (b = [] ∨ ∃ c ∈ a, c ∉ y) → Q (.str (S b)) H
theorem mt_stripS : MtR X "str.strip" rStripS := by
  intro pins s σ H x xs v us Q I rx rs h
  obtain ⟨a, y, rfl, rfl, hz, q⟩ := h
  refine mt_stripChars pins s σ H _ _ v us Q I rx rs ⟨S a, S y, rfl, rfl, by rw [S_len]; exact size_ok hz, ?_⟩
  have e := SX.S_tl (Txt.stripChars (S a) (S y))
  rw [← e]
  refine q _ ?_
  by_cases g : ∀ c ∈ a, c ∈ y
  · left
    rw [strip_all g]
  · right
    refine Classical.byContradiction fun n => g fun c hc => Classical.byContradiction fun m => n ⟨c, hc, m⟩
end
end Pt
/-! (int, text) <= (int, text) -/
namespace Pt
open PySem PySem.Spec PyProof.Rows L2
def leIS (i j : Int) (a b : List Nat) : Bool := if i = j then (if a = b then true else !decide (b < a)) else decide (i ≤ j)
def rLeIS (K : PySem.W.Frag) : R2 := fun x y H Q => ∃ (p q : Addr) (i j : Int) (a b : List Nat), x = .ref p ∧ y = .ref q ∧ SqT K H p [.int i, .str (SX.S a)] ∧ SqT K H q [.int j, .str (SX.S b)] ∧ Q (.bl (leIS i j a b)) H
theorem rc_str {A : Around} {s : Shared} (a b : Str) (t u : Tok) : Ob.RcOp .LtE A s (.str a t) (.str b u) (!decide (b.cps.toList < a.cps.toList)) := fun prog w E Q h => by
  have z : ∀ x y, compareOp .LtE x y = richCompare .LtE x y := fun _ _ => rfl
  rw [← z]
  exact P.le_str h
theorem op_leIS {X : Cx} (hu : X.A.units < cLine) : OpR X (compareOp .LtE) (rLeIS X.K) := by
  intro pins s σ H x y v u Q J rx ry h
  obtain ⟨p, q, i, j, a, b, rfl, rfl, hp, hq, k⟩ := h
  cases rx
  cases ry
  obtain ⟨its, r1, p1, _⟩ := J.tuple hp
  obtain ⟨its2, r2, p2, _⟩ := J.tuple hq
  obtain ⟨v1, v2, rfl, ⟨t1, rfl⟩, ⟨t2, rfl⟩⟩ := vals2 r1
  obtain ⟨w1, w2, rfl, ⟨t3, rfl⟩, ⟨t4, rfl⟩⟩ := vals2 r2
  have R := Ob.RcOp.tuples_le (A := X.A) (s := s) (e := fun n => if n = 0 then (i == j) else (SX.S a == SX.S b)) (r := fun n => if n = 0 then decide (i ≤ j) else !decide (b < a)) p1 p2 hu
    (fun n h1 h2 => by
      match n, h1 with
      | 0, _ => exact SeqAt.EqAt.int_int _ _ _ _
      | 1, _ => exact SeqAt.EqAt.str_str _ _ _ _
      | n + 2, h1 => exact absurd h1 (by simp))
    (fun n h1 h2 _ => by
      match n, h1 with
      | 0, _ => exact Ob.RcOp.le_int _ _ _ _
      | 1, _ => exact rc_str _ _ _ _
      | n + 2, h1 => exact absurd h1 (by simp))
  have z : ∀ x y, compareOp .LtE x y = richCompare .LtE x y := fun _ _ => rfl
  rw [z]
  refine R X.prog X.w _ _ ?_
  refine ⟨.bl (leIS i j a b), H, J, ?_, k⟩
  show Value.bool _ = Value.bool _
  congr 1
  show (if (i == j) = true then (if (SX.S a == SX.S b) = true then true else !decide (b < a)) else decide (i ≤ j)) = leIS i j a b
  rw [SX.S_beq_eq]
  unfold leIS
  by_cases h1 : i = j
  · rw [if_pos (by simpa using h1), if_pos h1]
    by_cases h2 : a = b
    · rw [if_pos (by simpa using h2), if_pos h2]
    · rw [if_neg (by simpa using h2), if_neg h2]
  · rw [if_neg (by simpa using h1), if_neg h1]
end Pt
namespace Pt
open PySem PySem.Spec PyProof.Rows L2
open SX (S S_len S_cat)
def top (i : Nat) : Stmt := PySem.Challenge.pw_partlabels_k12_formats.main.body.getD i (.Pass ⟨0, 0, 0, 0⟩)
structure Cs where
  CN : Addr
  CT : Addr
  CP : Addr
  fN : Addr
  fdN : FuncData
structure Txt (K : PySem.W.Frag) (mg : Str → Option Value) (c : Cs) : Prop where
  z_abs : mg "abs" = none
  z_bool : mg "bool" = none
  z_divmod : mg "divmod" = none
  z_int : mg "int" = none
  z_isinstance : mg "isinstance" = none
  z_len : mg "len" = none
  z_max : mg "max" = none
  z_ord : mg "ord" = none
  z_range : mg "range" = none
  z_str : mg "str" = none
  g_ALPHABET : ∃ u, mg "ALPHABET" = some u ∧ RelV (.str (S [97, 98, 99, 100, 101, 102, 103, 104, 105, 106, 107, 108, 109, 110, 111, 112, 113, 114, 115, 116, 117, 118, 119, 120, 121, 122])) u
  xN : XC K mg "BadNumber" c.CN
  xT : XC K mg "BadText" c.CT
  noN : PySem.W.findIn K (.ref c.CN) "number" = some none
  iN : PySem.W.findIn K (.ref c.CN) "__init__" = some (some (.ref c.fN))
  tN : PySem.W.typeIn K (.ref c.fN) = some (.type "function")
  fnN : Fun K "__init__" "BadNumber.__init__" (inClass (top 3) 0) c.fN c.fdN
  bN : Binds K c.fdN ["self", "number"] []
  qT : PySem.W.excIn K c.CT [.type "ValueError", .type "Exception", .type "BaseException", .type "object"] "ValueError.__new__" = true
  gP : mg "PartError" = some (.ref c.CP)
  kNP : PySem.W.kitOne K (.ref c.CN) (.ref c.CP) = some true
  kTP : PySem.W.kitOne K (.ref c.CT) (.ref c.CP) = some true
  d_is_number : DefAt K mg "is_number" (top 5) ["value"]
theorem txt_of {K : PySem.W.Frag} {h : Heap} {mg : Str → Option Value} {CN : Addr} {CT : Addr} {CP : Addr} {fN : Addr} {u_ALPHABET : Value} {nmN qN : Str} {NN : Addr} {bsN bmN : List Value} {snN : List Str} {subN : List Value} {abN : Bool} {colN : Option Bool} {ddN : Option Addr} {k0N k1N k2N k3N k5N : Option Value} {nmT qT : Str} {NT : Addr} {bsT bmT : List Value} {snT : List Str} {subT : List Value} {abT : Bool} {colT : Option Bool} {ddT : Option Addr} {k0T k1T k2T k3T k5T : Option Value} {kVN dcN pmN cdN ctN ocN : Value} {anN odN : Option Addr} {slN : Array (Option Value)} {f_is_number : Addr} {kVis_number dcis_number pmis_number cdis_number ctis_number ocis_number : Value} {anis_number odis_number : Option Addr} {slis_number : Array (Option Value)} (X : K.In h) (G : h.Ns mainGlobals mg)
    (z_abs : PySem.W.nsIn K mainGlobals "abs" = some none)
    (z_bool : PySem.W.nsIn K mainGlobals "bool" = some none)
    (z_divmod : PySem.W.nsIn K mainGlobals "divmod" = some none)
    (z_int : PySem.W.nsIn K mainGlobals "int" = some none)
    (z_isinstance : PySem.W.nsIn K mainGlobals "isinstance" = some none)
    (z_len : PySem.W.nsIn K mainGlobals "len" = some none)
    (z_max : PySem.W.nsIn K mainGlobals "max" = some none)
    (z_ord : PySem.W.nsIn K mainGlobals "ord" = some none)
    (z_range : PySem.W.nsIn K mainGlobals "range" = some none)
    (z_str : PySem.W.nsIn K mainGlobals "str" = some none)
    (g_ALPHABET : PySem.W.nsIn K mainGlobals "ALPHABET" = some (some u_ALPHABET))
    (r_ALPHABET : RelV (.str (S [97, 98, 99, 100, 101, 102, 103, 104, 105, 106, 107, 108, 109, 110, 111, 112, 113, 114, 115, 116, 117, 118, 119, 120, 121, 122])) u_ALPHABET)
    (mg_N : PySem.W.nsIn K mainGlobals "BadNumber" = some (some (.ref CN)))
    (l_N : K.lookup CN = some (excClassObj nmN qN CN NN bsN bmN true snN subN abN colN ddN k0N k1N k2N k3N k5N "ValueError.__new__"))
    (b_N : PySem.HandSPX.refsVE bmN = true)
    (sa_N : PySem.W.findIn K (.ref CN) "__setattr__" = some (some (.builtin "object.__setattr__")))
    (ty_N : PySem.W.typeIn K (.ref CN) = some (.type "type"))
    (kc_N : PySem.W.keepIn K (.ref CN) = true)
    (hg_N : PySem.W.findIn K (.ref CN) "__getattribute__" = some (some (.builtin "BaseException.__getattribute__")))
    (hk_N : PySem.W.findIn K (.ref CN) "__getattr__" = some none)
    (hs_N : PySem.W.subIn K (.ref CN) (.type "BaseException") = some true)
    (hd_N : PySem.W.hasDictIn K CN = true)
    (ha_N : PySem.W.findIn K (.ref CN) "__class__" = some (some (.builtin "object.__class__")))
    (hn_N : PySem.W.specialIn K (.builtin "object.__class__") "__get__" = some (some (.builtin "getset_descriptor.__get__")))
    (ht_N : PySem.W.takesIn K (.builtin "object.__class__") = some true)
    (hm_N : PySem.W.mroIn K CN (.type "object") = some true)
    (ss_N : PySem.W.subIn K (.ref CN) (.ref CN) = some true)
    (mg_T : PySem.W.nsIn K mainGlobals "BadText" = some (some (.ref CT)))
    (l_T : K.lookup CT = some (excClassObj nmT qT CT NT bsT bmT true snT subT abT colT ddT k0T k1T k2T k3T k5T "ValueError.__new__"))
    (b_T : PySem.HandSPX.refsVE bmT = true)
    (sa_T : PySem.W.findIn K (.ref CT) "__setattr__" = some (some (.builtin "object.__setattr__")))
    (ty_T : PySem.W.typeIn K (.ref CT) = some (.type "type"))
    (kc_T : PySem.W.keepIn K (.ref CT) = true)
    (hg_T : PySem.W.findIn K (.ref CT) "__getattribute__" = some (some (.builtin "BaseException.__getattribute__")))
    (hk_T : PySem.W.findIn K (.ref CT) "__getattr__" = some none)
    (hs_T : PySem.W.subIn K (.ref CT) (.type "BaseException") = some true)
    (hd_T : PySem.W.hasDictIn K CT = true)
    (ha_T : PySem.W.findIn K (.ref CT) "__class__" = some (some (.builtin "object.__class__")))
    (hn_T : PySem.W.specialIn K (.builtin "object.__class__") "__get__" = some (some (.builtin "getset_descriptor.__get__")))
    (ht_T : PySem.W.takesIn K (.builtin "object.__class__") = some true)
    (hm_T : PySem.W.mroIn K CT (.type "object") = some true)
    (ss_T : PySem.W.subIn K (.ref CT) (.ref CT) = some true)
    (noN : PySem.W.findIn K (.ref CN) "number" = some none)
    (iN : PySem.W.findIn K (.ref CN) "__init__" = some (some (.ref fN)))
    (tN : PySem.W.typeIn K (.ref fN) = some (.type "function"))
    (lfN : K.lookup fN = some ⟨ocN, odN, .func (PySem.W.fnOf "__init__" "BadNumber.__init__" (defArgs (inClass (top 3) 0)) (defBody (inClass (top 3) 0)) (defScope (inClass (top 3) 0)) .none kVN dcN pmN anN cdN ctN), slN⟩)
    (cfN : PySem.W.codeIn K cdN "BadNumber.__init__" = true)
    (kfN : PySem.W.keepIn K (.ref fN) = true)
    (qT : PySem.W.excIn K CT [.type "ValueError", .type "Exception", .type "BaseException", .type "object"] "ValueError.__new__" = true)
    (gP : PySem.W.nsIn K mainGlobals "PartError" = some (some (.ref CP)))
    (hd_CP : PySem.W.hasDictIn K CP = true)
    (ty_CP : PySem.W.typeIn K (.ref CP) = some (.type "type"))
    (s_kNP : PySem.W.subIn K (.ref CN) (.ref CP) = some true)
    (s_kTP : PySem.W.subIn K (.ref CT) (.ref CP) = some true)
    (a_is_number : PySem.W.nsIn K mainGlobals "is_number" = some (some (.ref f_is_number)))
    (l_is_number : K.lookup f_is_number = some ⟨ocis_number, odis_number, .func (PySem.W.fnOf "is_number" "is_number" (defArgs (top 5)) (defBody (top 5)) (defScope (top 5)) .none kVis_number dcis_number pmis_number anis_number cdis_number ctis_number), slis_number⟩)
    (c_is_number : PySem.W.codeIn K cdis_number "is_number" = true)
    (k_is_number : PySem.W.keepIn K (.ref f_is_number) = true)
    : Txt K mg ⟨CN, CT, CP, fN, PySem.W.fnOf "__init__" "BadNumber.__init__" (defArgs (inClass (top 3) 0)) (defBody (inClass (top 3) 0)) (defScope (inClass (top 3) 0)) .none kVN dcN pmN anN cdN ctN⟩ :=
  ⟨PySem.W.mg_none_of X G z_abs,
   PySem.W.mg_none_of X G z_bool,
   PySem.W.mg_none_of X G z_divmod,
   PySem.W.mg_none_of X G z_int,
   PySem.W.mg_none_of X G z_isinstance,
   PySem.W.mg_none_of X G z_len,
   PySem.W.mg_none_of X G z_max,
   PySem.W.mg_none_of X G z_ord,
   PySem.W.mg_none_of X G z_range,
   PySem.W.mg_none_of X G z_str,
   ⟨_, PySem.W.mg_of X G g_ALPHABET, r_ALPHABET⟩,
   XC.mk' (PySem.W.mg_of X G mg_N) l_N b_N sa_N ty_N kc_N hg_N hk_N hs_N hd_N ha_N hn_N ht_N hm_N ss_N,
   XC.mk' (PySem.W.mg_of X G mg_T) l_T b_T sa_T ty_T kc_T hg_T hk_T hs_T hd_T ha_T hn_T ht_T hm_T ss_T,
   noN,
   iN,
   tN,
   fun_mk (st := inClass (top 3) 0) lfN cfN kfN,
   Fun.binds (fun_mk (st := inClass (top 3) 0) lfN cfN kfN) (fun _ _ _ _ _ _ us hl => match us, hl with | [_, _], _ => rfl),
   qT,
   PySem.W.mg_of X G gP,
   kit_own hd_CP ty_CP s_kNP,
   kit_own hd_CP ty_CP s_kTP,
   defAt_mk (x := "is_number") (st := top 5) (ps := ["value"]) X G a_is_number l_is_number c_is_number k_is_number (fun _ _ _ _ _ _ us hl => match us, hl with | [_], _ => rfl)⟩
/-! ### the tape's two defs -/
theorem pure_tape_len {ns : List Int} {k : Int} (h0 : 0 ≤ k) (c : k < (((ns.map V.int).length : Nat) : Int)) : ∃ z, atI (ns.map V.int) k = some (V.int z) := by
  rw [List.length_map] at c
  have hk : k.toNat < ns.length := by omega
  exact ⟨ns[k.toNat], at_of (j := k.toNat) (by omega) (by rw [List.getElem?_map, List.getElem?_eq_getElem hk] <;> rfl)⟩
theorem abs_nn (c : Int) : 0 ≤ (if c < 0 then -c else c) := by split <;> omega
abbrev sTape : Stmt := top 14
theorem scTape : FnScope ["_law_script", "_law_k", "_law_cell"] ["_law_script", "_law_k"] (defScope sTape) := ⟨rfl, rfl, rfl, by decide +kernel, rfl, by decide +kernel, by decide +kernel⟩
theorem ok_tape {P : Program} {w : World} {K : PySem.W.Frag} {mg : Str → Option Value} {base : Heap} {c : Cs} (T : Txt K mg c) {f : Addr} {fd : FuncData} (F : Fun K "_law_tape" "_law_tape" sTape f fd) : FnOk P w K mg base CX0 1 f fd ["_law_script", "_law_k"] (spTape K) := by
  refine F.ok scTape (fun vs H Q E h => ?_) (fun cdv A outer s H vs Q E hr h => ?_)
  · obtain ⟨a, ns, k, rfl, _⟩ := h
    rfl
  · obtain ⟨a, ns, k, rfl, hS, h0, h1, q⟩ := h
    refine ⟨_, (pss_cons (ps_set (i := 2) scTape.nd rfl (Or.inl rfl) (pe_ifExp (pt_cmpR op_lt (pv 1) (pe_callB call_len_seq (by rfl) T.z_len (by decide +kernel) (pa_cons (pv 0) pa_nil)) (nomark _)) (pe_ix ix_list (pv 0) (pv 1) (fun _ _ => rfl)) pe_int))
  (pss_one (ps_ret (pe_lst (pa_cons (pe_callB call_abs (by rfl) T.z_abs (by decide +kernel) (pa_cons (pv 2) pa_nil)) (pa_cons (pe_op op_add (pe_op op_mul pe_int (pv 1)) pe_int) pa_nil)))))), ?_⟩
    have hl : (2 : Nat) ≤ sizeLine := by decide
    refine ⟨_, rfl, _, rfl, _, _, rfl, .inl hS, _, _, rfl, rfl, _, rfl, ?_⟩
    by_cases c : k < (((ns.map V.int).length : Nat) : Int)
    · obtain ⟨z, hz⟩ := pure_tape_len h0 c
      refine if_true_of (decide_eq_true c) ?_
      refine ⟨_, rfl, _, rfl, _, _, _, _, rfl, rfl, hS, hz, ?_⟩
      exact ⟨_, rfl, _, rfl, _, rfl, _, _, rfl, rfl, .inl ⟨by decide, by decide⟩, _, _, rfl, rfl, hl, fun p hp => q p _ _ hp ⟨abs_nn _, by omega, by omega⟩⟩
    · refine if_false_of (decide_eq_false c) ?_
      exact ⟨_, rfl, _, rfl, _, rfl, _, _, rfl, rfl, .inl ⟨by decide, by decide⟩, _, _, rfl, rfl, hl, fun p hp => q p _ _ hp ⟨abs_nn _, by omega, by omega⟩⟩
abbrev sPick : Stmt := top 15
theorem scPick : FnScope ["_law_tape_here", "_law_many", "_law_digit", "_law_mixed"] ["_law_tape_here", "_law_many"] (defScope sPick) := ⟨rfl, rfl, rfl, by decide +kernel, rfl, by decide +kernel, by decide +kernel⟩
theorem ok_pick {P : Program} {w : World} {K : PySem.W.Frag} {mg : Str → Option Value} {base : Heap} {c : Cs} (T : Txt K mg c) {f : Addr} {fd : FuncData} (F : Fun K "_law_pick" "_law_pick" sPick f fd) : FnOk P w K mg base CX0 1 f fd ["_law_tape_here", "_law_many"] spPick := by
  refine F.ok scPick (fun vs H Q E h => ?_) (fun cdv A outer s H vs Q E hr h => ?_)
  · obtain ⟨a, m, rfl, _⟩ := h
    rfl
  · obtain ⟨a, m, rfl, ⟨Z, B, hA, hA0, hB0, hB1⟩, hm0, hm1, q⟩ := h
    have hL : SqL K H a [.int Z, .int B] := SqL.of hA
    refine ⟨_, (pss_cons (ps_if (pt_cmpR op_ge (pe_ix ix_list (pv 0) pe_int (fun _ _ => rfl)) (pe_op op_pow pe_int pe_int) (nomark _)) (pss_cons (ps_set (i := 2) scPick.nd rfl (Or.inl rfl) (pe_op op_mod (pe_callTy call_int1 (by rfl) T.z_int (by decide +kernel) (pa_cons (pe_ix ix_list (pv 0) pe_int (fun _ _ => rfl)) pa_nil)) (pv 1)))
  (pss_cons (ps_asg (pe_op op_fdivW (pe_ix ix_list (pv 0) pe_int (fun _ _ => rfl)) (pv 1)) (pg_sub (pv 0) pe_int set_list))
  (pss_one (ps_ret (pv 2))))) pss_nil)
  (pss_cons (ps_asg (pe_op op_mod (pe_callTy call_int1 (by rfl) T.z_int (by decide +kernel) (pa_cons (pe_op op_add (pe_op op_add (pe_op op_mul (pe_ix ix_list (pv 0) pe_int (fun _ _ => rfl)) pe_int) (pe_op op_mul (pe_ix ix_list (pv 0) pe_int (fun _ _ => rfl)) pe_int)) pe_int) pa_nil)) pe_int) (pg_sub (pv 0) pe_int set_list))
  (pss_cons (ps_set (i := 3) scPick.nd rfl (Or.inl rfl) (pe_op op_mod (pe_callTy call_int1 (by rfl) T.z_int (by decide +kernel) (pa_cons (pe_op op_add (pe_op op_add (pe_op op_mul (pe_ix ix_list (pv 0) pe_int (fun _ _ => rfl)) (pe_ix ix_list (pv 0) pe_int (fun _ _ => rfl))) (pe_op op_mul (pe_ix ix_list (pv 0) pe_int (fun _ _ => rfl)) pe_int)) pe_int) pa_nil)) pe_int))
  (pss_one (ps_ret (pe_op op_mod (pe_callTy call_int1 (by rfl) T.z_int (by decide +kernel) (pa_cons (pe_op op_fdivW (pv 3) pe_int) pa_nil)) (pv 1))))))), ?_⟩
    refine ⟨_, rfl, _, _, _, _, rfl, rfl, hL, rfl, _, _, rfl, rfl, ⟨by decide, by decide, by decide⟩, _, _, rfl, rfl, _, rfl, ?_⟩
    have mb : m.natAbs < 2 ^ 120 := by omega
    by_cases c : (10 : Int) ^ (18 : Int).toNat ≤ Z
    · refine if_true_of (decide_eq_true c) ?_
      refine ⟨_, rfl, _, _, _, _, rfl, rfl, hL, rfl, .inl ⟨_, rfl, _, rfl, _, _, rfl, rfl, hm0, ?_⟩⟩
      refine ⟨_, rfl, _, _, _, _, rfl, rfl, hL, rfl, _, rfl, _, _, rfl, rfl, wide_div hm0 mb (by decide) (by decide), _, rfl, _, _, _, 0, rfl, rfl, hA, rfl, ?_⟩
      exact ⟨_, rfl, q _ _ (Int.emod_nonneg _ (by omega)) (Int.emod_lt_of_pos _ hm0) (Frm.put (A := Z / m) (B := B) ⟨Int.ediv_nonneg hA0 (by omega), hB0, hB1⟩)⟩
    · refine if_false_of (decide_eq_false c) ?_
      have cz : Z < 1000000000000000000 := by
        have e : (10 : Int) ^ (18 : Int).toNat = 1000000000000000000 := by decide
        omega
      refine ⟨_, rfl, _, _, _, _, rfl, rfl, hL, rfl, _, _, rfl, rfl, .inl ⟨by omega, by omega⟩, _, rfl, _, _, _, _, rfl, rfl, hL, rfl, _, _, rfl, rfl, .inl ⟨by omega, by omega⟩, _, _, rfl, rfl, _, _, rfl, rfl, .inl ⟨_, rfl, _, _, rfl, rfl, (by show (0 : Int) < 2147483647; decide), _, rfl, _, _, _, 1, rfl, rfl, hA, rfl, ?_⟩⟩
      have b0 : 0 ≤ (B * 48271 + Z * 69621 + 11) % 2147483647 := Int.emod_nonneg _ (by decide)
      have b1 : (B * 48271 + Z * 69621 + 11) % 2147483647 < 2147483647 := Int.emod_lt_of_pos _ (by decide)
      have hA' : upd H a (.lst (([.int Z, .int B] : List V).set 1 (.int ((B * 48271 + Z * 69621 + 11) % 2147483647)))) a = some (.lst [.int Z, .int ((B * 48271 + Z * 69621 + 11) % 2147483647)]) := upd_same
      have hL' : SqL K (upd H a (.lst (([.int Z, .int B] : List V).set 1 (.int ((B * 48271 + Z * 69621 + 11) % 2147483647))))) a [.int Z, .int ((B * 48271 + Z * 69621 + 11) % 2147483647)] := SqL.of hA'
      refine ⟨_, rfl, _, _, _, _, rfl, rfl, hL', rfl, _, rfl, _, _, _, _, rfl, rfl, hL', rfl, _, _, rfl, rfl, .inl ⟨by omega, by omega⟩, _, rfl, _, _, _, _, rfl, rfl, hL', rfl, _, _, rfl, rfl, .inl ⟨by omega, by omega⟩, _, _, rfl, rfl, _, _, rfl, rfl, .inl ⟨_, rfl, _, _, rfl, rfl, (by show (0 : Int) < 2147483399; decide), ?_⟩⟩
      refine ⟨_, rfl, _, _, rfl, rfl, wide_div (b := 10) (by decide) (by decide) (by decide) (by decide), .inl ⟨_, rfl, _, rfl, _, _, rfl, rfl, hm0, ?_⟩⟩
      exact q _ _ (Int.emod_nonneg _ (by omega)) (Int.emod_lt_of_pos _ hm0) (Frm.put (A := Z) (B := (B * 48271 + Z * 69621 + 11) % 2147483647) ⟨hA0, b0, by omega⟩)
/-! ### any value, by its kind -/
inductive AnyV (K : PySem.W.Frag) (H : Hp) : V → String → Prop
  | non : AnyV K H .non "NoneType"
  | bl (b : Bool) : AnyV K H (.bl b) "bool"
  | int (i : Int) : AnyV K H (.int i) "int"
  | str (s : Str) : AnyV K H (.str s) "str"
  | lst {a : Addr} {xs : List V} (h : H a = some (.lst xs)) : AnyV K H (.ref a) "list"
  | tup {a : Addr} {xs : List V} (h : H a = some (.tup xs)) : AnyV K H (.ref a) "tuple"
  | dct {a : Addr} {kvs : List (Key × V)} (h : H a = some (.dK kvs)) : AnyV K H (.ref a) "dict"
theorem AnyV.ty {K : PySem.W.Frag} {H : Hp} {v : V} {T : String} (h : AnyV K H v T) : TyX K H v (.type T) := by
  cases h with
  | non => exact .base .non
  | bl b => exact .base (.bl b)
  | int i => exact .base (.int i)
  | str s => exact .base (.str s)
  | lst h => exact .base (.lst h)
  | tup h => exact .base (.tup h)
  | dct h => exact .base (.dK h)
theorem AnyV.same {K : PySem.W.Frag} {H H' : Hp} {v : V} {T : String} (h : AnyV K H v T) (s : Same H H') : AnyV K H' v T := by
  cases h with
  | non => exact .non
  | bl b => exact .bl b
  | int i => exact .int i
  | str x => exact .str x
  | lst h => exact .lst (s _ _ h)
  | tup h => exact .tup (s _ _ h)
  | dct h => exact .dct (s _ _ h)
def natB : V → Bool
  | .int i => decide (0 ≤ i)
  | _ => false
theorem AnyV.kits {K : PySem.W.Frag} {H : Hp} {v : V} {T : String} (h : AnyV K H v T) : ∃ b1 b2, kitB T "int" = some b1 ∧ kitB T "bool" = some b2 ∧ (b1 = false → natB v = false) ∧ (b2 = true → natB v = false) ∧ (b1 = true → b2 = false → ∃ i, v = .int i) := by
  cases h with
  | non => exact ⟨false, false, by decide +kernel, by decide +kernel, fun _ => rfl, (fun z => nomatch z), (fun z => nomatch z)⟩
  | bl b => exact ⟨true, true, by decide +kernel, by decide +kernel, (fun z => nomatch z), fun _ => rfl, (fun _ z => nomatch z)⟩
  | int i => exact ⟨true, false, by decide +kernel, by decide +kernel, (fun z => nomatch z), (fun z => nomatch z), fun _ _ => ⟨i, rfl⟩⟩
  | str s => exact ⟨false, false, by decide +kernel, by decide +kernel, fun _ => rfl, (fun z => nomatch z), (fun z => nomatch z)⟩
  | lst h => exact ⟨false, false, by decide +kernel, by decide +kernel, fun _ => rfl, (fun z => nomatch z), (fun z => nomatch z)⟩
  | tup h => exact ⟨false, false, by decide +kernel, by decide +kernel, fun _ => rfl, (fun z => nomatch z), (fun z => nomatch z)⟩
  | dct h => exact ⟨false, false, by decide +kernel, by decide +kernel, fun _ => rfl, (fun z => nomatch z), (fun z => nomatch z)⟩
theorem same_new {H : Hp} {p : Addr} {o : HO} (h : H p = none) : Same H (upd H p o) := fun b u e => by
  rw [upd_ne (ne_of_none e h)]
  exact e
/-- an object that H does not know may change -/
theorem same_mut {H H' : Hp} {p : Addr} {o : HO} (s : Same H H') (h : H p = none) : Same H (upd H' p o) := fun b u e => by
  rw [upd_ne (ne_of_none e h)]
  exact s b u e
theorem uni_digit : ∀ c : Nat, c < 128 → Unicode.isDigit c = (decide (48 ≤ c) && decide (c ≤ 57)) := by decide +kernel
theorem uni_alpha : ∀ c : Nat, c < 128 → Unicode.isAlpha c = ((decide (65 ≤ c) && decide (c ≤ 90)) || (decide (97 ≤ c) && decide (c ≤ 122))) := by decide +kernel
theorem uni_lower : ∀ c : Nat, c < 128 → Unicode.isLower c = (decide (97 ≤ c) && decide (c ≤ 122)) := by decide +kernel
theorem uni_upper : ∀ c : Nat, c < 128 → (Unicode.isUpper c || Unicode.isTitle c) = (decide (65 ≤ c) && decide (c ≤ 90)) := by decide +kernel
theorem ascii_S (l : List Nat) : Txt.isascii (S l) = l.all (fun c => decide (c < 128)) := by unfold Txt.isascii; simp
theorem digit_val (l : List Nat) : (Txt.isascii (S l) && Txt.isdigit (S l)) = (!l.isEmpty && l.all (fun c => decide (48 ≤ c) && decide (c ≤ 57))) := by
  have e2 : Txt.isdigit (S l) = (decide (0 < l.length) && l.all Unicode.isDigit) := by unfold Txt.isdigit; rw [S_len]; simp
  rw [ascii_S, e2, Bool.eq_iff_iff]
  simp only [Bool.and_eq_true, List.all_eq_true, decide_eq_true_eq, Bool.not_eq_true', List.isEmpty_eq_false_iff]
  constructor
  · rintro ⟨a, b, c⟩
    refine ⟨fun e => by rw [e] at b; exact absurd b (by decide), fun x hx => ?_⟩
    have q := c x hx
    rw [uni_digit x (a x hx), Bool.and_eq_true, decide_eq_true_eq, decide_eq_true_eq] at q
    exact q
  · rintro ⟨a, b⟩
    refine ⟨fun x hx => by have := b x hx; omega, List.length_pos_iff.mpr a, fun x hx => ?_⟩
    have q := b x hx
    rw [uni_digit x (by omega), Bool.and_eq_true, decide_eq_true_eq, decide_eq_true_eq]
    exact q
theorem low_val (l : List Nat) : (Txt.isascii (S l) && (Txt.isalpha (S l) && Txt.islower (S l))) = (!l.isEmpty && l.all (fun c => decide (97 ≤ c) && decide (c ≤ 122))) := by
  have e2 : Txt.isalpha (S l) = (decide (0 < l.length) && l.all Unicode.isAlpha) := by unfold Txt.isalpha; rw [S_len]; simp
  have e3 : Txt.islower (S l) = (l.any Unicode.isLower && !l.any fun c => Unicode.isUpper c || Unicode.isTitle c) := by unfold Txt.islower; simp
  rw [ascii_S, e2, e3, Bool.eq_iff_iff]
  simp only [Bool.and_eq_true, List.all_eq_true, decide_eq_true_eq, Bool.not_eq_true', List.any_eq_true, List.any_eq_false, List.isEmpty_eq_false_iff]
  constructor
  · rintro ⟨a, ⟨b, c⟩, d, e⟩
    refine ⟨fun e => by rw [e] at b; exact absurd b (by decide), fun x hx => ?_⟩
    have q := c x hx
    rw [uni_alpha x (a x hx)] at q
    have q2 := e x hx
    rw [uni_upper x (a x hx)] at q2
    rw [Bool.or_eq_true] at q
    have q3 := q.resolve_left q2
    rw [Bool.and_eq_true, decide_eq_true_eq, decide_eq_true_eq] at q3
    exact q3
  · rintro ⟨a, b⟩
    have lt : ∀ x ∈ l, x < 128 := fun x hx => by have := b x hx; omega
    have lw : ∀ x ∈ l, (decide (97 ≤ x) && decide (x ≤ 122)) = true := fun x hx => by
      rw [Bool.and_eq_true, decide_eq_true_eq, decide_eq_true_eq]
      exact b x hx
    refine ⟨lt, ⟨List.length_pos_iff.mpr a, fun x hx => ?_⟩, ?_, fun x hx => ?_⟩
    · rw [uni_alpha x (lt x hx), lw x hx, Bool.or_true]
    · cases l with
      | nil => exact absurd rfl a
      | cons c r => exact ⟨c, List.mem_cons_self .., by rw [uni_lower c (lt c (List.mem_cons_self ..))]; exact lw c (List.mem_cons_self ..)⟩
    · rw [uni_upper x (lt x hx)]
      have := b x hx
      simp only [Bool.and_eq_true, decide_eq_true_eq]
      omega
theorem figOk_no {l : List Nat} (h : (!l.isEmpty && l.all (fun c => decide (48 ≤ c) && decide (c ≤ 57))) = false) : figOk l = false := by
  unfold figOk
  rw [← Bool.and_assoc, Bool.and_comm (l.all _), h, Bool.false_and]
theorem take_more {α : Type} {l : List α} {i : Nat} {x : α} (h : l[i]? = some x) : l.take (i + 1) = l.take i ++ [x] := by
  rw [List.take_add_one, h]
  rfl

section
variable {P : Program} {w : World} {K : PySem.W.Frag} {mg : Str → Option Value} {base : Heap} {c : Cs}
def numB : V → Bool
  | .int _ => true
  | _ => false
theorem natB_num {v : V} (h : numB v = false) : natB v = false := by
  cases v <;> first | rfl | exact nomatch h
theorem numB_is {v : V} (h : numB v = true) : ∃ i, v = .int i := by
  cases v with
  | int i => exact ⟨i, rfl⟩
  | _ => exact nomatch h
theorem AnyV.kits2 {K : PySem.W.Frag} {H : Hp} {v : V} {T : String} (h : AnyV K H v T) : ∃ b1 b2, kitB T "int" = some b1 ∧ kitB T "bool" = some b2 ∧ (b1 && !b2) = numB v := by
  cases h with
  | non => exact ⟨false, false, by decide +kernel, by decide +kernel, rfl⟩
  | bl b => exact ⟨true, true, by decide +kernel, by decide +kernel, rfl⟩
  | int i => exact ⟨true, false, by decide +kernel, by decide +kernel, rfl⟩
  | str s => exact ⟨false, false, by decide +kernel, by decide +kernel, rfl⟩
  | lst h => exact ⟨false, false, by decide +kernel, by decide +kernel, rfl⟩
  | tup h => exact ⟨false, false, by decide +kernel, by decide +kernel, rfl⟩
  | dct h => exact ⟨false, false, by decide +kernel, by decide +kernel, rfl⟩
def spNbr (K : PySem.W.Frag) : Sp := fun vs H Q _ => ∃ (v : V) (T : String), vs = [v] ∧ AnyV K H v T ∧ Q (.bl (numB v)) H
abbrev sNbr : Stmt := top 5
theorem scNbr : FnScope ["value"] ["value"] (defScope sNbr) := ⟨rfl, rfl, rfl, by decide +kernel, rfl, by decide +kernel, by decide +kernel⟩
theorem ok_nbr (T : Txt K mg c) {f : Addr} {fd : FuncData} (F : Fun K "is_number" "is_number" sNbr f fd) : FnOk P w K mg base CX0 1 f fd ["value"] (spNbr K) := by
  refine F.ok scNbr (fun vs H Q E h => ?_) (fun cdv A outer s H vs Q E hr h => ?_)
  · obtain ⟨v, t, rfl, _⟩ := h
    rfl
  · obtain ⟨v, t, rfl, ha, q⟩ := h
    obtain ⟨b1, b2, k1, k2, n1⟩ := ha.kits2
    refine ⟨_, (pss_one (ps_ret (pe_and (pe_callB call_isi (by rfl) T.z_isinstance (by decide +kernel) (pa_cons (pv 0) (pa_cons (pe_bltn (v := .ty "int") (by rfl) T.z_int (by decide +kernel) rfl) pa_nil))) (pe_one (pe_not (pe_callB call_isi (by rfl) T.z_isinstance (by decide +kernel) (pa_cons (pv 0) (pa_cons (pe_bltn (v := .ty "bool") (by rfl) T.z_bool (by decide +kernel) rfl) pa_nil)))))))), ?_⟩
    refine ⟨_, rfl, _, _, _, _, b1, rfl, .ty _, ha.ty, kit_ty k1, _, rfl, ?_⟩
    rw [← n1] at q
    cases b1 with
    | false => exact if_false_of rfl q
    | true => exact if_true_of rfl ⟨_, rfl, _, _, _, _, b2, rfl, .ty _, ha.ty, kit_ty k2, _, rfl, q⟩
def spNat (K : PySem.W.Frag) : Sp := fun vs H Q _ => ∃ (v : V) (T : String), vs = [v] ∧ AnyV K H v T ∧ Q (.bl (natB v)) H
abbrev sNat : Stmt := top 6
theorem scNat : FnScope ["value"] ["value"] (defScope sNat) := ⟨rfl, rfl, rfl, by decide +kernel, rfl, by decide +kernel, by decide +kernel⟩
theorem ok_nat (T : Txt K mg c) {f : Addr} {fd : FuncData} (F : Fun K "is_natural" "is_natural" sNat f fd) : FnOk P w K mg base CX0 2 f fd ["value"] (spNat K) := by
  have cNb : Cal P w K mg base CX0 1 "is_number" (spNbr K) := cal_of T.d_is_number fun f fd F => ok_nbr T F
  refine F.ok scNat (fun vs H Q E h => ?_) (fun cdv A outer s H vs Q E hr h => ?_)
  · obtain ⟨v, t, rfl, _⟩ := h
    rfl
  · obtain ⟨v, t, rfl, ha, q⟩ := h
    refine ⟨_, (pss_one (ps_ret (pe_and (pe_c cNb hr (by decide) rfl (pa_cons (pv 0) pa_nil)) (pe_one (pe_cmpR op_ge (pv 0) pe_int (nomark _)))))), ?_⟩
    refine ⟨_, rfl, v, t, rfl, ha, _, rfl, ?_⟩
    cases e : numB v with
    | false =>
      rw [natB_num e] at q
      exact if_false_of rfl q
    | true =>
      obtain ⟨i, rfl⟩ := numB_is e
      exact if_true_of rfl ⟨_, rfl, _, _, rfl, rfl, q⟩
abbrev sNInit : Stmt := inClass (top 3) 0
theorem scNInit : FnScope ["self", "number"] ["self", "number"] (defScope sNInit) := ⟨rfl, rfl, rfl, by decide +kernel, rfl, by decide +kernel, by decide +kernel⟩
theorem ok_ninit (T : Txt K mg c) : FnOk P w K mg base CX0 1 c.fN c.fdN ["self", "number"] (spXI c.CN "number") := by
  refine T.fnN.ok scNInit (fun vs H Q E h => ?_) (fun cdv A outer s H vs Q E hr h => ?_)
  · obtain ⟨a, v, rfl, _⟩ := h
    rfl
  · obtain ⟨a, v, rfl, ha, q⟩ := h
    exact ⟨_, pss_one (ps_ost (pv 0) (pv 1)), _, rfl, _, rfl, a, c.CN, rfl, T.xN.oex, T.noN, .inl ⟨ha, fun d hd hne => q d hd hne⟩⟩
/-- figures and letters: a whole number from 0 on gives its text (hi: the text's number), all else an error -/
def spFmt (K : PySem.W.Frag) (CN : Addr) (txt : Nat → List Nat) : Sp := fun vs H Q E => ∃ v : V, vs = [v] ∧
  ((∃ n : Nat, v = .int n ∧ n < 10 ^ 60 ∧ ∀ H', Same H H' → Q (.str (S (txt n))) H') ∨
   (∃ T : String, AnyV K H v T ∧ natB v = false ∧ ∀ d H', H d = none → Same H H' → H' d = some (.xd [("number", v)]) → E (.ref CN) (some d) H'))
abbrev sFig : Stmt := top 9
theorem scFig : FnScope ["number", "left", "pieces", "piece"] ["number"] (defScope sFig) := ⟨rfl, rfl, rfl, by decide +kernel, rfl, by decide +kernel, by decide +kernel⟩
theorem ok_fig (T : Txt K mg c) (dN : DefAt K mg "is_natural" sNat ["value"]) {f : Addr} {fd : FuncData} (F : Fun K "figures" "figures" sFig f fd) : FnOk P w K mg base (L2.CX P w) 3 f fd ["number"] (spFmt K c.CN TL.numL) := by
  have cN : Cal P w K mg base CX0 2 "is_natural" (spNat K) := cal_of dN fun f fd F => ok_nat T F
  have GN : FnOk P w K mg base CX0 1 c.fN c.fdN ["self", "number"] (spXI c.CN "number") := ok_ninit T
  refine F.okX scFig (fun vs H Q E h => ?_) (fun cdv A outer s H vs Q E hr h => ?_)
  · obtain ⟨v, rfl, _⟩ := h
    rfl
  · obtain ⟨v, rfl, h⟩ := h
    refine ⟨_, (pss_cons (ps_if (pt_not (pt_val (pe_c cN hr (by decide) rfl (pa_cons (pv 0) pa_nil)))) (pss_one (ps_raise rfl (takes_of rfl rfl rfl rfl) (pmk_oex T.xN.oex T.iN T.tN GN hr T.bN .nil pass0 rfl T.xN.gC (pa_cons (pv 0) pa_nil)))) pss_nil)
  (pss_cons (ps_set (i := 1) scFig.nd rfl (Or.inl rfl) (pv 0))
  (pss_cons (ps_set (i := 2) scFig.nd rfl (Or.inl rfl) (pe_lst pa_nil))
  (pss_cons (ps_while PassesOwn.leaving (pt_cmpR op_ge (pv 1) (pe_op op_pow pe_int pe_int) (nomark _))
  (pss_cons (ps_asg (pe_callB call_divmodW (by rfl) T.z_divmod (by decide +kernel) (pa_cons (pv 1) (pa_cons (pe_op op_pow pe_int pe_int) pa_nil))) (pg_tup (by rfl) (pgs_cons (pg_name (i := 1) scFig.nd rfl (.inl rfl)) (pgs_cons (pg_name (i := 3) scFig.nd rfl (.inl rfl)) pgs_nil))))
  (pss_one (ps_expr (pe_bm PySem.F.plainAttrs_list PySem.F.slot_list_append PySem.F.type_list_append mt_append (pv 2) (pa_cons (pe_bm PySem.F.plainAttrs_str PySem.F.slot_str_zfill PySem.F.type_str_zfill mt_zfill (pe_callTy call_str_int (by rfl) T.z_str (by decide +kernel) (pa_cons (pv 3) pa_nil)) (pa_cons pe_int pa_nil)) pa_nil))))))
  (pss_cons (ps_expr (pe_bm PySem.F.plainAttrs_list PySem.F.slot_list_append PySem.F.type_list_append mt_append (pv 2) (pa_cons (pe_callTy call_str_int (by rfl) T.z_str (by decide +kernel) (pa_cons (pv 1) pa_nil)) pa_nil)))
  (pss_one (ps_ret (pe_bm PySem.F.plainAttrs_str PySem.F.slot_str_join PySem.F.type_str_join mt_joinE (pe_strS ([] : List Nat) (by decide +kernel)) (pa_cons (pe_revL (pv 2)) pa_nil))))))))), ?_⟩
    rcases h with ⟨n, rfl, hn, q⟩ | ⟨t, ha, hb, q⟩
    · refine ⟨_, rfl, _, _, rfl, .int _, _, rfl, ?_⟩
      refine if_false_of (by simp [natB]) ?_
      refine ⟨_, rfl, Nat.zero_le _, fun p hp => ?_⟩
      refine ⟨fun m σ' H' => σ' = [some (.int n), some (.int n), some (.ref p), none] ∧ H' = upd H p (.lst []), ⟨0, rfl, rfl⟩, ?_⟩
      rintro m σ' H' ⟨rfl, rfl⟩
      refine ⟨_, rfl, _, _, rfl, rfl, ⟨by decide, by decide, by decide⟩, _, _, rfl, rfl, _, rfl, ?_⟩
      refine if_false_of (decide_eq_false ?_) ?_
      · have e : (10 : Int) ^ (60 : Int).toNat = ((10 ^ 60 : Nat) : Int) := by decide
        rw [e]
        omega
      have hlog : ((n : Nat) : Int).natAbs.log2 < 1920 := by
        rw [Int.natAbs_natCast]
        by_cases h0 : n = 0
        · subst h0
          decide
        · exact (Nat.log2_lt h0).mpr (Nat.lt_trans hn (by decide +kernel))
      refine ⟨_, rfl, .inl ⟨rfl, _, SqL.of upd_same⟩, _, rfl, _, rfl, hlog, p, _, _, rfl, rfl, upd_same, (by show 0 < sizeLine; decide), ?_⟩
      refine ⟨rfl, _, rfl, p, _, rfl, SqL.of upd_same, fun p2 hp2 => ?_⟩
      refine ⟨p2, [TL.numL n], rfl, rfl, SqL.of ?_, ?_, ?_⟩
      · rw [upd_same, SX.num_S]
        rfl
      · have := TL.numL_len (n := n) (k := 60) (by decide) hn
        simp
        omega
      · have e : ([TL.numL n] : List (List Nat)).flatten = TL.numL n := by simp
        rw [e]
        have hp2' : H p2 = none := by
          by_cases e : p2 = p
          · rw [e, upd_same] at hp2
            cases hp2
          · rw [upd_ne e, upd_ne e] at hp2
            exact hp2
        exact q _ (same_mut (same_mut (same_mut (Same.refl H) hp) hp) hp2')
    · refine ⟨_, rfl, _, t, rfl, ha, _, rfl, ?_⟩
      rw [hb]
      refine if_true_of rfl ?_
      exact ⟨_, rfl, mkO_ok fun d hd => q d _ hd (same_new hd) upd_same⟩
abbrev alphaL : List Nat := [97, 98, 99, 100, 101, 102, 103, 104, 105, 106, 107, 108, 109, 110, 111, 112, 113, 114, 115, 116, 117, 118, 119, 120, 121, 122]
theorem at_alpha {r : Int} (h0 : 0 ≤ r) (h1 : r < 26) : atI alphaL r = some (97 + r.toNat) := by
  have e : ∀ j : Nat, j < 26 → alphaL[j]? = some (97 + j) := by decide +kernel
  have q := atI_nat (e r.toNat (by omega))
  rwa [show ((r.toNat : Nat) : Int) = r by omega] at q
theorem flat_single : ∀ cs : List Nat, (cs.map fun c => [c]).flatten = cs
  | [] => rfl
  | c :: r => by rw [List.map_cons, List.flatten_cons, flat_single r]; rfl
abbrev sLet : Stmt := top 10
theorem scLet : FnScope ["number", "left", "signs", "place"] ["number"] (defScope sLet) := ⟨rfl, rfl, rfl, by decide +kernel, rfl, by decide +kernel, by decide +kernel⟩
theorem ok_let (T : Txt K mg c) (dN : DefAt K mg "is_natural" sNat ["value"]) {f : Addr} {fd : FuncData} (F : Fun K "letters" "letters" sLet f fd) : FnOk P w K mg base (L2.CX P w) 3 f fd ["number"] (spFmt K c.CN lettersL) := by
  have cN : Cal P w K mg base CX0 2 "is_natural" (spNat K) := cal_of dN fun f fd F => ok_nat T F
  have GN : FnOk P w K mg base CX0 1 c.fN c.fdN ["self", "number"] (spXI c.CN "number") := ok_ninit T
  refine F.okX scLet (fun vs H Q E h => ?_) (fun cdv A outer s H vs Q E hr h => ?_)
  · obtain ⟨v, rfl, _⟩ := h
    rfl
  · obtain ⟨v, rfl, h⟩ := h
    refine ⟨_, (pss_cons (ps_if (pt_not (pt_val (pe_c cN hr (by decide) rfl (pa_cons (pv 0) pa_nil)))) (pss_one (ps_raise rfl (takes_of rfl rfl rfl rfl) (pmk_oex T.xN.oex T.iN T.tN GN hr T.bN .nil pass0 rfl T.xN.gC (pa_cons (pv 0) pa_nil)))) pss_nil)
  (pss_cons (ps_if (pt_cmpR op_eq (pv 0) pe_int (nomark _)) (pss_one (ps_ret (pe_strS [45] (by decide +kernel)))) pss_nil)
  (pss_cons (ps_set (i := 1) scLet.nd rfl (Or.inl rfl) (pv 0))
  (pss_cons (ps_set (i := 2) scLet.nd rfl (Or.inl rfl) (pe_lst pa_nil))
  (pss_cons (ps_while PassesOwn.leaving (pt_cmpR op_gt (pv 1) pe_int (nomark _))
  (pss_cons (ps_asg (pe_callB call_divmod (by rfl) T.z_divmod (by decide +kernel) (pa_cons (pe_op op_sub (pv 1) pe_int) (pa_cons pe_int pa_nil))) (pg_tup (by rfl) (pgs_cons (pg_name (i := 1) scLet.nd rfl (.inl rfl)) (pgs_cons (pg_name (i := 3) scLet.nd rfl (.inl rfl)) pgs_nil))))
  (pss_one (ps_expr (pe_bm PySem.F.plainAttrs_list PySem.F.slot_list_append PySem.F.type_list_append mt_append (pv 2) (pa_cons (pe_ix ix_S (C8.pe_gc rfl T.g_ALPHABET) (pv 3) (fun _ _ => rfl)) pa_nil))))))
  (pss_one (ps_ret (pe_bm PySem.F.plainAttrs_str PySem.F.slot_str_join PySem.F.type_str_join mt_joinE (pe_strS ([] : List Nat) (by decide +kernel)) (pa_cons (pe_revL (pv 2)) pa_nil))))))))), ?_⟩
    rcases h with ⟨n, rfl, hn, q⟩ | ⟨t, ha, hb, q⟩
    · refine ⟨_, rfl, _, _, rfl, .int _, _, rfl, ?_⟩
      refine if_false_of (by simp [natB]) ?_
      refine ⟨_, rfl, rfl, _, rfl, ?_⟩
      by_cases h0 : n = 0
      · subst h0
        refine if_true_of (by decide) ?_
        exact q _ (Same.refl H)
      refine if_false_of (decide_eq_false fun z => h0 (by have := V.int.inj z; omega)) ?_
      refine ⟨_, rfl, Nat.zero_le _, fun p hp => ?_⟩
      have hlen : (wordN n).length ≤ 43 := wordN_len (Nat.lt_trans hn (by decide +kernel))
      refine ⟨fun m σ' H' => ∃ (cs : List Nat) (v : Option V), σ' = [some (.int n), some (.int (m : Int)), some (.ref p), v] ∧ wordN n = wordN m ++ cs.reverse ∧ H' p = some (.lst (cs.map fun c => V.str (S [c]))) ∧ Same H H',
        ⟨n, [], none, rfl, by simp, upd_same, same_new hp⟩, ?_⟩
      rintro m σ' H1 ⟨cs, v, rfl, hw, h1, s1⟩
      have hcs : cs.length ≤ 43 := by
        have e := congrArg List.length hw
        rw [List.length_append, List.length_reverse] at e
        omega
      refine ⟨_, rfl, _, _, rfl, rfl, _, rfl, ?_⟩
      by_cases hm : 0 < m
      · refine if_true_of (decide_eq_true (by omega)) ?_
        refine ⟨fun σ' H' => ∃ (cs : List Nat) (v : Option V), σ' = [some (.int n), some (.int (((m - 1) / 26 : Nat) : Int)), some (.ref p), v] ∧ wordN n = wordN ((m - 1) / 26) ++ cs.reverse ∧ H' p = some (.lst (cs.map fun c => V.str (S [c]))) ∧ Same H H',
          fun σ' H' z => ⟨(m - 1) / 26, by omega, z⟩, ?_⟩
        refine ⟨_, rfl, _, _, rfl, rfl, _, _, rfl, ⟨by decide, by decide⟩, fun q2 hq2 => ?_⟩
        refine ⟨_, _, rfl, SqT.of upd_same, rfl, _, _, rfl, _, _, rfl, rfl, ?_⟩
        have hpq : p ≠ q2 := ne_of_none h1 hq2
        have h1' : upd H1 q2 (.tup [.int (((m : Int) - 1) / 26), .int (((m : Int) - 1) % 26)]) p = some (.lst (cs.map fun c => V.str (S [c]))) := by rw [upd_ne hpq]; exact h1
        have hr26 : atI alphaL (((m : Int) - 1) % 26) = some (97 + (((m : Int) - 1) % 26).toNat) := at_alpha (Int.emod_nonneg _ (by decide)) (Int.emod_lt_of_pos _ (by decide))
        refine ⟨_, rfl, .inl ⟨rfl, _, SqL.of h1'⟩, _, rfl, alphaL, _, _, rfl, rfl, by decide, hr26, p, _, _, rfl, rfl, h1', (by rw [List.length_map]; exact Nat.lt_of_le_of_lt hcs (by decide)), ?_⟩
        refine ⟨cs ++ [97 + (((m : Int) - 1) % 26).toNat], some (.int (((m : Int) - 1) % 26)), ?_, ?_, ?_, ?_⟩
        · have e : ((m : Int) - 1) / 26 = (((m - 1) / 26 : Nat) : Int) := by omega
          rw [← e]
          rfl
        · obtain ⟨k, rfl⟩ : ∃ k, m = k + 1 := ⟨m - 1, by omega⟩
          rw [hw, wordN_succ]
          have e : ((((k + 1 : Nat) : Int) - 1) % 26).toNat = k % 26 := by omega
          rw [e]
          simp
        · rw [upd_same, List.map_append]
          rfl
        · exact same_mut (same_mut s1 (s1.free hq2)) hp
      · refine if_false_of (decide_eq_false (by omega)) ?_
        have hm0 : m = 0 := by omega
        subst hm0
        rw [wordN_zero, List.nil_append] at hw
        refine ⟨rfl, _, rfl, p, _, rfl, SqL.of h1, fun p2 hp2 => ?_⟩
        refine ⟨p2, cs.reverse.map fun c => [c], rfl, rfl, SqL.of ?_, ?_, ?_⟩
        · rw [upd_same, List.map_map, List.map_reverse]
          rfl
        · rw [flat_single, List.length_reverse]
          omega
        · rw [flat_single, ← hw, ← lettersL_low (by omega)]
          exact q _ (same_mut s1 (s1.free hp2))
    · refine ⟨_, rfl, _, t, rfl, ha, _, rfl, ?_⟩
      rw [hb]
      refine if_true_of rfl ?_
      exact ⟨_, rfl, mkO_ok fun d hd => q d _ hd (same_new hd) upd_same⟩
/-- read_figures and read_letters: the number, or an error -/
def spRd (CT : Addr) (ok : List Nat → Bool) (val : List Nat → Nat) : Sp := fun vs H Q E => ∃ l : List Nat, vs = [.str (S l)] ∧ l.length ≤ 100000 ∧ (ok l = true → Q (.int (val l)) H) ∧ (ok l = false → E (.ref CT) none H)
abbrev sRF : Stmt := top 11
theorem scRF : FnScope ["text", "number", "sign"] ["text"] (defScope sRF) := ⟨rfl, rfl, rfl, by decide +kernel, rfl, by decide +kernel, by decide +kernel⟩
theorem ok_rf (T : Txt K mg c) {f : Addr} {fd : FuncData} (F : Fun K "read_figures" "read_figures" sRF f fd) : FnOk P w K mg base (L2.CX P w) 3 f fd ["text"] (spRd c.CT figOk figVal) := by
  refine F.okX scRF (fun vs H Q E h => ?_) (fun cdv A outer s H vs Q E hr h => ?_)
  · obtain ⟨l, rfl, _⟩ := h
    rfl
  · obtain ⟨l, rfl, hl, qy, qn⟩ := h
    refine ⟨_, (pss_cons (ps_if (PW.pt (pw_or (pt_not (pt_val (pe_bm0 PySem.F.plainAttrs_str PySem.F.slot_str_isascii PySem.F.type_str_isascii mt_isascii (pv 0)))) (pw_or1 (pt_not (pt_val (pe_bm0 PySem.F.plainAttrs_str PySem.F.slot_str_isdigit PySem.F.type_str_isdigit mt_isdigit (pv 0))))))) (pss_one (ps_raise rfl (takes_of rfl rfl rfl rfl) (pmk_own0 PySem.F.excBase_ValueError T.qT T.xT.gC T.xT.oex.kC (raises_own T.xT.oex.exC T.xT.oex.tyC) rfl))) pss_nil)
  (C8.pss_cut (ps_if (PW.pt (pw_and (pt_val (pe_bm PySem.F.plainAttrs_str PySem.F.slot_str_startswith PySem.F.type_str_startswith mt_startsS (pv 0) (pa_cons (pe_strS [48] (by decide +kernel)) pa_nil))) (pw_and1 (pt_cmpR op_ne (pv 0) (pe_strS [48] (by decide +kernel)) (nomark _))))) (pss_one (ps_raise rfl (takes_of rfl rfl rfl rfl) (pmk_own0 PySem.F.excBase_ValueError T.qT T.xT.gC T.xT.oex.kC (raises_own T.xT.oex.exC T.xT.oex.tyC) rfl))) pss_nil)
  (pss_cons (ps_set (i := 1) scRF.nd rfl (Or.inl rfl) pe_int)
  (pss_cons (ps_for PassesOwn.leaving rfl (pi_str (pv 0)) (pg_name (i := 2) scRF.nd rfl (Or.inl rfl))
  (pss_one (ps_set (i := 1) scRF.nd rfl (Or.inl rfl) (pe_op op_add (pe_op op_mul (pv 1) pe_int) (pe_callTy call_int_str (by rfl) T.z_int (by decide +kernel) (pa_cons (pv 2) pa_nil))))))
  (pss_one (ps_ret (pv 1))))))), ?_⟩
    have hd := digit_val l
    refine ⟨_, rfl, rfl, _, rfl, rfl, trivial, _, rfl, ?_⟩
    cases ha : Txt.isascii (S l) with
    | false =>
      rw [ha, Bool.false_and] at hd
      refine if_true_of rfl (if_true_of rfl ?_)
      exact qn (figOk_no hd.symm)
    | true =>
      refine if_false_of rfl ?_
      refine ⟨_, rfl, rfl, _, rfl, rfl, trivial, _, rfl, ?_⟩
      cases hb : Txt.isdigit (S l) with
      | false =>
        rw [ha, hb, Bool.and_false] at hd
        refine if_true_of rfl ?_
        exact qn (figOk_no hd.symm)
      | true =>
        rw [ha, hb, Bool.and_true] at hd
        refine if_false_of rfl ?_
        have hd2 := Bool.and_eq_true_iff.mp hd.symm
        have hdig := all_dig.mp hd2.2
        have hok : figOk l = !(l.take 1 == [48] && !decide (l = [48])) := by
          unfold figOk
          rw [hd2.1, hd2.2, Bool.true_and, Bool.true_and]
          cases l with
          | nil => rfl
          | cons d r =>
            cases r with
            | nil => by_cases e : d = 48 <;> simp [e]
            | cons d2 r2 => by_cases e : d = 48 <;> simp [e]
        refine ⟨fun σ' H' => σ' = L2.start ["text", "number", "sign"] [V.str (S l)] ∧ H' = H ∧ figOk l = true, ?_, ?_⟩
        · refine ⟨_, rfl, rfl, _, _, rfl, rfl, _, rfl, ?_⟩
          cases hs : (l.take ([48] : List Nat).length == [48]) with
          | true =>
            have hs' : (l.take 1 == [48]) = true := hs
            refine if_true_of rfl ?_
            refine ⟨_, rfl, rfl, _, rfl, ?_⟩
            rw [S_dec]
            rw [hs', Bool.true_and, Bool.not_not] at hok
            by_cases he : l = [48]
            · refine if_false_of (by rw [decide_eq_true he]; rfl) ?_
              exact ⟨rfl, rfl, by rw [hok, decide_eq_true he]⟩
            · refine if_true_of (by rw [decide_eq_false he]; rfl) ?_
              exact qn (by rw [hok, decide_eq_false he])
          | false =>
            have hs' : (l.take 1 == [48]) = false := hs
            rw [hs', Bool.false_and] at hok
            refine if_false_of rfl ?_
            exact ⟨rfl, rfl, hok⟩
        · rintro σ' H' ⟨rfl, e, ok⟩
          cases e
          refine ⟨_, rfl, _, rfl, for_str (l := l) (fun i σ H2 => ∃ v : Option V, σ = [some (.str (S l)), some (.int (NumText.digitsVal (l.take i) : Nat)), v] ∧ H2 = H) ⟨none, rfl, rfl⟩ ?_ ?_⟩
          · rintro i d σ H1 hi ⟨v, rfl, rfl⟩
            have hd := hdig d (List.mem_of_getElem? hi)
            have hv : intText? (S [d]) = some ((NumText.digitsVal [d] : Nat) : Int) := SX.int_S (by simp [hd.1, hd.2]) (by simp) (by show 1 ≤ 4300; decide)
            refine ⟨_, rfl, _, _, rfl, rfl, .inr ⟨by decide, by decide⟩, _, rfl, _, _, rfl, hv, (by show 1 ≤ 640; decide), _, _, rfl, rfl, ?_⟩
            refine ⟨some (.str (S [d])), ?_, rfl⟩
            rw [take_more hi, NumText.digitsVal_snoc]
            have e : NumText.digitsVal [d] = d - 48 := by show 0 * 10 + (d - 48) = d - 48; omega
            rw [e, Int.natCast_add, Int.natCast_mul]
            rfl
          · rintro σ H1 ⟨v, rfl, rfl⟩
            rw [List.take_length]
            exact ⟨_, rfl, qy ok⟩
theorem letOk_split {l : List Nat} (h : l ≠ [45]) : letOk l = (!l.isEmpty && l.all (fun c => decide (97 ≤ c) && decide (c ≤ 122))) := by
  unfold letOk
  rw [show (l == [45]) = false by simpa using h, Bool.false_or]
abbrev sRL : Stmt := top 12
theorem scRL : FnScope ["text", "number", "sign"] ["text"] (defScope sRL) := ⟨rfl, rfl, rfl, by decide +kernel, rfl, by decide +kernel, by decide +kernel⟩
theorem ok_rl (T : Txt K mg c) {f : Addr} {fd : FuncData} (F : Fun K "read_letters" "read_letters" sRL f fd) : FnOk P w K mg base (L2.CX P w) 3 f fd ["text"] (spRd c.CT letOk letVal) := by
  refine F.okX scRL (fun vs H Q E h => ?_) (fun cdv A outer s H vs Q E hr h => ?_)
  · obtain ⟨l, rfl, _⟩ := h
    rfl
  · obtain ⟨l, rfl, hl, qy, qn⟩ := h
    refine ⟨_, (pss_cons (ps_if (pt_cmpR op_eq (pv 0) (pe_strS [45] (by decide +kernel)) (nomark _)) (pss_one (ps_ret pe_int)) pss_nil)
  (pss_cons (ps_if (PW.pt (pw_or (pt_not (pt_val (pe_bm0 PySem.F.plainAttrs_str PySem.F.slot_str_isascii PySem.F.type_str_isascii mt_isascii (pv 0)))) (pw_or (pt_not (pt_val (pe_bm0 PySem.F.plainAttrs_str PySem.F.slot_str_isalpha PySem.F.type_str_isalpha mt_isalpha (pv 0)))) (pw_or1 (pt_not (pt_val (pe_bm0 PySem.F.plainAttrs_str PySem.F.slot_str_islower PySem.F.type_str_islower mt_islower (pv 0)))))))) (pss_one (ps_raise rfl (takes_of rfl rfl rfl rfl) (pmk_own0 PySem.F.excBase_ValueError T.qT T.xT.gC T.xT.oex.kC (raises_own T.xT.oex.exC T.xT.oex.tyC) rfl))) pss_nil)
  (pss_cons (ps_set (i := 1) scRL.nd rfl (Or.inl rfl) pe_int)
  (pss_cons (ps_for PassesOwn.leaving rfl (pi_str (pv 0)) (pg_name (i := 2) scRL.nd rfl (Or.inl rfl))
  (pss_one (ps_set (i := 1) scRL.nd rfl (Or.inl rfl) (pe_op op_add (pe_op op_sub (pe_op op_add (pe_op op_mul (pv 1) pe_int) (pe_callB call_ord (by rfl) T.z_ord (by decide +kernel) (pa_cons (pv 2) pa_nil))) (pe_callB call_ord (by rfl) T.z_ord (by decide +kernel) (pa_cons (pe_strS [97] (by decide +kernel)) pa_nil))) pe_int))))
  (pss_one (ps_ret (pv 1))))))), ?_⟩
    have hd := low_val l
    refine ⟨_, rfl, rfl, _, rfl, ?_⟩
    rw [S_dec]
    by_cases h45 : l = [45]
    · refine if_true_of (decide_eq_true h45) ?_
      have q := qy (by rw [h45]; decide)
      rw [show letVal l = 0 by unfold letVal; rw [if_pos h45]] at q
      exact q
    refine if_false_of (decide_eq_false h45) ?_
    rw [letOk_split h45] at qy qn
    refine ⟨_, rfl, rfl, _, rfl, rfl, trivial, _, rfl, ?_⟩
    cases ha : Txt.isascii (S l) with
    | false =>
      rw [ha, Bool.false_and] at hd
      refine if_true_of rfl (if_true_of rfl ?_)
      exact qn hd.symm
    | true =>
      refine if_false_of rfl ?_
      refine ⟨_, rfl, rfl, _, rfl, rfl, trivial, _, rfl, ?_⟩
      cases hb : Txt.isalpha (S l) with
      | false =>
        rw [ha, hb, Bool.false_and, Bool.and_false] at hd
        refine if_true_of rfl (if_true_of rfl ?_)
        exact qn hd.symm
      | true =>
        refine if_false_of rfl ?_
        refine ⟨_, rfl, rfl, _, rfl, rfl, trivial, _, rfl, ?_⟩
        cases hc : Txt.islower (S l) with
        | false =>
          rw [ha, hb, hc, Bool.and_false, Bool.and_false] at hd
          refine if_true_of rfl ?_
          exact qn hd.symm
        | true =>
          rw [ha, hb, hc, Bool.and_true, Bool.and_true] at hd
          have hlow := all_low.mp (Bool.and_eq_true_iff.mp hd.symm).2
          refine if_false_of rfl ?_
          refine ⟨_, rfl, _, rfl, for_str (l := l) (fun i σ H' => ∃ v : Option V, σ = [some (.str (S l)), some (.int (wval (l.take i) : Nat)), v] ∧ H' = H) ⟨none, rfl, rfl⟩ ?_ ?_⟩
          · rintro i d σ H1 hi ⟨v, rfl, rfl⟩
            have hw := hlow d (List.mem_of_getElem? hi)
            refine ⟨_, rfl, _, _, rfl, rfl, .inr ⟨by decide, by decide⟩, _, rfl, _, rfl, rfl, _, _, rfl, rfl, _, rfl, rfl, _, _, rfl, rfl, _, _, rfl, rfl, ?_⟩
            refine ⟨some (.str (S [d])), ?_, rfl⟩
            rw [take_more hi, wval_snoc]
            have e1 : ((S [d]).cps.getD 0 0 : Nat) = d := rfl
            have e2 : ((S [97]).cps.getD 0 0 : Nat) = 97 := rfl
            rw [e1, e2]
            have e : ((wval (l.take i) : Nat) : Int) * 26 + (d : Int) - ((97 : Nat) : Int) + 1 = ((wval (l.take i) * 26 + (d - 96) : Nat) : Int) := by omega
            exact congrArg (fun z => [some (V.str (S l)), some (V.int z), some (V.str (S [d]))]) e
          · rintro σ H1 ⟨v, rfl, rfl⟩
            rw [List.take_length]
            have q := qy hd.symm
            rw [show letVal l = wval l by unfold letVal; rw [if_neg h45]] at q
            exact ⟨_, rfl, q⟩
end

/-! ### the law's own defs -/
section
variable {P : Program} {w : World} {K : PySem.W.Frag} {mg : Str → Option Value} {base : Heap} {c : Cs}
/-- all but the tape at a stands; new things may come -/
def Kp (a : Addr) (H H' : Hp) : Prop := (∀ b o, b ≠ a → H b = some o → H' b = some o) ∧ TapeAt H' a
theorem Kp.of {a : Addr} {H H' : Hp} (f : Frm a H H') : Kp a H H' := ⟨fun b o hb e => by rw [f.1 b hb]; exact e, f.2⟩
theorem tape_same {a : Addr} {H H' : Hp} (t : TapeAt H a) (s : Same H H') : TapeAt H' a := by
  obtain ⟨A, B, h, ok⟩ := t
  exact ⟨A, B, s _ _ h, ok⟩
theorem Kp.same {a : Addr} {H H' : Hp} (t : TapeAt H a) (s : Same H H') : Kp a H H' := ⟨fun b o _ e => s b o e, tape_same t s⟩
theorem Kp.trans {a : Addr} {H H1 H2 : Hp} (x : Kp a H H1) (y : Kp a H1 H2) : Kp a H H2 := ⟨fun b o hb e => y.1 b o hb (x.1 b o hb e), y.2⟩
theorem tape_other {a b : Addr} {H H' : Hp} (t : TapeAt H b) (h : b ≠ a) (k : Kp a H H') : TapeAt H' b := by
  obtain ⟨A, B, e, ok⟩ := t
  exact ⟨A, B, k.1 _ _ h e, ok⟩

def spWord : Sp := fun vs H Q _ => ∃ n : Nat, vs = [.int (n : Int)] ∧ n < 10 ^ 32 ∧ Q (.str (S (lettersL n))) H
abbrev sWord : Stmt := top 16
theorem scWord : FnScope ["_law_number_here", "_law_found", "_law_turn"] ["_law_number_here"] (defScope sWord) := ⟨rfl, rfl, rfl, by decide +kernel, rfl, by decide +kernel, by decide +kernel⟩
theorem ok_word (T : Txt K mg c) {f : Addr} {fd : FuncData} (F : Fun K "_law_word" "_law_word" sWord f fd) : FnOk P w K mg base CX0 1 f fd ["_law_number_here"] spWord := by
  refine F.ok scWord (fun vs H Q E h => ?_) (fun cdv A outer s H vs Q E hr h => ?_)
  · obtain ⟨n, rfl, _⟩ := h
    rfl
  · obtain ⟨n, rfl, hn, q⟩ := h
    refine ⟨_, (pss_cons (ps_if (pt_cmpR op_eq (pv 0) pe_int (nomark _)) (pss_one (ps_ret (pe_strS [45] (by decide +kernel)))) pss_nil)
  (pss_cons (ps_set (i := 1) scWord.nd rfl (Or.inl rfl) (pe_strS ([] : List Nat) (by decide +kernel)))
  (pss_cons (ps_for PassesOwn.never rfl (pi_range1 (by rfl) T.z_range (pa_cons pe_int pa_nil)) (pg_name (i := 2) scWord.nd rfl (Or.inl rfl))
  (pss_one (ps_if (pt_cmpR op_gt (pv 0) pe_int (nomark _)) (pss_cons (ps_set (i := 1) scWord.nd rfl (Or.inl rfl) (pe_op op_catS (pe_ix ix_S (pe_strS [97, 98, 99, 100, 101, 102, 103, 104, 105, 106, 107, 108, 109, 110, 111, 112, 113, 114, 115, 116, 117, 118, 119, 120, 121, 122] (by decide +kernel)) (pe_op op_mod (pe_callTy call_int1 (by rfl) T.z_int (by decide +kernel) (pa_cons (pe_op op_sub (pv 0) pe_int) pa_nil)) pe_int) (fun _ _ => rfl)) (pv 1)))
  (pss_one (ps_set (i := 0) scWord.nd rfl (Or.inl rfl) (pe_op op_fdivW (pe_op op_sub (pv 0) pe_int) pe_int)))) pss_nil)))
  (pss_one (ps_ret (pv 1)))))), ?_⟩
    refine ⟨_, rfl, rfl, _, rfl, ?_⟩
    by_cases h0 : n = 0
    · subst h0
      refine if_true_of (by decide) ?_
      exact q
    refine if_false_of (decide_eq_false fun z => h0 (by have := V.int.inj z; omega)) ?_
    have hlen : (wordN n).length ≤ 43 := wordN_len (Nat.lt_trans hn (by decide +kernel))
    refine ⟨40, rfl, by decide, by decide, for_range (lo := 0) (n := 40) (fun i σ H' => ∃ (k : Nat) (ws : List Nat) (v : Option V), σ = [some (.int (k : Int)), some (.str (S ws)), v] ∧ wordN n = wordN k ++ ws ∧ k * 26 ^ i ≤ n ∧ H' = H)
      ⟨n, [], none, rfl, by simp, by simp, rfl⟩ ?_ ?_⟩
    · rintro i σ H1 hi ⟨k, ws, v, rfl, hw, hk, rfl⟩
      have hws : ws.length ≤ 43 := by
        have e := congrArg List.length hw
        rw [List.length_append] at e
        omega
      refine ⟨_, rfl, _, _, rfl, rfl, _, rfl, ?_⟩
      by_cases h1 : 0 < k
      · refine if_true_of (decide_eq_true (by omega)) ?_
        have hr26 : atI alphaL (((k : Int) - 1) % 26) = some (97 + (((k : Int) - 1) % 26).toNat) := at_alpha (Int.emod_nonneg _ (by decide)) (Int.emod_lt_of_pos _ (by decide))
        refine ⟨_, rfl, _, _, rfl, rfl, .inl ⟨_, rfl, _, _, rfl, rfl, (by show (0 : Int) < 26; decide), alphaL, _, _, rfl, rfl, by decide, hr26, _, rfl, [97 + (((k : Int) - 1) % 26).toNat], ws, rfl, rfl, (by rw [List.length_singleton]; omega), ?_⟩⟩
        refine ⟨_, rfl, _, _, rfl, rfl, _, _, rfl, rfl, wide_div (b := 10) (by decide) (by decide) (by decide) (by decide), ?_⟩
        refine ⟨(k - 1) / 26, [97 + (((k : Int) - 1) % 26).toNat] ++ ws, some (.int (0 + (i : Int))), ?_, ?_, ?_, rfl⟩
        · have e : ((k : Int) - 1) / 26 = (((k - 1) / 26 : Nat) : Int) := by omega
          rw [← e]
          rfl
        · obtain ⟨j, rfl⟩ : ∃ j, k = j + 1 := ⟨k - 1, by omega⟩
          rw [hw, wordN_succ]
          have e : ((((j + 1 : Nat) : Int) - 1) % 26).toNat = j % 26 := by omega
          rw [e]
          simp
        · have e : (k - 1) / 26 * 26 ≤ k := by omega
          have e2 := Nat.mul_le_mul_right (26 ^ i) e
          rw [Nat.pow_succ, Nat.mul_comm (26 ^ i) 26, ← Nat.mul_assoc]
          exact Nat.le_trans e2 hk
      · refine if_false_of (decide_eq_false (by omega)) ?_
        have e0 : k = 0 := by omega
        subst e0
        exact ⟨0, ws, some (.int (0 + (i : Int))), rfl, hw, by rw [Nat.zero_mul]; exact Nat.zero_le _, rfl⟩
    · rintro σ H1 ⟨k, ws, v, rfl, hw, hk, rfl⟩
      have e0 : k = 0 := by
        refine Classical.byContradiction fun hne => ?_
        have e : 1 * 26 ^ 40 ≤ k * 26 ^ 40 := Nat.mul_le_mul_right _ (by omega)
        have e2 : (10 : Nat) ^ 32 < 1 * 26 ^ 40 := by decide +kernel
        omega
      subst e0
      rw [wordN_zero, List.nil_append] at hw
      rw [lettersL_low (by omega), hw] at q
      exact ⟨_, rfl, q⟩
def spNum : Sp := fun vs H Q _ => ∃ a : Addr, vs = [.ref a] ∧ TapeAt H a ∧ ∀ (n : Nat) (H' : Hp), n ≤ 10 ^ 30 → Frm a H H' → Q (.int (n : Int)) H'
abbrev sNum : Stmt := top 17
theorem scNum : FnScope ["_law_tape_here", "_law_choice", "_law_power", "_law_turn"] ["_law_tape_here"] (defScope sNum) := ⟨rfl, rfl, rfl, by decide +kernel, rfl, by decide +kernel, by decide +kernel⟩
theorem ok_num (T : Txt K mg c) (dP : DefAt K mg "_law_pick" sPick ["_law_tape_here", "_law_many"]) {f : Addr} {fd : FuncData} (F : Fun K "_law_number" "_law_number" sNum f fd) : FnOk P w K mg base CX0 2 f fd ["_law_tape_here"] spNum := by
  have cP : Cal P w K mg base CX0 1 "_law_pick" spPick := cal_of dP fun f fd F => ok_pick T F
  refine F.ok scNum (fun vs H Q E h => ?_) (fun cdv A outer s H vs Q E hr h => ?_)
  · obtain ⟨a, rfl, _⟩ := h
    rfl
  · obtain ⟨a, rfl, t0, q⟩ := h
    refine ⟨_, (pss_cons (ps_set (i := 1) scNum.nd rfl (Or.inl rfl) (pe_c cP hr (by decide) rfl (pa_cons (pv 0) (pa_cons pe_int pa_nil))))
  (pss_cons (ps_if (pt_cmpR op_eq (pv 1) pe_int (nomark _)) (pss_one (ps_ret (pe_c cP hr (by decide) rfl (pa_cons (pv 0) (pa_cons pe_int pa_nil))))) pss_nil)
  (pss_cons (ps_if (pt_cmpR op_eq (pv 1) pe_int (nomark _)) (pss_one (ps_ret (pe_op op_sub (pe_op op_pow pe_int pe_int) (pe_c cP hr (by decide) rfl (pa_cons (pv 0) (pa_cons (pe_op op_pow pe_int pe_int) pa_nil)))))) pss_nil)
  (pss_cons (ps_if (pt_cmpR op_eq (pv 1) pe_int (nomark _)) (pss_one (ps_ret (pe_c cP hr (by decide) rfl (pa_cons (pv 0) (pa_cons (pe_op op_pow pe_int pe_int) pa_nil))))) pss_nil)
  (pss_cons (ps_set (i := 2) scNum.nd rfl (Or.inl rfl) pe_int)
  (pss_cons (ps_for PassesOwn.never rfl (pi_range1 (by rfl) T.z_range (pa_cons (pe_c cP hr (by decide) rfl (pa_cons (pv 0) (pa_cons pe_int pa_nil))) pa_nil)) (pg_name (i := 3) scNum.nd rfl (Or.inl rfl))
  (pss_one (ps_set (i := 2) scNum.nd rfl (Or.inl rfl) (pe_ifExp (pt_cmpR op_eq (pv 1) pe_int (nomark _)) (pe_op op_add (pe_op op_mul (pv 2) pe_int) pe_int) (pe_op op_mul (pv 2) pe_int)))))
  (pss_one (ps_ret (pe_callB (call_max2 rfl) (by rfl) T.z_max (by decide +kernel) (pa_cons pe_int (pa_cons (pe_op op_add (pe_op op_sub (pv 2) pe_int) (pe_c cP hr (by decide) rfl (pa_cons (pv 0) (pa_cons pe_int pa_nil)))) pa_nil))))))))))), ?_⟩
    refine ⟨_, rfl, a, 5, rfl, t0, by decide, by decide, fun r H1 r0 r1 F1 => ?_⟩
    have fin : ∀ (z : Int) (H' : Hp), 0 ≤ z → z ≤ 10 ^ 30 → Frm a H H' → Q (.int z) H' := fun z H' z0 z1 f => by
      have e := q z.toNat H' (by have : ((10 ^ 30 : Nat) : Int) = 10 ^ 30 := by decide +kernel
                                 omega) f
      rw [show ((z.toNat : Nat) : Int) = z by omega] at e
      exact e
    refine ⟨_, rfl, rfl, _, rfl, ?_⟩
    by_cases c0 : r = 0
    · refine if_true_of (decide_eq_true (congrArg V.int c0)) ?_
      exact ⟨_, rfl, a, 800, rfl, F1.2, by decide, by decide, fun z H2 z0 z1 F2 => fin z H2 z0 (by omega) (F1.trans F2)⟩
    refine if_false_of (decide_eq_false fun z => c0 (V.int.inj z)) ?_
    refine ⟨_, rfl, rfl, _, rfl, ?_⟩
    by_cases c1 : r = 1
    · refine if_true_of (decide_eq_true (congrArg V.int c1)) ?_
      refine ⟨_, _, rfl, rfl, ⟨by decide, by decide, by decide⟩, _, rfl, _, _, rfl, rfl, ⟨by decide, by decide, by decide⟩, a, _, rfl, F1.2, by decide +kernel, by decide +kernel, fun z H2 z0 z1 F2 => ?_⟩
      have e1 : (10 : Int) ^ (6 : Int).toNat = 1000000 := by decide
      have e2 : (10 : Int) ^ (29 : Int).toNat = 100000000000000000000000000000 := by decide +kernel
      rw [e1] at z1
      refine ⟨_, _, rfl, rfl, fin _ H2 ?_ ?_ (F1.trans F2)⟩
      · rw [e2]
        omega
      · rw [e2]
        omega
    refine if_false_of (decide_eq_false fun z => c1 (V.int.inj z)) ?_
    refine ⟨_, rfl, rfl, _, rfl, ?_⟩
    by_cases c2 : r = 2
    · refine if_true_of (decide_eq_true (congrArg V.int c2)) ?_
      refine ⟨_, rfl, _, _, rfl, rfl, ⟨by decide, by decide, by decide⟩, a, _, rfl, F1.2, by decide +kernel, by decide +kernel, fun z H2 z0 z1 F2 => ?_⟩
      have e2 : (10 : Int) ^ (29 : Int).toNat = 100000000000000000000000000000 := by decide +kernel
      rw [e2] at z1
      exact fin z H2 z0 (by omega) (F1.trans F2)
    refine if_false_of (decide_eq_false fun z => c2 (V.int.inj z)) ?_
    refine ⟨_, rfl, a, 20, rfl, F1.2, by decide, by decide, fun k H2 k0 k1 F2 => ?_⟩
    refine ⟨k, rfl, by omega, by omega, for_range (lo := 0) (n := k.toNat) (fun i σ H' => ∃ (x : Nat) (v : Option V), σ = [some (.ref a), some (.int r), some (.int (x : Int)), v] ∧ 1 ≤ x ∧ x ≤ 27 ^ i ∧ H' = H2)
      ⟨1, none, rfl, Nat.le_refl _, Nat.le_refl _, rfl⟩ ?_ ?_⟩
    · rintro i σ H3 hi ⟨x, v, rfl, x1, x2, rfl⟩
      have hp : 27 ^ (i + 1) = 27 ^ i * 27 := Nat.pow_succ ..
      refine ⟨_, rfl, rfl, _, rfl, ?_⟩
      by_cases c3 : r = 3
      · refine if_true_of (decide_eq_true (congrArg V.int c3)) ?_
        refine ⟨_, rfl, _, _, rfl, rfl, .inr ⟨by decide, by decide⟩, _, _, rfl, rfl, ?_⟩
        refine ⟨x * 26 + 1, some (.int (0 + (i : Int))), ?_, by omega, by omega, rfl⟩
        exact congrArg (fun z => [some (V.ref a), some (V.int r), some (V.int z), some (V.int (0 + (i : Int)))]) (by omega)
      · refine if_false_of (decide_eq_false fun z => c3 (V.int.inj z)) ?_
        refine ⟨_, rfl, _, _, rfl, rfl, .inr ⟨by decide, by decide⟩, ?_⟩
        refine ⟨x * 10, some (.int (0 + (i : Int))), ?_, by omega, by omega, rfl⟩
        exact congrArg (fun z => [some (V.ref a), some (V.int r), some (V.int z), some (V.int (0 + (i : Int)))]) (by omega)
    · rintro σ H3 ⟨x, v, rfl, x1, x2, rfl⟩
      have hx : x ≤ 27 ^ 20 := Nat.le_trans x2 (Nat.pow_le_pow_right (by decide) (by omega))
      have e27 : (27 : Nat) ^ 20 = 42391158275216203514294433201 := by decide +kernel
      rw [e27] at hx
      refine ⟨_, rfl, _, _, rfl, rfl, _, rfl, a, 3, rfl, F2.2, by decide, by decide, fun z H4 z0 z1 F4 => ?_⟩
      refine ⟨_, _, rfl, rfl, _, _, rfl, ?_⟩
      refine fin _ H4 ?_ ?_ (F1.trans (F2.trans F4))
      · split <;> omega
      · split <;> omega
/-- what a text is read as; -1: refused -/
def readV (door : Int) (l : List Nat) : Int := if door = 0 then (if figOk l = true then (figVal l : Int) else -1) else (if letOk l = true then (letVal l : Int) else -1)
theorem kit_ref {K : PySem.W.Frag} {C : Addr} {u : Value} (h : RelV (.ref C) u) : u = .ref C := h
def spRead : Sp := fun vs H Q _ => ∃ (door : Int) (l : List Nat), vs = [.int door, .str (S l)] ∧ l.length ≤ 100000 ∧ Q (.int (readV door l)) H
abbrev sRead : Stmt := top 19
theorem scRead : FnScope ["_law_door", "_law_text", "e"] ["_law_door", "_law_text"] (defScope sRead) := ⟨rfl, rfl, rfl, by decide +kernel, rfl, by decide +kernel, by decide +kernel⟩
theorem ok_read (T : Txt K mg c) (dRF : DefAt K mg "read_figures" sRF ["text"]) (dRL : DefAt K mg "read_letters" sRL ["text"]) {f : Addr} {fd : FuncData} (F : Fun K "_law_read" "_law_read" sRead f fd) : FnOk P w K mg base CX0 4 f fd ["_law_door", "_law_text"] spRead := by
  have cRF : Cal P w K mg base (L2.CX P w) 3 "read_figures" (spRd c.CT figOk figVal) := cal_of dRF fun f fd F => ok_rf T F
  have cRL : Cal P w K mg base (L2.CX P w) 3 "read_letters" (spRd c.CT letOk letVal) := cal_of dRL fun f fd F => ok_rl T F
  refine F.ok scRead (fun vs H Q E h => ?_) (fun cdv A outer s H vs Q E hr h => ?_)
  · obtain ⟨d, l, rfl, _⟩ := h
    rfl
  · obtain ⟨d, l, rfl, hl, q⟩ := h
    refine ⟨_, (pss_one (ps_try_as (i := 2) rfl rfl scRead.nd rfl rfl ⟨rfl, by decide, .inl T.xT.gC⟩ takes0
      (fun W pn xe tk _ => pss_one (ps_ret (pe_ifExp (pt_cmpR op_eq (pv 0) pe_int (nomark _)) (pe_cS cRF hr (by decide) rfl tk (pa_cons (pv 1) pa_nil)) (pe_cS cRL hr (by decide) rfl tk (pa_cons (pv 1) pa_nil)))))
      (fun a oe cls d pn hz hf => pss_one (ps_ret (pe_ifExp (pt_val (pe_callB (call_isX hz hf) (by rfl) T.z_isinstance (by decide +kernel) (pa_cons (pv 2) (pa_cons (pe_glob (v := .ref c.CP) rfl T.gP rfl) pa_nil)))) (pe_un un_neg pe_int) (pe_un un_neg pe_int)))))), ?_⟩
    have caught : ∀ {R : Prop}, (Q (.int (-1)) H → R) → (readV d l = -1) → R := fun {R} h e => by rw [e] at q; exact h q
    refine ⟨_, rfl, rfl, _, rfl, ?_⟩
    by_cases c0 : d = 0
    · refine if_true_of (decide_eq_true (congrArg V.int c0)) ?_
      refine ⟨_, rfl, l, rfl, hl, fun ok => ?_, fun no => ?_⟩
      · unfold readV at q
        rw [if_pos c0, if_pos ok] at q
        exact q
      · refine ⟨true, T.xT.me, fun _ a ha => ?_, fun z => Bool.noConfusion z⟩
        refine ⟨_, rfl, _, _, c.CT, true, rfl, rfl, T.xT.ex, .inl rfl, (fun u hu => kit_ref (K := K) hu), T.kTP, _, rfl, ?_⟩
        refine if_true_of rfl ⟨_, rfl, caught id ?_⟩
        unfold readV
        rw [if_pos c0, if_neg (by rw [no]; decide)]
    · refine if_false_of (decide_eq_false fun z => c0 (V.int.inj z)) ?_
      refine ⟨_, rfl, l, rfl, hl, fun ok => ?_, fun no => ?_⟩
      · unfold readV at q
        rw [if_neg c0, if_pos ok] at q
        exact q
      · refine ⟨true, T.xT.me, fun _ a ha => ?_, fun z => Bool.noConfusion z⟩
        refine ⟨_, rfl, _, _, c.CT, true, rfl, rfl, T.xT.ex, .inl rfl, (fun u hu => kit_ref (K := K) hu), T.kTP, _, rfl, ?_⟩
        refine if_true_of rfl ⟨_, rfl, caught id ?_⟩
        unfold readV
        rw [if_neg c0, if_neg (by rw [no]; decide)]
/-- no number from 0 on, and what it is stays so -/
def BadV (K : PySem.W.Frag) (H : Hp) (v : V) : Prop := natB v = false ∧ ∀ H', Same H H' → ∃ (t : String) (d : PyData), AnyV K H' v t ∧ Dp K H' v d ∧ SeqAt.shaped d = true ∧ PyData.eqv d d = true
theorem BadV.same {H H' : Hp} {v : V} (b : BadV K H v) (s : Same H H') : BadV K H' v := ⟨b.1, fun H2 s2 => b.2 H2 (s.trans s2)⟩
def spBad (K : PySem.W.Frag) : Sp := fun vs H Q _ => ∃ (door : Int) (v : V), vs = [.int door, v] ∧ BadV K H v ∧ ∀ H', Same H H' → Q (.bl true) H'
abbrev sBad : Stmt := top 18
theorem scBad : FnScope ["_law_door", "_law_value", "e"] ["_law_door", "_law_value"] (defScope sBad) := ⟨rfl, rfl, rfl, by decide +kernel, rfl, by decide +kernel, by decide +kernel⟩
theorem ok_bad (T : Txt K mg c) (dN : DefAt K mg "is_natural" sNat ["value"]) (dF : DefAt K mg "figures" sFig ["number"]) (dL : DefAt K mg "letters" sLet ["number"]) {f : Addr} {fd : FuncData} (F : Fun K "_law_bad" "_law_bad" sBad f fd) : FnOk P w K mg base CX0 4 f fd ["_law_door", "_law_value"] (spBad K) := by
  have cF : Cal P w K mg base (L2.CX P w) 3 "figures" (spFmt K c.CN TL.numL) := cal_of dF fun f fd F => ok_fig T dN F
  have cL : Cal P w K mg base (L2.CX P w) 3 "letters" (spFmt K c.CN lettersL) := cal_of dL fun f fd F => ok_let T dN F
  refine F.ok scBad (fun vs H Q E h => ?_) (fun cdv A outer s H vs Q E hr h => ?_)
  · obtain ⟨d, v, rfl, _⟩ := h
    rfl
  · obtain ⟨d, v, rfl, ⟨hb, hv⟩, q⟩ := h
    refine ⟨_, (pss_cons (ps_try_as (i := 2) rfl rfl scBad.nd rfl rfl ⟨rfl, by decide, .inl T.xN.gC⟩ takes0
      (fun W pn xe tk _ => pss_one (ps_if (pt_cmpR op_eq (pv 0) pe_int (nomark _)) (pss_one (ps_expr (pe_cS cF hr (by decide) rfl tk (pa_cons (pv 1) pa_nil)))) (pss_one (ps_expr (pe_cS cL hr (by decide) rfl tk (pa_cons (pv 1) pa_nil))))))
      (fun a oe cls d pn hz hf => pss_one (ps_ret (pe_and (pe_callB (call_isX hz hf) (by rfl) T.z_isinstance (by decide +kernel) (pa_cons (pv 2) (pa_cons (pe_glob (v := .ref c.CP) rfl T.gP rfl) pa_nil))) (pe_one (pe_cmpR (show OpR _ (compareOp .Eq) (rEqD K) from op_eqD hr.units) (pe_xf T.xN.xf T.noN hz hf (pv 2)) (pv 1) (nomark _))))))) (pss_one (ps_ret pe_bl))), ?_⟩
    obtain ⟨t, _, ha, _⟩ := hv H (Same.refl H)
    have suite : ∀ dd H', Same H H' → H' dd = some (.xd [("number", v)]) → ∃ (t : String) (d : PyData), H' dd = some (.xd [("number", v)]) ∧ Dp K H' v d ∧ SeqAt.shaped d = true ∧ PyData.eqv d d = true ∧ Q (.bl true) H' := fun dd H' s e => by
      obtain ⟨t, d, _, h2, h3, h4⟩ := hv H' s
      exact ⟨t, d, e, h2, h3, h4, q H' s⟩
    refine ⟨_, rfl, rfl, _, rfl, ?_⟩
    by_cases c0 : d = 0
    · refine if_true_of (decide_eq_true (congrArg V.int c0)) ?_
      refine ⟨_, rfl, v, rfl, .inr ⟨t, ha, hb, fun dd H' hd s e => ?_⟩⟩
      obtain ⟨_, dt, e1, h2, h3, h4, q'⟩ := suite dd H' s e
      refine ⟨true, T.xN.me, fun _ a ha => ?_, fun z => Bool.noConfusion z⟩
      refine ⟨_, rfl, _, _, c.CN, true, rfl, rfl, T.xN.ex, .inr ⟨dd, _, rfl, e1⟩, (fun u hu => kit_ref (K := K) hu), T.kNP, _, rfl, ?_⟩
      refine if_true_of rfl ⟨_, rfl, rfl, rfl, dd, _, v, rfl, e1, rfl, _, rfl, dt, dt, h2, h2, h3, h3, ?_⟩
      rw [h4]
      exact q'
    · refine if_false_of (decide_eq_false fun z => c0 (V.int.inj z)) ?_
      refine ⟨_, rfl, v, rfl, .inr ⟨t, ha, hb, fun dd H' hd s e => ?_⟩⟩
      obtain ⟨_, dt, e1, h2, h3, h4, q'⟩ := suite dd H' s e
      refine ⟨true, T.xN.me, fun _ a ha => ?_, fun z => Bool.noConfusion z⟩
      refine ⟨_, rfl, _, _, c.CN, true, rfl, rfl, T.xN.ex, .inr ⟨dd, _, rfl, e1⟩, (fun u hu => kit_ref (K := K) hu), T.kNP, _, rfl, ?_⟩
      refine if_true_of rfl ⟨_, rfl, rfl, rfl, dd, _, v, rfl, e1, rfl, _, rfl, dt, dt, h2, h2, h3, h3, ?_⟩
      rw [h4]
      exact q'
def spSpo : Sp := fun vs H Q _ => ∃ (a : Addr) (l : List Nat), vs = [.ref a, .str (S l)] ∧ TapeAt H a ∧ l.length ≤ 1000 ∧ ∀ (m : List Nat) (H' : Hp), m.length ≤ 2000 → Kp a H H' → Q (.str (S m)) H'
abbrev sSpo : Stmt := top 20
theorem scSpo : FnScope ["_law_tape_here", "_law_text", "_law_at", "_law_sign"] ["_law_tape_here", "_law_text"] (defScope sSpo) := ⟨rfl, rfl, rfl, by decide +kernel, rfl, by decide +kernel, by decide +kernel⟩
theorem ok_spo (T : Txt K mg c) (dP : DefAt K mg "_law_pick" sPick ["_law_tape_here", "_law_many"]) {f : Addr} {fd : FuncData} (F : Fun K "_law_spoilt" "_law_spoilt" sSpo f fd) : FnOk P w K mg base CX0 2 f fd ["_law_tape_here", "_law_text"] spSpo := by
  have cP : Cal P w K mg base CX0 1 "_law_pick" spPick := cal_of dP fun f fd F => ok_pick T F
  refine F.ok scSpo (fun vs H Q E h => ?_) (fun cdv A outer s H vs Q E hr h => ?_)
  · obtain ⟨a, l, rfl, _⟩ := h
    rfl
  · obtain ⟨a, l, rfl, t0, hl, q⟩ := h
    refine ⟨_, (pss_cons (ps_set (i := 2) scSpo.nd rfl (Or.inl rfl) (pe_c cP hr (by decide) rfl (pa_cons (pv 0) (pa_cons (pe_op op_add (pe_callB call_lenS (by rfl) T.z_len (by decide +kernel) (pa_cons (pv 1) pa_nil)) pe_int) pa_nil))))
  (pss_cons (ps_set (i := 3) scSpo.nd rfl (Or.inl rfl) (pe_ix ix_list (pe_lst (pa_cons (pe_strS [65] (by decide +kernel)) (pa_cons (pe_strS [32] (by decide +kernel)) (pa_cons (pe_strS [45] (by decide +kernel)) (pa_cons (pe_strS [46] (by decide +kernel)) (pa_cons (pe_strS [95] (by decide +kernel)) (pa_cons (pe_strS [43] (by decide +kernel)) (pa_cons (pe_strS [49, 97] (by decide +kernel)) (pa_cons (pe_strS [97, 49] (by decide +kernel)) (pa_cons (pe_strS [123] (by decide +kernel)) (pa_cons (pe_strS [10] (by decide +kernel)) pa_nil))))))))))) (pe_c cP hr (by decide) rfl (pa_cons (pv 0) (pa_cons pe_int pa_nil))) (fun _ _ => rfl)))
  (pss_cons (ps_if (PW.pt (pw_and (pt_cmpR op_eq (pv 1) (pe_strS [45] (by decide +kernel)) (nomark _)) (pw_and1 (pt_cmpR op_eq (pv 3) (pe_strS [45] (by decide +kernel)) (nomark _))))) (pss_one (ps_ret (pe_strS [45, 45] (by decide +kernel)))) pss_nil)
  (pss_one (ps_ret (pe_op op_catS (pe_op op_catS (pe_slice sl_to (pv 1) po_none (po_some (pv 2))) (pv 3)) (pe_slice sl_from (pv 1) (po_some (pv 2)) po_none))))))), ?_⟩
    refine ⟨_, rfl, _, rfl, l, rfl, by omega, _, _, rfl, rfl, a, _, rfl, t0, by omega, by omega, fun at_ H1 a0 a1 F1 => ?_⟩
    refine ⟨(by show 10 ≤ sizeLine; decide), fun p hp => ?_⟩
    have hpa : p ≠ a := by
      obtain ⟨A, B, e, _⟩ := F1.2
      exact (ne_of_none e hp).symm
    have t1 : TapeAt (upd H1 p (.lst [.str (S [65]), .str (S [32]), .str (S [45]), .str (S [46]), .str (S [95]), .str (S [43]), .str (S [49, 97]), .str (S [97, 49]), .str (S [123]), .str (S [10])])) a := tape_same F1.2 (same_new hp)
    refine ⟨_, rfl, a, 10, rfl, t1, by decide, by decide, fun r H2 r0 r1 F2 => ?_⟩
    have hp2 : H2 p = some (.lst ([[65], [32], [45], [46], [95], [43], [49, 97], [97, 49], [123], [10]].map fun x => V.str (S x))) := by rw [F2.1 p hpa, upd_same]; rfl
    obtain ⟨g, hg, hg2⟩ : ∃ g : List Nat, atI (([[65], [32], [45], [46], [95], [43], [49, 97], [97, 49], [123], [10]] : List (List Nat)).map fun x => V.str (S x)) r = some (.str (S g)) ∧ g.length ≤ 2 := by
      have hk : r.toNat < 10 := by omega
      have e : ∀ j : Nat, j < 10 → ∃ g, ([[65], [32], [45], [46], [95], [43], [49, 97], [97, 49], [123], [10]] : List (List Nat))[j]? = some g ∧ g.length ≤ 2 := by decide +kernel
      obtain ⟨g, e1, e2⟩ := e r.toNat hk
      exact ⟨g, at_of (j := r.toNat) (by omega) (by rw [List.getElem?_map, e1]; rfl), e2⟩
    have kp : Kp a H H2 := (Kp.of F1).trans ((Kp.same F1.2 (same_new hp)).trans (Kp.of F2))
    refine ⟨p, _, r, _, rfl, rfl, SqL.of hp2, hg, ?_⟩
    have fin : Q (.str (S ((l.take at_.toNat ++ g) ++ l.drop at_.toNat))) H2 := q _ _ (by simp only [List.length_append, List.length_take, List.length_drop]; omega) kp
    have two : Q (.str (S [45, 45])) H2 := q _ _ (by decide) kp
    have rest : (tRet (tOp rCatS (tOp rCatS (tSl rSlToS (tVar 1) tNoPart (tPart (tVar 2))) (tVar 3)) (tSl rSlFromS (tVar 1) (tPart (tVar 2)) tNoPart))) { nx := fun _ H' => Q .non H', rt := Q } [some (.ref a), some (.str (S l)), some (.int at_), some (.str (S g))] H2 :=
      ⟨_, rfl, _, rfl, _, rfl, l, _, rfl, rfl, rfl, a0, by omega, _, rfl, l.take at_.toNat, g, rfl, rfl, by rw [List.length_take]; omega, _, rfl, _, rfl, _, rfl, l, _, rfl, rfl, rfl, a0, by omega, _, _, rfl, rfl, by simp only [List.length_append, List.length_take, List.length_drop]; omega, fin⟩
    refine ⟨_, rfl, rfl, _, rfl, ?_⟩
    rw [S_dec]
    by_cases c1 : l = [45]
    · refine if_true_of (decide_eq_true c1) ?_
      refine ⟨_, rfl, rfl, _, rfl, ?_⟩
      rw [S_dec]
      by_cases c2 : g = [45]
      · refine if_true_of (decide_eq_true c2) ?_
        exact two
      · refine if_false_of (decide_eq_false c2) ?_
        exact rest
    · refine if_false_of (decide_eq_false c1) (if_false_of rfl ?_)
      exact rest
def spLong : Sp := fun vs H Q _ => ∃ a : Addr, vs = [.ref a] ∧ TapeAt H a ∧ ∀ H', Kp a H H' → Q (.bl true) H'
abbrev sLong : Stmt := top 21
theorem scLong : FnScope ["_law_tape_here", "_law_word_here", "_law_number_here", "_law_turn", "_law_at"] ["_law_tape_here"] (defScope sLong) := ⟨rfl, rfl, rfl, by decide +kernel, rfl, by decide +kernel, by decide +kernel⟩
theorem ok_long (T : Txt K mg c) (dP : DefAt K mg "_law_pick" sPick ["_law_tape_here", "_law_many"]) (dN : DefAt K mg "is_natural" sNat ["value"]) (dL : DefAt K mg "letters" sLet ["number"]) (dRF : DefAt K mg "read_figures" sRF ["text"]) (dRL : DefAt K mg "read_letters" sRL ["text"]) (dR : DefAt K mg "_law_read" sRead ["_law_door", "_law_text"])
    {f : Addr} {fd : FuncData} (F : Fun K "_law_long_word" "_law_long_word" sLong f fd) : FnOk P w K mg base CX0 5 f fd ["_law_tape_here"] spLong := by
  have cP : Cal P w K mg base CX0 1 "_law_pick" spPick := cal_of dP fun f fd F => ok_pick T F
  have cL : Cal P w K mg base (L2.CX P w) 3 "letters" (spFmt K c.CN lettersL) := cal_of dL fun f fd F => ok_let T dN F
  have cRL : Cal P w K mg base (L2.CX P w) 3 "read_letters" (spRd c.CT letOk letVal) := cal_of dRL fun f fd F => ok_rl T F
  have cR : Cal P w K mg base CX0 4 "_law_read" spRead := cal_of dR fun f fd F => ok_read T dRF dRL F
  refine F.ok scLong (fun vs H Q E h => ?_) (fun cdv A outer s H vs Q E hr h => ?_)
  · obtain ⟨a, rfl, _⟩ := h
    rfl
  · obtain ⟨a, rfl, t0, q⟩ := h
    refine ⟨_, (pss_cons (ps_set (i := 1) scLong.nd rfl (Or.inl rfl) (pe_strS ([] : List Nat) (by decide +kernel)))
  (pss_cons (ps_set (i := 2) scLong.nd rfl (Or.inl rfl) pe_int)
  (pss_cons (ps_for PassesOwn.never rfl (pi_range1 (by rfl) T.z_range (pa_cons (pe_op op_add pe_int (pe_c cP hr (by decide) rfl (pa_cons (pv 0) (pa_cons pe_int pa_nil)))) pa_nil)) (pg_name (i := 3) scLong.nd rfl (Or.inl rfl))
  (pss_cons (ps_set (i := 4) scLong.nd rfl (Or.inl rfl) (pe_c cP hr (by decide) rfl (pa_cons (pv 0) (pa_cons pe_int pa_nil))))
  (pss_cons (ps_set (i := 1) scLong.nd rfl (Or.inl rfl) (pe_op op_catS (pv 1) (pe_ix ix_S (pe_strS [97, 98, 99, 100, 101, 102, 103, 104, 105, 106, 107, 108, 109, 110, 111, 112, 113, 114, 115, 116, 117, 118, 119, 120, 121, 122] (by decide +kernel)) (pv 4) (fun _ _ => rfl))))
  (pss_one (ps_set (i := 2) scLong.nd rfl (Or.inl rfl) (pe_op op_add (pe_op op_add (pe_op op_mul (pv 2) pe_int) (pv 4)) pe_int))))))
  (pss_one (ps_ret (pe_and (pe_cmpR op_eq (pe_c cR hr (by decide) rfl (pa_cons pe_int (pa_cons (pv 1) pa_nil))) (pv 2) (nomark _)) (pe_one (pe_cmpR op_eq (pe_cX cL hr (by decide) rfl (pa_cons (pe_cX cRL hr (by decide) rfl (pa_cons (pv 1) pa_nil)) pa_nil)) (pv 1) (nomark _))))))))), ?_⟩
    refine ⟨_, rfl, a, 30, rfl, t0, by decide, by decide, fun k H1 k0 k1 F1 => ?_⟩
    refine ⟨_, _, rfl, rfl, 1 + k, rfl, by omega, by omega, for_range (lo := 0) (n := (1 + k).toNat) (fun i σ H' => ∃ (ws : List Nat) (v4 v5 : Option V), σ = [some (.ref a), some (.str (S ws)), some (.int (wval ws : Nat)), v4, v5] ∧ ws.length = i ∧ (∀ d ∈ ws, 97 ≤ d ∧ d ≤ 122) ∧ Frm a H H')
      ⟨[], none, none, rfl, rfl, (fun _ h => nomatch h), F1⟩ ?_ ?_⟩
    · rintro i σ H2 hi ⟨ws, v4, v5, rfl, hw, hlow, F2⟩
      refine ⟨_, rfl, a, 26, rfl, F2.2, by decide, by decide, fun r H3 r0 r1 F3 => ?_⟩
      refine ⟨_, rfl, _, rfl, alphaL, r, _, rfl, rfl, by decide, at_alpha r0 r1, ws, [97 + r.toNat], rfl, rfl, (by rw [List.length_singleton]; omega), ?_⟩
      refine ⟨_, rfl, _, _, rfl, rfl, .inr ⟨by decide, by decide⟩, _, rfl, _, _, rfl, rfl, _, _, rfl, rfl, ?_⟩
      refine ⟨ws ++ [97 + r.toNat], some (.int (0 + (i : Int))), some (.int r), ?_, by rw [List.length_append, hw, List.length_singleton], fun d hd => ?_, F2.trans F3⟩
      · rw [wval_snoc]
        exact congrArg (fun z => [some (V.ref a), some (V.str (S (ws ++ [97 + r.toNat]))), some (V.int z), some (V.int (0 + (i : Int))), some (V.int r)]) (by omega)
      · rcases List.mem_append.mp hd with hd | hd
        · exact hlow d hd
        · rw [List.mem_singleton.mp hd]
          omega
    · rintro σ H2 ⟨ws, v4, v5, rfl, hw, hlow, F2⟩
      have hne : ws ≠ [] := fun e => by
        rw [e] at hw
        simp at hw
        omega
      have h45 : ws ≠ [45] := fun e => by
        have := hlow 45 (by rw [e]; simp)
        omega
      have hok : letOk ws = true := by
        rw [letOk_split h45, all_low.mpr hlow]
        cases ws with
        | nil => exact absurd rfl hne
        | cons d r => rfl
      have hval : letVal ws = wval ws := by unfold letVal; rw [if_neg h45]
      have hlt : wval ws < 10 ^ 60 := by
        have e := wval_lt ws.length ws rfl hlow
        have e2 : 27 ^ ws.length ≤ 27 ^ 31 := Nat.pow_le_pow_right (by decide) (by omega)
        have e3 : (27 : Nat) ^ 31 < 10 ^ 60 := by decide +kernel
        omega
      refine ⟨_, rfl, 1, ws, rfl, by omega, _, rfl, rfl, _, rfl, ?_⟩
      have hrv : readV 1 ws = (wval ws : Int) := by
        unfold readV
        rw [if_neg (by decide), if_pos hok, hval]
      refine if_true_of (by rw [hrv]; exact decide_eq_true rfl) ?_
      refine ⟨_, rfl, ws, rfl, by omega, fun _ => ?_, fun no => ?_⟩
      · rw [hval]
        refine ⟨_, rfl, .inl ⟨wval ws, rfl, hlt, fun H3 s3 => ?_⟩⟩
        refine ⟨_, rfl, rfl, ?_⟩
        rw [S_dec, lettersL_low (wval_pos hne hlow), word_wval _ ws rfl hlow, decide_eq_true rfl]
        exact q _ ((Kp.of F2).trans (Kp.same F2.2 s3))
      · rw [hok] at no
        cases no
/-! ### which texts are refused -/
theorem fig_no {l : List Nat} {d : Nat} (h : d ∈ l) (hd : ¬ (48 ≤ d ∧ d ≤ 57)) : figOk l = false := by
  refine figOk_no ?_
  rw [Bool.and_eq_false_iff]
  right
  rw [Bool.eq_false_iff]
  exact fun z => hd (all_dig.mp z d h)
theorem let_no {l : List Nat} {d : Nat} (h : d ∈ l) (hd : ¬ (97 ≤ d ∧ d ≤ 122)) (h45 : l ≠ [45]) : letOk l = false := by
  rw [letOk_split h45, Bool.and_eq_false_iff]
  right
  rw [Bool.eq_false_iff]
  exact fun z => hd (all_low.mp z d h)
theorem readV_no {door : Int} {l : List Nat} (h1 : figOk l = false) (h2 : letOk l = false) : readV door l = -1 := by
  unfold readV
  rw [h1, h2]
  split <;> rfl
theorem num_mem (n : Nat) : ∃ d ∈ TL.numL n, 48 ≤ d ∧ d ≤ 57 := by
  cases e : TL.numL n with
  | nil => exact absurd e (TL.numL_ne n)
  | cons d r => exact ⟨d, List.mem_cons_self .., TL.numL_digits n d (by rw [e]; exact List.mem_cons_self ..)⟩
theorem let_mem (n : Nat) : ∃ d ∈ lettersL n, ¬ (48 ≤ d ∧ d ≤ 57) := by
  unfold lettersL
  split
  · exact ⟨45, by simp, by omega⟩
  · cases e : wordN n with
    | nil => exact absurd e (wordN_ne (by omega))
    | cons d r => exact ⟨d, List.mem_cons_self .., by have := wordN_low n d (by rw [e]; exact List.mem_cons_self ..); omega⟩
theorem read_num (n : Nat) : readV 0 (TL.numL n) = (n : Int) := by
  unfold readV
  rw [if_pos rfl, if_pos (figOk_num n), figVal_num]
theorem read_let (n : Nat) : readV 1 (lettersL n) = (n : Int) := by
  unfold readV
  rw [if_neg (by decide), if_pos (letOk_word n), letVal_word]
theorem num_not45 (n : Nat) : TL.numL n ≠ [45] := fun e => by
  have := TL.numL_digits n 45 (by rw [e]; simp)
  omega
theorem read_let_num (n : Nat) : readV 1 (TL.numL n) = -1 := by
  obtain ⟨d, hd, h⟩ := num_mem n
  unfold readV
  rw [if_neg (by decide), let_no hd (by omega) (num_not45 n)]
  rfl
theorem read_fig_let (n : Nat) : readV 0 (lettersL n) = -1 := by
  obtain ⟨d, hd, h⟩ := let_mem n
  unfold readV
  rw [if_pos rfl, fig_no hd h]
  rfl
theorem read_zero (n : Nat) : readV 0 ([48] ++ TL.numL n) = -1 := by
  have e : figOk ([48] ++ TL.numL n) = false := by
    cases e : TL.numL n with
    | nil => exact absurd e (TL.numL_ne n)
    | cons d r =>
      unfold figOk
      simp
  unfold readV
  rw [if_pos rfl, e]
  rfl
theorem read_minus (n : Nat) : readV 0 ([45] ++ TL.numL n) = -1 := by
  unfold readV
  rw [if_pos rfl, fig_no (d := 45) (by simp) (by omega)]
  rfl
theorem read_blank (door : Int) (l : List Nat) : readV door ([32] ++ l) = -1 := readV_no (fig_no (d := 32) (by simp) (by omega)) (let_no (d := 32) (by simp) (by omega) (by simp))
theorem read_none (door : Int) : readV door [] = -1 := readV_no (by decide) (by decide)
theorem read_spoilt {door : Int} {m : List Nat} {d e : Nat} (h1 : d ∈ m) (h2 : d ∉ ([48, 49, 50, 51, 52, 53, 54, 55, 56, 57] : List Nat)) (h3 : e ∈ m) (h4 : e ∉ alphaL) (h45 : m ≠ [45]) : readV door m = -1 :=
  readV_no (fig_no h1 fun z => h2 (by
    have q : ∀ j : Nat, j < 58 → 48 ≤ j → j ∈ ([48, 49, 50, 51, 52, 53, 54, 55, 56, 57] : List Nat) := by decide +kernel
    exact q d (by omega) z.1)) (let_no h3 (fun z => h4 (by
    have q : ∀ j : Nat, j < 123 → 97 ≤ j → j ∈ alphaL := by decide +kernel
    exact q e (by omega) z.1)) h45)
theorem later_no {n : Nat} (h : 0 < n) : leIS ((lettersL (n + 1)).length : Int) ((lettersL n).length : Int) (lettersL (n + 1)) (lettersL n) = false := by
  rw [lettersL_low h, lettersL_low (show 0 < n + 1 by omega)]
  obtain ⟨h1, h2⟩ := word_order (show n < n + 1 by omega)
  unfold leIS
  by_cases e : ((wordN (n + 1)).length : Int) = ((wordN n).length : Int)
  · have lt := h2 (by omega)
    rw [if_pos e, if_neg fun z => by rw [z] at lt; exact absurd lt (List.lt_irrefl _), decide_eq_true lt]
    rfl
  · rw [if_neg e]
    exact decide_eq_false (by omega)
theorem bad_flat {H : Hp} {v : V} {t : String} {d : PyData} (hn : natB v = false) (h : ∀ H', AnyV K H' v t ∧ Dp K H' v d) (hs : SeqAt.shaped d = true) (he : PyData.eqv d d = true) : BadV K H v := ⟨hn, fun H' _ => ⟨t, d, (h H').1, (h H').2, hs, he⟩⟩
def spLaw (K : PySem.W.Frag) : Sp := fun vs H Q _ => ∃ (a : Addr) (ns : List Int), vs = [.ref a] ∧ SqL K H a (ns.map V.int) ∧ ns.length ≤ 63 ∧ ∀ H', Q (.bl true) H'
abbrev sLaw : Stmt := top 22
theorem scLaw : FnScope ["_law_script", "_law_tape_here", "_law_number_here", "_law_text", "_law_word_here", "_law_later", "_law_door", "_law_wrong", "_law_spoilt_here"] ["_law_script"] (defScope sLaw) := ⟨rfl, rfl, rfl, by decide +kernel, rfl, by decide +kernel, by decide +kernel⟩
theorem ok_law (T : Txt K mg c) (d__law_tape : DefAt K mg "_law_tape" sTape ["_law_script", "_law_k"]) (d__law_pick : DefAt K mg "_law_pick" sPick ["_law_tape_here", "_law_many"]) (d_is_natural : DefAt K mg "is_natural" sNat ["value"]) (d_figures : DefAt K mg "figures" sFig ["number"]) (d_letters : DefAt K mg "letters" sLet ["number"]) (d_read_figures : DefAt K mg "read_figures" sRF ["text"]) (d_read_letters : DefAt K mg "read_letters" sRL ["text"]) (d__law_word : DefAt K mg "_law_word" sWord ["_law_number_here"]) (d__law_number : DefAt K mg "_law_number" sNum ["_law_tape_here"]) (d__law_read : DefAt K mg "_law_read" sRead ["_law_door", "_law_text"]) (d__law_bad : DefAt K mg "_law_bad" sBad ["_law_door", "_law_value"]) (d__law_spoilt : DefAt K mg "_law_spoilt" sSpo ["_law_tape_here", "_law_text"]) (d__law_long_word : DefAt K mg "_law_long_word" sLong ["_law_tape_here"])
    {f : Addr} {fd : FuncData} (F : Fun K "law" "law" sLaw f fd) : FnOk P w K mg base CX0 6 f fd ["_law_script"] (spLaw K) := by
  have cT : Cal P w K mg base CX0 1 "_law_tape" (spTape K) := cal_of d__law_tape fun f fd F => ok_tape T F
  have cNm : Cal P w K mg base CX0 2 "_law_number" spNum := cal_of d__law_number fun f fd F => ok_num T d__law_pick F
  have cF : Cal P w K mg base (L2.CX P w) 3 "figures" (spFmt K c.CN TL.numL) := cal_of d_figures fun f fd F => ok_fig T d_is_natural F
  have cL : Cal P w K mg base (L2.CX P w) 3 "letters" (spFmt K c.CN lettersL) := cal_of d_letters fun f fd F => ok_let T d_is_natural F
  have cW : Cal P w K mg base CX0 1 "_law_word" spWord := cal_of d__law_word fun f fd F => ok_word T F
  have cR : Cal P w K mg base CX0 4 "_law_read" spRead := cal_of d__law_read fun f fd F => ok_read T d_read_figures d_read_letters F
  have cB : Cal P w K mg base CX0 4 "_law_bad" (spBad K) := cal_of d__law_bad fun f fd F => ok_bad T d_is_natural d_figures d_letters F
  have cS : Cal P w K mg base CX0 2 "_law_spoilt" spSpo := cal_of d__law_spoilt fun f fd F => ok_spo T d__law_pick F
  have cLW : Cal P w K mg base CX0 5 "_law_long_word" spLong := cal_of d__law_long_word fun f fd F => ok_long T d__law_pick d_is_natural d_letters d_read_figures d_read_letters d__law_read F
  refine F.ok scLaw (fun vs H Q E h => ?_) (fun cdv A outer s H vs Q E hr h => ?_)
  · obtain ⟨a, ns, rfl, _⟩ := h
    rfl
  · obtain ⟨a, ns, rfl, hS, hlen, q⟩ := h
    refine ⟨_, (pss_cons (ps_set (i := 1) scLaw.nd rfl (Or.inl rfl) (pe_c cT hr (by decide) rfl (pa_cons (pv 0) (pa_cons pe_int pa_nil))))
  (pss_cons (ps_if (pt_not (pt_val (pe_c cLW hr (by decide) rfl (pa_cons (pe_c cT hr (by decide) rfl (pa_cons (pv 0) (pa_cons pe_int pa_nil))) pa_nil)))) (pss_one (ps_ret pe_bl)) pss_nil)
  (pss_cons (ps_set (i := 2) scLaw.nd rfl (Or.inl rfl) (pe_c cNm hr (by decide) rfl (pa_cons (pv 1) pa_nil)))
  (pss_cons (ps_set (i := 3) scLaw.nd rfl (Or.inl rfl) (pe_cX cF hr (by decide) rfl (pa_cons (pv 2) pa_nil)))
  (pss_cons (ps_set (i := 4) scLaw.nd rfl (Or.inl rfl) (pe_cX cL hr (by decide) rfl (pa_cons (pv 2) pa_nil)))
  (pss_cons (ps_if (PW.pt (pw_or (pt_cmpR op_ne (pv 3) (pe_callTy call_str_int (by rfl) T.z_str (by decide +kernel) (pa_cons (pv 2) pa_nil)) (nomark _)) (pw_or (pt_cmpR op_ne (pv 4) (pe_c cW hr (by decide) rfl (pa_cons (pv 2) pa_nil)) (nomark _)) (pw_or (pt_cmpR op_ne (pe_cX cF hr (by decide) rfl (pa_cons (pv 2) pa_nil)) (pv 3) (nomark _)) (pw_or1 (pt_cmpR op_ne (pe_cX cL hr (by decide) rfl (pa_cons (pv 2) pa_nil)) (pv 4) (nomark _))))))) (pss_one (ps_ret pe_bl)) pss_nil)
  (pss_cons (ps_if (PW.pt (pw_or (pt_cmpR op_ne (pe_c cR hr (by decide) rfl (pa_cons pe_int (pa_cons (pv 3) pa_nil))) (pv 2) (nomark _)) (pw_or1 (pt_cmpR op_ne (pe_c cR hr (by decide) rfl (pa_cons pe_int (pa_cons (pv 4) pa_nil))) (pv 2) (nomark _))))) (pss_one (ps_ret pe_bl)) pss_nil)
  (pss_cons (ps_set (i := 5) scLaw.nd rfl (Or.inl rfl) (pe_cX cL hr (by decide) rfl (pa_cons (pe_op op_add (pv 2) pe_int) pa_nil)))
  (C8.pss_cut (ps_if (PW.pt (pw_and (pt_cmpR op_gt (pv 2) pe_int (nomark _)) (pw_and1 (pt_cmpR (op_leIS hr.units0) (pe_tup (pa_cons (pe_callB call_lenS (by rfl) T.z_len (by decide +kernel) (pa_cons (pv 5) pa_nil)) (pa_cons (pv 5) pa_nil))) (pe_tup (pa_cons (pe_callB call_lenS (by rfl) T.z_len (by decide +kernel) (pa_cons (pv 4) pa_nil)) (pa_cons (pv 4) pa_nil))) (nomark _))))) (pss_one (ps_ret pe_bl)) pss_nil)
  (pss_cons (ps_for PassesOwn.never rfl (pi_range1 (by rfl) T.z_range (pa_cons pe_int pa_nil)) (pg_name (i := 6) scLaw.nd rfl (Or.inl rfl))
  (pss_cons (ps_for PassesOwn.never rfl (pi_list (pe_lst (pa_cons (pe_op op_sub (pe_un un_neg pe_int) (pv 2)) (pa_cons pe_bl (pa_cons pe_bl (pa_cons (pe_strS [51] (by decide +kernel)) (pa_cons (pe_strS [97] (by decide +kernel)) (pa_cons pe_non (pa_cons (pe_lst (pa_cons pe_int pa_nil)) (pa_cons (pe_tup (pa_cons pe_int pa_nil)) pa_nil)))))))))) (pg_name (i := 7) scLaw.nd rfl (Or.inl rfl))
  (pss_one (ps_if (pt_not (pt_val (pe_c cB hr (by decide) rfl (pa_cons (pv 6) (pa_cons (pv 7) pa_nil))))) (pss_one (ps_ret pe_bl)) pss_nil)))
  (pss_cons (ps_set (i := 8) scLaw.nd rfl (Or.inl rfl) (pe_c cS hr (by decide) rfl (pa_cons (pv 1) (pa_cons (pe_ix ix_list (pe_lst (pa_cons (pv 3) (pa_cons (pv 4) pa_nil))) (pv 6) (fun _ _ => rfl)) pa_nil))))
  (C8.pss_cut (ps_if (PW.pt (pw_and (pt_cmpR op_ne (pe_bm PySem.F.plainAttrs_str PySem.F.slot_str_strip PySem.F.type_str_strip mt_stripS (pv 8) (pa_cons (pe_strS [48, 49, 50, 51, 52, 53, 54, 55, 56, 57] (by decide +kernel)) pa_nil)) (pe_strS ([] : List Nat) (by decide +kernel)) (nomark _)) (pw_and (pt_cmpR op_ne (pe_bm PySem.F.plainAttrs_str PySem.F.slot_str_strip PySem.F.type_str_strip mt_stripS (pv 8) (pa_cons (pe_strS [97, 98, 99, 100, 101, 102, 103, 104, 105, 106, 107, 108, 109, 110, 111, 112, 113, 114, 115, 116, 117, 118, 119, 120, 121, 122] (by decide +kernel)) pa_nil)) (pe_strS ([] : List Nat) (by decide +kernel)) (nomark _)) (pw_and1 (pt_cmpR op_ne (pv 8) (pe_strS [45] (by decide +kernel)) (nomark _)))))) (pss_one (ps_if (pt_cmpR op_ne (pe_c cR hr (by decide) rfl (pa_cons (pv 6) (pa_cons (pv 8) pa_nil))) (pe_un un_neg pe_int) (nomark _)) (pss_one (ps_ret pe_bl)) pss_nil)) pss_nil)
  (pss_one (ps_if (PW.pt (pw_or (pt_cmpR op_ne (pe_c cR hr (by decide) rfl (pa_cons (pv 6) (pa_cons (pe_strS ([] : List Nat) (by decide +kernel)) pa_nil))) (pe_un un_neg pe_int) (nomark _)) (pw_or1 (pt_cmpR op_ne (pe_c cR hr (by decide) rfl (pa_cons (pv 6) (pa_cons (pe_op op_catS (pe_strS [32] (by decide +kernel)) (pe_ix ix_list (pe_lst (pa_cons (pv 3) (pa_cons (pv 4) pa_nil))) (pv 6) (fun _ _ => rfl))) pa_nil))) (pe_un un_neg pe_int) (nomark _))))) (pss_one (ps_ret pe_bl)) pss_nil))))))
  (pss_cons (ps_if (PW.pt (pw_or (pt_cmpR op_ne (pe_c cR hr (by decide) rfl (pa_cons pe_int (pa_cons (pe_op op_catS (pe_strS [48] (by decide +kernel)) (pv 3)) pa_nil))) (pe_un un_neg pe_int) (nomark _)) (pw_or1 (pt_cmpR op_ne (pe_c cR hr (by decide) rfl (pa_cons pe_int (pa_cons (pv 4) pa_nil))) (pe_un un_neg pe_int) (nomark _))))) (pss_one (ps_ret pe_bl)) pss_nil)
  (pss_cons (ps_if (PW.pt (pw_or (pt_cmpR op_ne (pe_c cR hr (by decide) rfl (pa_cons pe_int (pa_cons (pv 3) pa_nil))) (pe_un un_neg pe_int) (nomark _)) (pw_or1 (pt_cmpR op_ne (pe_c cR hr (by decide) rfl (pa_cons pe_int (pa_cons (pe_op op_catS (pe_strS [45] (by decide +kernel)) (pv 3)) pa_nil))) (pe_un un_neg pe_int) (nomark _))))) (pss_one (ps_ret pe_bl)) pss_nil)
  (pss_one (ps_ret (pe_and (pe_cmpR op_eq (pe_c cR hr (by decide) rfl (pa_cons pe_int (pa_cons (pe_op op_catS (pe_op op_mulS (pe_strS [97] (by decide +kernel)) pe_int) (pe_strS [48] (by decide +kernel))) pa_nil))) (pe_un un_neg pe_int) (nomark _)) (pe_and (pe_cmpR op_eq (pe_c cR hr (by decide) rfl (pa_cons pe_int (pa_cons (pe_strS [48] (by decide +kernel)) pa_nil))) pe_int (nomark _)) (pe_one (pe_cmpR op_eq (pe_c cR hr (by decide) rfl (pa_cons pe_int (pa_cons (pe_strS [45] (by decide +kernel)) pa_nil))) pe_int (nomark _))))))))))))))))))), ?_⟩
    refine ⟨_, rfl, a, ns, 0, rfl, hS, by decide, by decide, fun tp TA TB htp htk => ?_⟩
    refine ⟨_, rfl, a, ns, 1, rfl, (same_new htp).seq hS, by decide, by decide, fun tq QA QB htq hqk => ?_⟩
    refine ⟨tq, rfl, ⟨QA, QB, upd_same, hqk⟩, fun H3 k3 => ⟨_, rfl, ?_⟩⟩
    refine if_false_of rfl ?_
    have hpq : tp ≠ tq := ne_of_none upd_same htq
    have t3 : TapeAt H3 tp := tape_other ⟨TA, TB, by rw [upd_ne hpq, upd_same], htk⟩ hpq k3
    refine ⟨_, rfl, tp, rfl, t3, fun n H4 hn F4 => ?_⟩
    have hn60 : n < 10 ^ 60 := Nat.lt_of_le_of_lt hn (by decide +kernel)
    have hn60' : n + 1 < 10 ^ 60 := Nat.lt_of_le_of_lt (Nat.succ_le_succ hn) (by decide +kernel)
    have hn32 : n < 10 ^ 32 := Nat.lt_of_le_of_lt hn (by decide +kernel)
    have hlog : ((n : Nat) : Int).natAbs.log2 < 1920 := by
      rw [Int.natAbs_natCast]
      by_cases h0 : n = 0
      · subst h0
        decide
      · exact (Nat.log2_lt h0).mpr (Nat.lt_trans hn60 (by decide +kernel))
    have lF : (TL.numL n).length ≤ 60 := TL.numL_len (by decide) hn60
    have lW : (lettersL n).length ≤ 60 := by
      unfold lettersL
      split
      · decide
      · exact Nat.le_trans (wordN_len (k := 43) (Nat.lt_trans hn60 (by decide +kernel))) (by decide)
    have lW' : (lettersL (n + 1)).length ≤ 60 := by
      rw [lettersL_low (show 0 < n + 1 by omega)]
      exact Nat.le_trans (wordN_len (k := 43) (Nat.lt_trans hn60' (by decide +kernel))) (by decide)
    -- text, word
    refine ⟨_, rfl, _, rfl, .inl ⟨n, rfl, hn60, fun H5 s5 => ?_⟩⟩
    refine ⟨_, rfl, _, rfl, .inl ⟨n, rfl, hn60, fun H6 s6 => ?_⟩⟩
    have t6 : TapeAt H6 tp := tape_same (tape_same F4.2 s5) s6
    -- the four looks
    refine ⟨_, rfl, _, rfl, _, rfl, hlog, rfl, _, rfl, ?_⟩
    refine if_false_of (by rw [SX.num_S, decide_eq_true rfl]; rfl) ?_
    refine ⟨_, rfl, _, rfl, n, rfl, hn32, rfl, _, rfl, ?_⟩
    refine if_false_of (by rw [decide_eq_true rfl]; rfl) ?_
    refine ⟨_, rfl, _, rfl, .inl ⟨n, rfl, hn60, fun H7 s7 => ⟨_, rfl, rfl, _, rfl, ?_⟩⟩⟩
    refine if_false_of (by rw [decide_eq_true rfl]; rfl) ?_
    refine ⟨_, rfl, _, rfl, .inl ⟨n, rfl, hn60, fun H8 s8 => ⟨_, rfl, rfl, _, rfl, ?_⟩⟩⟩
    refine if_false_of (by rw [decide_eq_true rfl]; rfl) ?_
    have t8 : TapeAt H8 tp := tape_same (tape_same t6 s7) s8
    -- read again
    refine ⟨_, rfl, 0, TL.numL n, rfl, by omega, _, rfl, rfl, _, rfl, ?_⟩
    refine if_false_of (by rw [read_num, decide_eq_true rfl]; rfl) ?_
    refine ⟨_, rfl, 1, lettersL n, rfl, by omega, _, rfl, rfl, _, rfl, ?_⟩
    refine if_false_of (by rw [read_let, decide_eq_true rfl]; rfl) ?_
    -- the next word
    refine ⟨_, rfl, _, _, rfl, rfl, _, rfl, .inl ⟨n + 1, congrArg V.int (by omega), hn60', fun H9 s9 => ?_⟩⟩
    have t9 : TapeAt H9 tp := tape_same t8 s9
    refine ⟨fun σ' H' => σ' = [some (.ref a), some (.ref tp), some (.int n), some (.str (S (TL.numL n))), some (.str (S (lettersL n))), some (.str (S (lettersL (n + 1)))), none, none, none] ∧ TapeAt H' tp, ?_, ?_⟩
    · refine ⟨_, rfl, _, _, rfl, rfl, _, rfl, ?_⟩
      by_cases h0 : 0 < n
      · refine if_true_of (decide_eq_true (by omega)) ?_
        refine ⟨_, rfl, _, rfl, by omega, _, rfl, (by show 2 ≤ sizeLine; decide), fun p hp => ?_⟩
        refine ⟨_, rfl, _, rfl, by omega, _, rfl, (by show 2 ≤ sizeLine; decide), fun p2 hp2 => ?_⟩
        refine ⟨p, p2, _, _, lettersL (n + 1), lettersL n, rfl, rfl, SqT.of (by rw [upd_ne (ne_of_none upd_same hp2), upd_same]), SqT.of upd_same, _, rfl, ?_⟩
        refine if_false_of (later_no h0) ?_
        exact ⟨rfl, tape_same (tape_same t9 (same_new hp)) (same_new hp2)⟩
      · refine if_false_of (decide_eq_false (by omega)) (if_false_of rfl ?_)
        exact ⟨rfl, t9⟩
    · rintro σ' H10 ⟨rfl, t10⟩
      refine ⟨2, rfl, by decide, by decide, for_range (lo := 0) (n := 2) (fun i σ H' => ∃ v6 v7 v8 : Option V, σ = [some (.ref a), some (.ref tp), some (.int n), some (.str (S (TL.numL n))), some (.str (S (lettersL n))), some (.str (S (lettersL (n + 1)))), v6, v7, v8] ∧ TapeAt H' tp)
        ⟨none, none, none, rfl, t10⟩ ?_ ?_⟩
      · rintro i σ H11 hi ⟨v6, v7, v8, rfl, t11⟩
        obtain ⟨Y, hY, lY⟩ : ∃ Y : List Nat, atI ([.str (S (TL.numL n)), .str (S (lettersL n))] : List V) (0 + (i : Int)) = some (.str (S Y)) ∧ Y.length ≤ 60 := by
          match i, hi with
          | 0, _ => exact ⟨_, rfl, lF⟩
          | 1, _ => exact ⟨_, rfl, lW⟩
        refine ⟨_, rfl, _, rfl, _, _, rfl, rfl, (by show 1 ≤ sizeLine; decide), fun p hp => ?_⟩
        refine ⟨(by show 1 ≤ sizeLine; decide), fun p2 hp2 => ?_⟩
        refine ⟨(by show 8 ≤ sizeLine; decide), fun L hL => ?_⟩
        have sL : Same H11 (upd (upd (upd H11 p (.lst [.int 3])) p2 (.tup [.int 3])) L (.lst [.int (-1 - (n : Int)), .bl true, .bl false, .str (S [51]), .str (S [97]), .non, .ref p, .ref p2])) := (same_new hp).trans ((same_new hp2).trans (same_new hL))
        have e1 : (upd (upd (upd H11 p (.lst [.int 3])) p2 (.tup [.int 3])) L (.lst [.int (-1 - (n : Int)), .bl true, .bl false, .str (S [51]), .str (S [97]), .non, .ref p, .ref p2])) p = some (.lst [.int 3]) := (same_new hL) _ _ ((same_new hp2) _ _ upd_same)
        have e2 : (upd (upd (upd H11 p (.lst [.int 3])) p2 (.tup [.int 3])) L (.lst [.int (-1 - (n : Int)), .bl true, .bl false, .str (S [51]), .str (S [97]), .non, .ref p, .ref p2])) p2 = some (.tup [.int 3]) := (same_new hL) _ _ upd_same
        have e3 : (upd (upd (upd H11 p (.lst [.int 3])) p2 (.tup [.int 3])) L (.lst [.int (-1 - (n : Int)), .bl true, .bl false, .str (S [51]), .str (S [97]), .non, .ref p, .ref p2])) L = some (.lst [.int (-1 - (n : Int)), .bl true, .bl false, .str (S [51]), .str (S [97]), .non, .ref p, .ref p2]) := upd_same
        generalize upd (upd (upd H11 p (.lst [.int 3])) p2 (.tup [.int 3])) L (.lst [.int (-1 - (n : Int)), .bl true, .bl false, .str (S [51]), .str (S [97]), .non, .ref p, .ref p2]) = HL at sL e1 e2 e3 ⊢
        have bad : ∀ y ∈ ([.int (-1 - (n : Int)), .bl true, .bl false, .str (S [51]), .str (S [97]), .non, .ref p, .ref p2] : List V), BadV K HL y := by
          intro y hy
          simp only [List.mem_cons, List.not_mem_nil, or_false] at hy
          rcases hy with rfl | rfl | rfl | rfl | rfl | rfl | rfl | rfl
          · exact bad_flat (decide_eq_false (by omega)) (fun H' => ⟨.int _, .int _⟩) (by first | rfl | simp [SeqAt.shaped, PyData.canLay0, PyData.depth]) (by first | rfl | simp [PyData.eqv])
          · exact bad_flat rfl (fun H' => ⟨.bl _, .bl _⟩) (by decide +kernel) (by decide +kernel)
          · exact bad_flat rfl (fun H' => ⟨.bl _, .bl _⟩) (by decide +kernel) (by decide +kernel)
          · exact bad_flat rfl (fun H' => ⟨.str _, .str _⟩) (by decide +kernel) (by decide +kernel)
          · exact bad_flat rfl (fun H' => ⟨.str _, .str _⟩) (by decide +kernel) (by decide +kernel)
          · exact bad_flat rfl (fun H' => ⟨.non, .non⟩) (by decide +kernel) (by decide +kernel)
          · exact ⟨rfl, fun H' s' => ⟨"list", .list [.int 3], .lst (s' _ _ e1), .lst (SqL.of (s' _ _ e1)) (.cons (.int 3) .nil), by decide +kernel, by decide +kernel⟩⟩
          · exact ⟨rfl, fun H' s' => ⟨"tuple", .tuple [.int 3], .tup (s' _ _ e2), .tup (SqT.of (s' _ _ e2)) (.cons (.int 3) .nil), by decide +kernel, by decide +kernel⟩⟩
        refine ⟨L, rfl, ⟨_, SqL.of e3⟩, for_list (K := K) (a := L) (xs := [.int (-1 - (n : Int)), .bl true, .bl false, .str (S [51]), .str (S [97]), .non, .ref p, .ref p2]) (fun j σ H' => ∃ v7 : Option V, σ = [some (.ref a), some (.ref tp), some (.int n), some (.str (S (TL.numL n))), some (.str (S (lettersL n))), some (.str (S (lettersL (n + 1)))), some (.int (0 + (i : Int))), v7, v8] ∧ Same HL H')
          ⟨v7, rfl, Same.refl _⟩ (fun j σ H' _ ⟨_, _, sm⟩ => SqL.of (sm _ _ e3)) ?_ ?_⟩
        · rintro j y σ H12 hj ⟨v7, rfl, s12⟩
          refine ⟨_, rfl, _, rfl, _, y, rfl, (bad y (List.mem_of_getElem? hj)).same s12, fun H13 s13 => ⟨_, rfl, ?_⟩⟩
          refine if_false_of rfl ?_
          exact ⟨some y, rfl, s12.trans s13⟩
        · rintro σ H12 ⟨v7, rfl, s12⟩
          have t12 : TapeAt H12 tp := tape_same t11 (sL.trans s12)
          refine ⟨_, rfl, _, rfl, _, rfl, (by show 2 ≤ sizeLine; decide), fun p3 hp3 => ?_⟩
          refine ⟨_, rfl, p3, _, _, _, rfl, rfl, SqL.of upd_same, hY, tp, Y, rfl, tape_same t12 (same_new hp3), by omega, fun m H13 hm k13 => ?_⟩
          refine ⟨fun σ' H' => σ' = [some (.ref a), some (.ref tp), some (.int n), some (.str (S (TL.numL n))), some (.str (S (lettersL n))), some (.str (S (lettersL (n + 1)))), some (.int (0 + (i : Int))), v7, some (.str (S m))] ∧ H' = H13, ?_, ?_⟩
          · refine ⟨_, rfl, rfl, m, _, rfl, rfl, by omega, fun b hb => ⟨rfl, _, rfl, ?_⟩⟩
            rw [S_dec]
            by_cases b0 : b = []
            · refine if_false_of (by rw [decide_eq_true b0]; rfl) (if_false_of rfl ?_)
              exact ⟨rfl, rfl⟩
            refine if_true_of (by rw [decide_eq_false b0]; rfl) ?_
            obtain ⟨c1, hc1, hn1⟩ := hb.resolve_left b0
            refine ⟨_, rfl, rfl, m, _, rfl, rfl, by omega, fun b' hb' => ⟨rfl, _, rfl, ?_⟩⟩
            rw [S_dec]
            by_cases b1 : b' = []
            · refine if_false_of (by rw [decide_eq_true b1]; rfl) (if_false_of rfl ?_)
              exact ⟨rfl, rfl⟩
            refine if_true_of (by rw [decide_eq_false b1]; rfl) ?_
            obtain ⟨c2, hc2, hn2⟩ := hb'.resolve_left b1
            refine ⟨_, rfl, rfl, _, rfl, ?_⟩
            rw [S_dec]
            by_cases b2 : m = [45]
            · refine if_false_of (by rw [decide_eq_true b2]; rfl) ?_
              exact ⟨rfl, rfl⟩
            refine if_true_of (by rw [decide_eq_false b2]; rfl) ?_
            refine ⟨_, rfl, _, rfl, _, m, rfl, by omega, _, rfl, rfl, _, rfl, ?_⟩
            refine if_false_of (by rw [read_spoilt hc1 hn1 hc2 hn2 b2, decide_eq_true rfl]; rfl) ?_
            exact ⟨rfl, rfl⟩
          · rintro σ' H14 ⟨rfl, rfl⟩
            refine ⟨_, rfl, _, [], rfl, by decide, _, rfl, rfl, _, rfl, ?_⟩
            refine if_false_of (by rw [read_none, decide_eq_true rfl]; rfl) ?_
            refine ⟨_, rfl, _, rfl, _, rfl, (by show 2 ≤ sizeLine; decide), fun p4 hp4 => ?_⟩
            refine ⟨_, rfl, p4, _, _, _, rfl, rfl, SqL.of upd_same, hY, [32], Y, rfl, rfl, (by rw [List.length_singleton]; omega), _, [32] ++ Y, rfl, (by rw [List.length_append, List.length_singleton]; omega), _, rfl, rfl, _, rfl, ?_⟩
            refine if_false_of (by rw [read_blank, decide_eq_true rfl]; rfl) ?_
            exact ⟨_, _, _, rfl, tape_same k13.2 (same_new hp4)⟩
      · rintro σ H11 ⟨v6, v7, v8, rfl, t11⟩
        refine ⟨_, rfl, _, _, rfl, rfl, (by rw [List.length_singleton]; omega), 0, [48] ++ TL.numL n, rfl, (by rw [List.length_append, List.length_singleton]; omega), _, rfl, rfl, _, rfl, ?_⟩
        refine if_false_of (by rw [read_zero, decide_eq_true rfl]; rfl) ?_
        refine ⟨_, rfl, 0, lettersL n, rfl, by omega, _, rfl, rfl, _, rfl, ?_⟩
        refine if_false_of (by rw [read_fig_let, decide_eq_true rfl]; rfl) ?_
        refine ⟨_, rfl, 1, TL.numL n, rfl, by omega, _, rfl, rfl, _, rfl, ?_⟩
        refine if_false_of (by rw [read_let_num, decide_eq_true rfl]; rfl) ?_
        refine ⟨_, rfl, _, _, rfl, rfl, (by rw [List.length_singleton]; omega), 0, [45] ++ TL.numL n, rfl, (by rw [List.length_append, List.length_singleton]; omega), _, rfl, rfl, _, rfl, ?_⟩
        refine if_false_of (by rw [read_minus, decide_eq_true rfl]; rfl) ?_
        have l3 : ((List.replicate (3000 : Int).toNat ([97] : List Nat)).flatten).length = 3000 := by simp
        refine ⟨_, _, rfl, rfl, by decide, by decide, by decide, _, _, rfl, rfl, (by rw [l3]; decide), 1, (List.replicate (3000 : Int).toNat ([97] : List Nat)).flatten ++ [48], rfl, (by rw [List.length_append, l3]; decide), _, rfl, rfl, _, rfl, ?_⟩
        have ra : readV 1 ((List.replicate (3000 : Int).toNat ([97] : List Nat)).flatten ++ [48]) = -1 := by
          unfold readV
          rw [if_neg (by decide), let_no (d := 48) (by simp) (by omega) (fun z => by have e := congrArg List.length z; rw [List.length_append, l3] at e; simp at e)]
          rfl
        refine if_true_of (by rw [ra]; rfl) ?_
        refine ⟨0, [48], rfl, by decide, rfl, _, rfl, ?_⟩
        refine if_true_of (by decide) ?_
        refine ⟨1, [45], rfl, by decide, rfl, ?_⟩
        have rb : decide (V.int (readV 1 [45]) = V.int 0) = true := by decide
        rw [rb]
        exact q _
end
theorem all_mk {l : PySem.W.OpenLaw} {w : World} {K : PySem.W.Frag} {h : Heap} {mg : Str → Option Value} {fa f1 : Addr} (X : K.In h) (G : h.Ns mainGlobals mg) (hfa : mg "law" = some (.ref fa))
    {od an : Option Addr} {sl : Array (Option Value)} {oc kV dc pm cd ct : Value} {c : Cs}
    (T : Txt K mg c)
    (d__law_tape : DefAt K mg "_law_tape" sTape ["_law_script", "_law_k"])
    (d__law_pick : DefAt K mg "_law_pick" sPick ["_law_tape_here", "_law_many"])
    (d_is_natural : DefAt K mg "is_natural" sNat ["value"])
    (d_figures : DefAt K mg "figures" sFig ["number"])
    (d_letters : DefAt K mg "letters" sLet ["number"])
    (d_read_figures : DefAt K mg "read_figures" sRF ["text"])
    (d_read_letters : DefAt K mg "read_letters" sRL ["text"])
    (d__law_word : DefAt K mg "_law_word" sWord ["_law_number_here"])
    (d__law_number : DefAt K mg "_law_number" sNum ["_law_tape_here"])
    (d__law_read : DefAt K mg "_law_read" sRead ["_law_door", "_law_text"])
    (d__law_bad : DefAt K mg "_law_bad" sBad ["_law_door", "_law_value"])
    (d__law_spoilt : DefAt K mg "_law_spoilt" sSpo ["_law_tape_here", "_law_text"])
    (d__law_long_word : DefAt K mg "_law_long_word" sLong ["_law_tape_here"])
    (a4 : PySem.W.nsIn K mainGlobals "law" = some (some (.ref f1))) (l4 : K.lookup f1 = some ⟨oc, od, .func (PySem.W.fnOf "law" "law" (defArgs sLaw) (defBody sLaw) (defScope sLaw) .none kV dc pm an cd ct), sl⟩) (c4 : PySem.W.codeIn K cd "law" = true) (k4 : PySem.W.keepIn K (.ref f1) = true) :
    ∃ fd : FuncData, (∀ (s : Shared) (v : Value), BindsTo s fd ⟨[v], []⟩ [("_law_script", v)]) ∧ ∀ base : Heap, K.In base → base.Ns mainGlobals mg → FnOk l.prog w K mg base CX0 6 fa fd ["_law_script"] (spLaw K) := by
  have e := hfa.symm.trans (PySem.W.mg_of X G a4)
  cases e
  exact ⟨PySem.W.fnOf "law" "law" (defArgs sLaw) (defBody sLaw) (defScope sLaw) .none kV dc pm an cd ct, fun s v => .of_eq rfl, fun base _ _ => ok_law T d__law_tape d__law_pick d_is_natural d_figures d_letters d_read_figures d_read_letters d__law_word d__law_number d__law_read d__law_bad d__law_spoilt d__law_long_word (fun_mk (st := sLaw) l4 c4 k4)⟩
theorem walk_law {l : PySem.W.OpenLaw} {q : Program} {loose : List Str} {XP : (Str → Option Value) → Heap → Prop} {YP : World → Heap → Prop} {d : DefRec} {K : Params → PySem.W.Frag} (hn : l.most = some 63) (hdf : d.params.defaults = [])
    (hY : ∀ (w : World) (h : Heap), YP w h → (K w.params).In h)
    (F : ∀ (w : World) (mg : Str → Option Value) (fa : Addr) (h : Heap), (K w.params).In h → h.Ns mainGlobals mg → mg d.name = some (.ref fa) →
      ∃ fd : FuncData, (∀ (s : Shared) (u : Value), BindsTo s fd ⟨[u], []⟩ [("_law_script", u)]) ∧ ∀ base : Heap, (K w.params).In base → base.Ns mainGlobals mg → FnOk l.prog w (K w.params) mg base CX0 6 fa fd ["_law_script"] (spLaw (K w.params))) :
    PySem.W.WalkO q loose XP YP l.row.toRowW d [] (fun f vs => PySem.call f vs) :=
  L2.walk_of (n := 63) (k := 6) (x := "_law_script") (CX := fun _ => CX0) (sp := fun w => spLaw (K w.params)) hn (by decide) hdf ⟨rfl, by decide, by decide⟩ hY F (fun _ _ a ns hl _ hS => ⟨a, ns, rfl, hS, hl, fun _ => rfl⟩) fun _ _ _ _ _ z => z
end Pt

open PySem PySem.W PyProof.Rows in
set_option maxRecDepth 100000 in
set_option maxHeartbeats 0 in
theorem PySem.Challenge.cw_partlabels_k12_formats_holds : PySem.Challenge.rw_partlabels_k12_formats.Holds := by
  w_on; o_law; k_head; (case hw => w_witness2)
  k_fill
  refine Pt.walk_law (l := PySem.Challenge.rw_partlabels_k12_formats) rfl rfl (fun w h Y => PySem.W.kIn_of Y) ?F
  case F =>
    intro w mg fa h KX G hmg
    refine' Pt.all_mk KX G hmg (Pt.txt_of KX G ?z_abs ?z_bool ?z_divmod ?z_int ?z_isinstance ?z_len ?z_max ?z_ord ?z_range ?z_str ?g_ALPHABET ?r_ALPHABET ?mg_N ?l_N ?b_N ?sa_N ?ty_N ?kc_N ?hg_N ?hk_N ?hs_N ?hd_N ?ha_N ?hn_N ?ht_N ?hm_N ?ss_N ?mg_T ?l_T ?b_T ?sa_T ?ty_T ?kc_T ?hg_T ?hk_T ?hs_T ?hd_T ?ha_T ?hn_T ?ht_T ?hm_T ?ss_T ?noN ?iN ?tN ?lfN ?cfN ?kfN ?qT ?gP ?hd_CP ?ty_CP ?s_kNP ?s_kTP ?a_is_number ?l_is_number ?c_is_number ?k_is_number)
      (Pt.defAt_mk (x := "_law_tape") (st := Pt.sTape) (ps := ["_law_script", "_law_k"]) KX G ?a__law_tape ?l__law_tape ?c__law_tape ?k__law_tape (fun _ _ _ _ _ _ us hl => match us, hl with | [_, _], _ => rfl))
      (Pt.defAt_mk (x := "_law_pick") (st := Pt.sPick) (ps := ["_law_tape_here", "_law_many"]) KX G ?a__law_pick ?l__law_pick ?c__law_pick ?k__law_pick (fun _ _ _ _ _ _ us hl => match us, hl with | [_, _], _ => rfl))
      (Pt.defAt_mk (x := "is_natural") (st := Pt.sNat) (ps := ["value"]) KX G ?a_is_natural ?l_is_natural ?c_is_natural ?k_is_natural (fun _ _ _ _ _ _ us hl => match us, hl with | [_], _ => rfl))
      (Pt.defAt_mk (x := "figures") (st := Pt.sFig) (ps := ["number"]) KX G ?a_figures ?l_figures ?c_figures ?k_figures (fun _ _ _ _ _ _ us hl => match us, hl with | [_], _ => rfl))
      (Pt.defAt_mk (x := "letters") (st := Pt.sLet) (ps := ["number"]) KX G ?a_letters ?l_letters ?c_letters ?k_letters (fun _ _ _ _ _ _ us hl => match us, hl with | [_], _ => rfl))
      (Pt.defAt_mk (x := "read_figures") (st := Pt.sRF) (ps := ["text"]) KX G ?a_read_figures ?l_read_figures ?c_read_figures ?k_read_figures (fun _ _ _ _ _ _ us hl => match us, hl with | [_], _ => rfl))
      (Pt.defAt_mk (x := "read_letters") (st := Pt.sRL) (ps := ["text"]) KX G ?a_read_letters ?l_read_letters ?c_read_letters ?k_read_letters (fun _ _ _ _ _ _ us hl => match us, hl with | [_], _ => rfl))
      (Pt.defAt_mk (x := "_law_word") (st := Pt.sWord) (ps := ["_law_number_here"]) KX G ?a__law_word ?l__law_word ?c__law_word ?k__law_word (fun _ _ _ _ _ _ us hl => match us, hl with | [_], _ => rfl))
      (Pt.defAt_mk (x := "_law_number") (st := Pt.sNum) (ps := ["_law_tape_here"]) KX G ?a__law_number ?l__law_number ?c__law_number ?k__law_number (fun _ _ _ _ _ _ us hl => match us, hl with | [_], _ => rfl))
      (Pt.defAt_mk (x := "_law_read") (st := Pt.sRead) (ps := ["_law_door", "_law_text"]) KX G ?a__law_read ?l__law_read ?c__law_read ?k__law_read (fun _ _ _ _ _ _ us hl => match us, hl with | [_, _], _ => rfl))
      (Pt.defAt_mk (x := "_law_bad") (st := Pt.sBad) (ps := ["_law_door", "_law_value"]) KX G ?a__law_bad ?l__law_bad ?c__law_bad ?k__law_bad (fun _ _ _ _ _ _ us hl => match us, hl with | [_, _], _ => rfl))
      (Pt.defAt_mk (x := "_law_spoilt") (st := Pt.sSpo) (ps := ["_law_tape_here", "_law_text"]) KX G ?a__law_spoilt ?l__law_spoilt ?c__law_spoilt ?k__law_spoilt (fun _ _ _ _ _ _ us hl => match us, hl with | [_, _], _ => rfl))
      (Pt.defAt_mk (x := "_law_long_word") (st := Pt.sLong) (ps := ["_law_tape_here"]) KX G ?a__law_long_word ?l__law_long_word ?c__law_long_word ?k__law_long_word (fun _ _ _ _ _ _ us hl => match us, hl with | [_], _ => rfl)) ?a4 ?l4 ?c4 ?k4
    (case z_abs => k_is)
    (case z_bool => k_is)
    (case z_divmod => k_is)
    (case z_int => k_is)
    (case z_isinstance => k_is)
    (case z_len => k_is)
    (case z_max => k_is)
    (case z_ord => k_is)
    (case z_range => k_is)
    (case z_str => k_is)
    (case g_ALPHABET => k_is)
    (case r_ALPHABET => exact ⟨_, rfl⟩)
    (case mg_N => k_is)
    (case l_N => k_is)
    (case b_N => decide +kernel)
    (case sa_N => k_is)
    (case ty_N => k_is)
    (case kc_N => k_is)
    (case hg_N => k_is)
    (case hk_N => k_is)
    (case hs_N => k_is)
    (case hd_N => k_is)
    (case ha_N => k_is)
    (case hn_N => k_is)
    (case ht_N => k_is)
    (case hm_N => k_is)
    (case ss_N => first | rfl | k_is)
    (case mg_T => k_is)
    (case l_T => k_is)
    (case b_T => decide +kernel)
    (case sa_T => k_is)
    (case ty_T => k_is)
    (case kc_T => k_is)
    (case hg_T => k_is)
    (case hk_T => k_is)
    (case hs_T => k_is)
    (case hd_T => k_is)
    (case ha_T => k_is)
    (case hn_T => k_is)
    (case ht_T => k_is)
    (case hm_T => k_is)
    (case ss_T => first | rfl | k_is)
    (case noN => k_is)
    (case iN => k_is)
    (case tN => k_is)
    (case lfN => k_is)
    (case cfN => k_is)
    (case kfN => k_is)
    (case qT => k_exc)
    (case gP => k_is)
    (case hd_CP => k_is)
    (case ty_CP => k_is)
    (case s_kNP => k_is)
    (case s_kTP => k_is)
    (case a_is_number => k_is)
    (case l_is_number => k_is)
    (case c_is_number => k_is)
    (case k_is_number => k_is)
    (case a__law_tape => k_is)
    (case l__law_tape => k_is)
    (case c__law_tape => k_is)
    (case k__law_tape => k_is)
    (case a__law_pick => k_is)
    (case l__law_pick => k_is)
    (case c__law_pick => k_is)
    (case k__law_pick => k_is)
    (case a_is_natural => k_is)
    (case l_is_natural => k_is)
    (case c_is_natural => k_is)
    (case k_is_natural => k_is)
    (case a_figures => k_is)
    (case l_figures => k_is)
    (case c_figures => k_is)
    (case k_figures => k_is)
    (case a_letters => k_is)
    (case l_letters => k_is)
    (case c_letters => k_is)
    (case k_letters => k_is)
    (case a_read_figures => k_is)
    (case l_read_figures => k_is)
    (case c_read_figures => k_is)
    (case k_read_figures => k_is)
    (case a_read_letters => k_is)
    (case l_read_letters => k_is)
    (case c_read_letters => k_is)
    (case k_read_letters => k_is)
    (case a__law_word => k_is)
    (case l__law_word => k_is)
    (case c__law_word => k_is)
    (case k__law_word => k_is)
    (case a__law_number => k_is)
    (case l__law_number => k_is)
    (case c__law_number => k_is)
    (case k__law_number => k_is)
    (case a__law_read => k_is)
    (case l__law_read => k_is)
    (case c__law_read => k_is)
    (case k__law_read => k_is)
    (case a__law_bad => k_is)
    (case l__law_bad => k_is)
    (case c__law_bad => k_is)
    (case k__law_bad => k_is)
    (case a__law_spoilt => k_is)
    (case l__law_spoilt => k_is)
    (case c__law_spoilt => k_is)
    (case k__law_spoilt => k_is)
    (case a__law_long_word => k_is)
    (case l__law_long_word => k_is)
    (case c__law_long_word => k_is)
    (case k__law_long_word => k_is)
    (case a4 => k_is)
    (case l4 => k_is)
    (case c4 => k_is)
    (case k4 => k_is)
