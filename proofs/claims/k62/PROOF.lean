import PyProof.Rows.All
import Wide.All
import OpenK.AllK
import Wide.FinOn
import HandS.ForMost
import HandS.Wide
import HandS.WideBits
import HandS.Style
import HandS.IsInst
import HandS.StrMore
import HandS.Codes
import HandS.Exc
import HandS.TryOnly
import HandS.TryMany
import HandS.ExcOwn
import HandS.WordsExc
import HandS.ExcInit
import HandS.ExcIs
import HandS.ExcField
import HandS.TupLe
import KE.KExcIs
import HandS.Zip
import HandS.DictComp
import HandS.Defaults
import HandS.Property
import KE.KUnpackStar
import HandS.Replace
import HandS.Finally
import HandS.ListItems
import HandS.MakeKwOnly
import HandS.FStr
import HandS.TupAny
import HandS.NoneIn
import HandS.MapJoin
import KE.KOpsOwn
import KE.KCallOwn
import PyProof.ReprRoads
import HandS.Ends
import HandS.DeepEq
import PySem.Challenge.RW_partlabels_k62_powers_of_actions

set_option Elab.async false
set_option linter.all false
set_option maxRecDepth 100000
set_option maxHeartbeats 4000000
/-! Common to the laws: how a def of the text is told, the tape, drawing. -/
namespace Pt
open PySem PySem.Spec PyProof.Rows L2

/-- a def that may be called by its name; CX tells what may leave it -/
structure Cal (P : Program) (w : World) (K : PySem.W.Frag) (mg : Str → Option Value) (base : Heap) (CX : CXT) (k : Nat) (x : Str) (sp : Sp) : Prop where
  ex : ∃ (f : Addr) (fd : FuncData) (ps : List Str), FnOk P w K mg base CX k f fd ps sp ∧ mg x = some (.ref f) ∧ PySem.W.keepIn K (.ref f) = true ∧ Binds K fd ps []
/-- a def of the text as the top leaves it, under its name -/
structure DefAt (K : PySem.W.Frag) (mg : Str → Option Value) (x : Str) (st : Stmt) (ps : List Str) : Prop where
  ex : ∃ (f : Addr) (fd : FuncData), Fun K x x st f fd ∧ mg x = some (.ref f) ∧ Binds K fd ps []
theorem defAt_mk {K : PySem.W.Frag} {h : Heap} {mg : Str → Option Value} {x : Str} {st : Stmt} {ps : List Str} {f : Addr} {oc : Value} {od an : Option Addr} {sl : Array (Option Value)} {kV dc pm cd ct : Value} (X : K.In h) (G : h.Ns mainGlobals mg)
    (a : PySem.W.nsIn K mainGlobals x = some (some (.ref f)))
    (l : K.lookup f = some ⟨oc, od, .func (PySem.W.fnOf x x (defArgs st) (defBody st) (defScope st) .none kV dc pm an cd ct), sl⟩) (c : PySem.W.codeIn K cd x = true) (k : PySem.W.keepIn K (.ref f) = true)
    (hb : ∀ (kV doc pm : Value) (an : Option Addr) (cdv ct : Value) (us : List Value), us.length = ps.length → bindArgs (PySem.W.fnOf x x (defArgs st) (defBody st) (defScope st) .none kV doc pm an cdv ct) ⟨us, []⟩ = pure (ps.zip us)) : DefAt K mg x st ps := by
  have F := fun_mk (st := st) l c k
  exact ⟨⟨f, _, F, PySem.W.mg_of X G a, F.binds hb⟩⟩
section
variable {P : Program} {w : World} {K : PySem.W.Frag} {mg : Str → Option Value} {base : Heap}
theorem cal_of {CX : CXT} {k : Nat} {x : Str} {st : Stmt} {ps : List Str} {sp : Sp} (D : DefAt K mg x st ps) (h : ∀ (f : Addr) (fd : FuncData), Fun K x x st f fd → FnOk P w K mg base CX k f fd ps sp) : Cal P w K mg base CX k x sp := by
  obtain ⟨f, fd, F, m, b⟩ := D.ex
  exact ⟨⟨f, fd, ps, h f fd F, m, F.kp, b⟩⟩
end
section
variable {X : Cx} {j k : Nat} {x : Str} {sp : Sp} {p pos : Pos} {e : Expr} {es : List Expr} {t : TA}
theorem pe_c (c : Cal X.prog X.w X.K X.mg X.base CX0 k x sp) (hr : Room j X.A) (hk : k ≤ j) (hg : Gl X x) (ha : PA X (e :: es) t)
    (hdb : (x == ("__debug__" : Str)) = false := by decide) (he : starEach (e :: es) X.env = (false, eval e X.env) :: starEach es X.env := by rfl) (hpl : (backTo pos (starEach es X.env)).any (·.1) = false := by rfl) :
    PE X (.Call (.Name x p) (e :: es) [] pos) (tCall sp [] E0 t) := by
  obtain ⟨f, fd, ps, F, hm, kp, b⟩ := c.ex
  exact pe_call F (hr.mono hk) hg hm kp b .nil pass0 ha hdb he hpl
/-- text * int -/
def rMulS : R2 := fun x y H Q => ∃ (z : Str) (n : Int), x = .str z ∧ y = .int n ∧ 0 ≤ n ∧ n ≤ 100000 ∧ z.length ≤ 100 ∧ Q (.str (Txt.mul z n)) H
theorem op_mul_str : OpR X (binaryOp .Mult) rMulS := by
  intro pins s σ H x y v u Q I rx ry h
  obtain ⟨z, n, rfl, rfl, h0, h1, hz, q⟩ := h
  obtain ⟨t, rfl⟩ := rx
  obtain ⟨t', rfl⟩ := ry
  refine SB.mul ⟨?_, fun a b => ?_, fun a b => ?_⟩ (fun t2 k => ⟨.str (Txt.mul z n), H, I.tok _, ⟨_, rfl⟩, q⟩)
  · rw [decide_eq_false (by omega), decide_eq_false (by omega)] <;> rfl
  · have hn : 0 < n := by omega
    have e : (100 : Int) ≤ (2 ^ 63 - 1) / n := by
      refine (Int.le_ediv_iff_mul_le hn).mpr ?_
      omega
    omega
  · unfold Builtin.Str.tooLong
    have hs : sizeLine = 16777216 := sizeLine_eq
    have e : z.length * n.toNat ≤ 100 * 100000 := Nat.mul_le_mul hz (by omega)
    refine decide_eq_false ?_
    omega
end

theorem if_true_of {c : Bool} {A B : Prop} (hc : c = true) (h : A) : if c = true then A else B := by
  rw [if_pos hc]
  exact h
theorem if_false_of {c : Bool} {A B : Prop} (hc : c = false) (h : B) : if c = true then A else B := by
  rw [hc, if_neg Bool.false_ne_true]
  exact h

/-! ### the tape -/
def tapeO (A B : Int) : HO := .lst [.int A, .int B]
def TapeOk (A B : Int) : Prop := 0 ≤ A ∧ 0 ≤ B ∧ B ≤ 2147483647
def TapeAt (H : Hp) (a : Addr) : Prop := ∃ A B : Int, H a = some (tapeO A B) ∧ TapeOk A B
/-- all but the tape at a stands -/
def Frm (a : Addr) (H H' : Hp) : Prop := (∀ b, b ≠ a → H' b = H b) ∧ TapeAt H' a
theorem Frm.refl {a : Addr} {H : Hp} (h : TapeAt H a) : Frm a H H := ⟨fun _ _ => rfl, h⟩
theorem Frm.trans {a : Addr} {H H1 H2 : Hp} (x : Frm a H H1) (y : Frm a H1 H2) : Frm a H H2 := ⟨fun b hb => (y.1 b hb).trans (x.1 b hb), y.2⟩
theorem Frm.put {a : Addr} {H : Hp} {A B : Int} (h : TapeOk A B) : Frm a H (upd H a (tapeO A B)) := ⟨fun b hb => upd_ne hb, A, B, upd_same, h⟩

def spTape (K : PySem.W.Frag) : Sp := fun vs H Q _ => ∃ (a : Addr) (ns : List Int) (k : Int), vs = [.ref a, .int k] ∧ SqL K H a (ns.map V.int) ∧ 0 ≤ k ∧ k ≤ 1000 ∧
  ∀ (p : Addr) (A B : Int), H p = none → TapeOk A B → Q (.ref p) (upd H p (tapeO A B))
def spPick : Sp := fun vs H Q _ => ∃ (a : Addr) (m : Int), vs = [.ref a, .int m] ∧ TapeAt H a ∧ 0 < m ∧ m < 2 ^ 120 ∧
  ∀ (r : Int) (H' : Hp), 0 ≤ r → r < m → Frm a H H' → Q (.int r) H'
end Pt
/-! Texts as lists of code points: the rules by values, told so. -/
namespace Pt
open PySem PySem.Spec PyProof.Rows L2
open SX (S S_len S_cat)
section
variable {X : Cx}
theorem S_beq_iff {a b : List Nat} : (V.str (S a) = V.str (S b)) ↔ a = b := ⟨fun h => SX.S_inj (V.str.inj h), fun h => by rw [h]⟩
theorem S_dec {a b : List Nat} : decide (V.str (S a) = V.str (S b)) = decide (a = b) := decide_eq_decide.mpr S_beq_iff
theorem size_ok {n : Nat} (h : n ≤ 1000000) : n ≤ sizeLine := Nat.le_trans h (by decide)
theorem pe_strS {x : Str} {j : Nat} {pos : Pos} (l : List Nat) (h : x = S l) : PE X (.Constant (.str x) j pos) (tC (.str (S l))) := by
  subst h
  exact pe_str
def rCatS : R2 := fun x y H Q => ∃ a b : List Nat, x = .str (S a) ∧ y = .str (S b) ∧ a.length + b.length ≤ 1000000 ∧ Q (.str (S (a ++ b))) H
theorem op_catS : OpR X (binaryOp .Add) rCatS := by
  intro pins s σ H x y v u Q I rx ry h
  obtain ⟨a, b, rfl, rfl, hz, q⟩ := h
  rw [← S_cat] at q
  exact op_add_str pins s σ H _ _ v u Q I rx ry ⟨S a, S b, rfl, rfl, by rw [S_len, S_len]; exact size_ok hz, q⟩
def rIxSL : R2 := fun x y H Q => ∃ (l : List Nat) (i : Int) (c : Nat), x = .str (S l) ∧ y = .int i ∧ l.length ≤ 1000000 ∧ atI l i = some c ∧ Q (.str (S [c])) H
theorem ix_S : IxR X rIxSL := by
  intro value slice pins s σ H x y v u Q I rx ry h hs
  obtain ⟨l, i, c, rfl, rfl, hz, he, q⟩ := h
  exact ix_str value slice pins s σ H _ _ v u Q I rx ry ⟨S l, i, c, rfl, rfl, by rw [S_len]; exact size_ok hz, by simpa using he, q⟩ hs
def rSlToS : V → Option Int → Option Int → Hp → VK → Prop := fun x lo hi H Q => ∃ (l : List Nat) (i : Int), x = .str (S l) ∧ lo = none ∧ hi = some i ∧ 0 ≤ i ∧ l.length ≤ 1000000 ∧ Q (.str (S (l.take i.toNat))) H
theorem sl_to : SlR X rSlToS := by
  intro pins s σ H x v vl vu lo hi sl Q I rx hs pl pu h
  obtain ⟨l, i, rfl, rfl, rfl, h0, hz, q⟩ := h
  exact C8.sl_txt pins s σ H _ v vl vu _ _ sl Q I rx hs pl pu ⟨S l, rfl, by rw [S_len]; exact size_ok hz, by rw [SX.slice_to h0]; exact q⟩
def rSlFromS : V → Option Int → Option Int → Hp → VK → Prop := fun x lo hi H Q => ∃ (l : List Nat) (i : Int), x = .str (S l) ∧ lo = some i ∧ hi = none ∧ 0 ≤ i ∧ l.length ≤ 1000000 ∧ Q (.str (S (l.drop i.toNat))) H
theorem sl_from : SlR X rSlFromS := by
  intro pins s σ H x v vl vu lo hi sl Q I rx hs pl pu h
  obtain ⟨l, i, rfl, rfl, rfl, h0, hz, q⟩ := h
  exact C8.sl_txt pins s σ H _ v vl vu _ _ sl Q I rx hs pl pu ⟨S l, rfl, by rw [S_len]; exact size_ok hz, by rw [SX.slice_from h0]; exact q⟩
theorem call_lenS : CallR X (.builtin "len") (fun xs H Q => ∃ l : List Nat, xs = [.str (S l)] ∧ l.length ≤ 1000000 ∧ Q (.int l.length) H) := by
  intro pins s σ H xs us Q I r h
  obtain ⟨l, rfl, hz, q⟩ := h
  exact call_len_str pins s σ H _ us Q I r ⟨S l, rfl, by rw [S_len]; exact size_ok hz, by rw [S_len]; exact q⟩
theorem foldl_rep (l : List Nat) : ∀ (n : Nat) (a : Array Nat), ((List.replicate n l.toArray).foldl (· ++ ·) a).toList = a.toList ++ (List.replicate n l).flatten
  | 0, a => by simp
  | n + 1, a => by
    rw [List.replicate_succ, List.foldl_cons, foldl_rep l n, List.replicate_succ, List.flatten_cons, Array.toList_append, List.append_assoc]
theorem mul_S (l : List Nat) {n : Int} (h0 : 0 ≤ n) : Txt.mul (S l) n = S (List.replicate n.toNat l).flatten := by
  unfold Txt.mul
  by_cases h1 : n < 1
  · have e : n.toNat = 0 := by omega
    rw [if_pos h1, e]
    rfl
  · rw [if_neg h1]
    by_cases h2 : (n == 1 || (S l).length == 0) = true
    · rw [if_pos h2]
      rw [Bool.or_eq_true, beq_iff_eq, beq_iff_eq, S_len] at h2
      rcases h2 with h2 | h2
      · subst h2
        show S l = S (List.replicate 1 l).flatten
        simp
      · have e : l = [] := List.length_eq_zero_iff.mp h2
        subst e
        simp
    · rw [if_neg h2]
      refine (SX.S_tl _).symm.trans (congrArg S ?_)
      show ((List.replicate n.toNat l.toArray).foldl (· ++ ·) #[]).toList = _
      rw [foldl_rep]
      rfl
def rMulSL : R2 := fun x y H Q => ∃ (l : List Nat) (n : Int), x = .str (S l) ∧ y = .int n ∧ 0 ≤ n ∧ n ≤ 100000 ∧ l.length ≤ 100 ∧ Q (.str (S (List.replicate n.toNat l).flatten)) H
theorem op_mulS : OpR X (binaryOp .Mult) rMulSL := by
  intro pins s σ H x y v u Q I rx ry h
  obtain ⟨l, n, rfl, rfl, h0, h1, hz, q⟩ := h
  exact op_mul_str pins s σ H _ _ v u Q I rx ry ⟨S l, n, rfl, rfl, h0, h1, by rw [S_len]; exact hz, by rw [mul_S l h0]; exact q⟩
end
theorem ite_bl {a b : Bool} {A : Prop} {Q : VK} {H : Hp} (h : Q (.bl (a && b)) H) (k : Q (.bl b) H → A) : if a = true then A else Q (.bl false) H := by
  cases a with
  | true => exact if_true_of rfl (k h)
  | false => exact if_false_of rfl h
theorem bl_ne {a b : Bool} (h : a = b) : (!decide (V.bl a = V.bl b)) = false := by rw [h]; simp
theorem at_in {l : List Nat} {r : Int} (h0 : 0 ≤ r) (h1 : r < (l.length : Int)) : ∃ c, atI l r = some c ∧ c ∈ l := by
  have hk : r.toNat < l.length := by omega
  refine ⟨l[r.toNat], by have q := atI_nat (List.getElem?_eq_getElem hk); rwa [show ((r.toNat : Nat) : Int) = r by omega] at q, List.getElem_mem hk⟩
end Pt
/-! Own exceptions: raised with or without a field, asked within a suite. -/
namespace Pt
open PySem PySem.Spec PyProof.Rows L2
/-- an own exception class, by what the written part says of it -/
structure XC (K : PySem.W.Frag) (mg : Str → Option Value) (x : Str) (C : Addr) : Prop where
  gC : mg x = some (.ref C)
  oex : OexC K C
  ex : ExcC K C
  me : PySem.W.exmOne K (.ref C) (.ref C) = some true
theorem XC.xf {K : PySem.W.Frag} {mg : Str → Option Value} {x : Str} {C : Addr} (T : XC K mg x C) : XfC K C := ⟨T.ex.hg, T.ex.hk, T.ex.hs, T.ex.hd⟩
theorem XC.mk' {K : PySem.W.Frag} {mg : Str → Option Value} {x : Str} {C : Addr} {nm q : Str} {N : Addr} {bs bm : List Value} {sn : List Str} {sub : List Value} {ab : Bool} {col : Option Bool} {dd : Option Addr} {k0 k1 k2 k3 k5 : Option Value}
    (gC : mg x = some (.ref C)) (l : K.lookup C = some (excClassObj nm q C N bs bm true sn sub ab col dd k0 k1 k2 k3 k5 "ValueError.__new__")) (hb : PySem.HandSPX.refsVE bm = true)
    (sa : PySem.W.findIn K (.ref C) "__setattr__" = some (some (.builtin "object.__setattr__"))) (tyC : PySem.W.typeIn K (.ref C) = some (.type "type")) (kC : PySem.W.keepIn K (.ref C) = true)
    (hg : PySem.W.findIn K (.ref C) "__getattribute__" = some (some (.builtin "BaseException.__getattribute__"))) (hk : PySem.W.findIn K (.ref C) "__getattr__" = some none)
    (hs : PySem.W.subIn K (.ref C) (.type "BaseException") = some true) (hd : PySem.W.hasDictIn K C = true) (ha : PySem.W.findIn K (.ref C) "__class__" = some (some (.builtin "object.__class__")))
    (hn : PySem.W.specialIn K (.builtin "object.__class__") "__get__" = some (some (.builtin "getset_descriptor.__get__"))) (ht : PySem.W.takesIn K (.builtin "object.__class__") = some true)
    (hm : PySem.W.mroIn K C (.type "object") = some true) (ss : PySem.W.subIn K (.ref C) (.ref C) = some true) : XC K mg x C :=
  ⟨gC, ⟨⟨_, _, _, _, _, _, _, _, _, _, _, _, _, _, _, l, hb⟩, sa, hs, tyC, kC⟩, ⟨hg, hk, hs, hd, ha, hn, ht, hm⟩, PySem.W.exm_ref hs hd tyC ss⟩

theorem kit_own {K : PySem.W.Frag} {C D : Addr} (hd : PySem.W.hasDictIn K D = true) (ht : PySem.W.typeIn K (.ref D) = some (.type "type")) (hs : PySem.W.subIn K (.ref C) (.ref D) = some true) : PySem.W.kitOne K (.ref C) (.ref D) = some true := by
  obtain ⟨cd, hc, _⟩ := PySem.W.any_some hd
  have e : ((PySem.W.clsIn K D).isSome && PySem.W.typeIn K (.ref D) == some (.type "type")) = true := by
    rw [hc, ht]
    rfl
  unfold PySem.W.kitOne PySem.W.kitCls
  split
  · rfl
  · show (if ((PySem.W.clsIn K D).isSome && PySem.W.typeIn K (.ref D) == some (.type "type")) = true then PySem.W.subIn K (.ref C) (.ref D) else none) = some true
    rw [if_pos e]
    exact hs
/-- __init__(self, f): self.f = f, of an exception that is being made -/
def spXI (C : Addr) (f : Str) : Sp := fun vs H Q _ => ∃ (a : Addr) (v : V), vs = [.ref a, v] ∧ H a = some (exo a C none) ∧
  ∀ d, H d = none → d ≠ a → Q .non (upd (upd H d (exd d [(f, v)])) a (exo a C (some d)))
theorem heap_back {H : Hp} {a d : Addr} {o1 o2 o3 o4 : HO} (ha : H a = none) (hd : d ≠ a) : upd (del (upd (upd (upd H a o1) d o2) a o3) a) d o4 = upd H d o4 := by
  funext b
  by_cases h1 : b = d
  · subst h1
    rw [upd_same, upd_same]
  · rw [upd_ne h1, upd_ne h1]
    by_cases h2 : b = a
    · subst h2
      rw [del_same, ha]
    · rw [del_ne h2, upd_ne h2, upd_ne h1, upd_ne h2]
/-- what making such an exception asks -/
theorem mkO_ok {C : Addr} {f : Str} {v : V} {H : Hp} {Q : XK} (h : ∀ d, H d = none → Q (.ref C) (some d) (upd H d (.xd [(f, v)]))) :
    ([v] : List V).length ≤ 1000 ∧ ∀ a, H a = none → spXI C f (.ref a :: (([v] : List V) ++ ([] : List V))) (upd H a (exo a C none))
      (fun u H2 => u = .non ∧ ∃ (d : Addr) (fs : List (Str × V)), H2 a = some (exo a C (some d)) ∧ H2 d = some (exd d fs) ∧ H d = none ∧ Q (.ref C) (some d) (upd (del H2 a) d (.xd fs))) (fun _ _ _ => False) := by
  refine ⟨(by show 1 ≤ 1000; decide), fun a ha => ⟨a, v, rfl, upd_same, fun d hd hda => ⟨rfl, d, [(f, v)], upd_same, ?_, ?_, ?_⟩⟩⟩
  · rw [upd_ne hda, upd_same]
  · rw [upd_ne hda] at hd
    exact hd
  · rw [heap_back ha hda]
    rw [upd_ne hda] at hd
    exact h d hd

section
variable {X : Cx} {C : Addr} {x : Str} {p pos : Pos} {sp : Sp} {j k : Nat} {e : Expr} {es : List Expr} {t : TA}
/-- X(), an own class without an __init__ -/
theorem pmk_own0 {bmB : List Value} {B newId initId : String} (F : ExcBaseFacts B newId initId bmB) (q : PySem.W.excIn X.K C bmB newId = true) (gC : X.mg x = some (.ref C)) (kC : PySem.W.keepIn X.K (.ref C) = true) (r : Raises X (.ref C)) (hg : Gl X x)
    (hdb : (x == ("__debug__" : Str)) = false := by decide) : PMk X (.Call (.Name x p) [] [] pos) (fun _ H Q => Q (.ref C) none H) := by
  intro pins s σ H Q J h
  refine wpAny_Call_Name_kw (ld_glob J hg gC ?_ hdb)
  refine PySem.W.callWith_K0 J.kIn kC ?_
  show wpAny _ _ (call (.ref C) []) _ _ _
  obtain ⟨bm, N, nm, qn, bs, hdct, sn, sub, ab, col, dd, k0, k1, k2, k3, k5, mN, hC, hN, hni, T⟩ := exc_obj J.kIn q
  obtain ⟨hp1, g1, d1, tk1, os1⟩ := s
  exact wpAny_call_exc_subT F T hC hN hni (fun h' a mk => mk_of J mk r h (J.hok.gone mk.new)) (Nat.zero_le _)
/-- a def that may raise, called where it does not -/
theorem pe_cX (c : Cal X.prog X.w X.K X.mg X.base (L2.CX X.prog X.w) k x sp) (hr : Room j X.A) (hk : k ≤ j) (hg : Gl X x) (ha : PA X (e :: es) t)
    (hdb : (x == ("__debug__" : Str)) = false := by decide) (he : starEach (e :: es) X.env = (false, eval e X.env) :: starEach es X.env := by rfl) (hpl : (backTo pos (starEach es X.env)).any (·.1) = false := by rfl) :
    PE X (.Call (.Name x p) (e :: es) [] pos) (tCall sp [] E0 t) := by
  obtain ⟨f, fd, ps, F, hm, kp, b⟩ := c.ex
  exact pe_call F (hr.mono hk) hg hm kp b .nil passL ha hdb he hpl
/-- .. called in a def that hands its error on -/
theorem pe_cE {W : WX} {E : XK} (c : Cal X.prog X.w X.K X.mg X.base (L2.CX X.prog X.w) k x sp) (hr : Room j X.A) (hk : k ≤ j) (hg : Gl X x) (tk : Takes X W) (hW : ∀ cls d σ H, E cls d H → W cls d σ H) (ha : PA X (e :: es) t)
    (hdb : (x == ("__debug__" : Str)) = false := by decide) (he : starEach (e :: es) X.env = (false, eval e X.env) :: starEach es X.env := by rfl) (hpl : (backTo pos (starEach es X.env)).any (·.1) = false := by rfl) :
    PE X (.Call (.Name x p) (e :: es) [] pos) (tCall sp [] E t) := by
  obtain ⟨f, fd, ps, F, hm, kp, b⟩ := c.ex
  exact pe_call F (hr.mono hk) hg hm kp b .nil (passes_call tk hW) ha hdb he hpl
/-- .. called within a try -/
theorem pe_cS {W : WX} (c : Cal X.prog X.w X.K X.mg X.base (L2.CX X.prog X.w) k x sp) (hr : Room j X.A) (hk : k ≤ j) (hg : Gl X x) (tk : Takes X W) (ha : PA X (e :: es) t)
    (hdb : (x == ("__debug__" : Str)) = false := by decide) (he : starEach (e :: es) X.env = (false, eval e X.env) :: starEach es X.env := by rfl) (hpl : (backTo pos (starEach es X.env)).any (·.1) = false := by rfl) :
    PE X (.Call (.Name x p) (e :: es) [] pos) (tCallS sp (WE W) t) := by
  obtain ⟨f, fd, ps, F, hm, kp, b⟩ := c.ex
  exact pe_callS F (hr.mono hk) hg hm kp b (fun σ => passAt tk σ) ha hdb he hpl
/-- isinstance(e, c), e the exception that the suite holds, with or without a dict -/
def rIsX (K : PySem.W.Frag) (a : Addr) (cls : Value) (d : Option Addr) : List V → Hp → VK → Prop := fun xs H Q => ∃ (c : V) (cv : Value) (D : Addr) (b : Bool), xs = [.ref a, c] ∧ cls = .ref D ∧ ExcC K D ∧
  (d = none ∨ ∃ (dd : Addr) (fs : List (Str × V)), d = some dd ∧ H dd = some (.xd fs)) ∧ (∀ u, RelV c u → u = cv) ∧ PySem.W.kitOne K (.ref D) cv = some b ∧ Q (.bl b) H
theorem call_isX {a : Addr} {oe : Obj} {cls : Value} {d : Option Addr} {pn : List (Addr × Obj)} (hz : Zc cls d oe) (hf : ∃ vs, oe.data = .fields vs) : CallR (X.suite a ((a, oe) :: pn)) (.builtin "isinstance") (rIsX X.K a cls d) := by
  intro pins s σ H xs us Q J r h
  obtain ⟨c, cv, D, b, rfl, rfl, T, hd, hcv, e, q⟩ := h
  obtain ⟨u1, u2, rfl, r1, r2⟩ := vals2 r
  cases (show u1 = Value.ref a from r1)
  have ec := hcv _ r2
  subst ec
  obtain ⟨hget, _⟩ := J.pin (a, oe) (List.mem_append_left _ List.mem_cons_self)
  obtain ⟨vs, hv⟩ := hf
  have hnc : PySem.W.notCls oe = true := by unfold PySem.W.notCls; rw [hv]
  have hcl : (PySem.W.clsIn X.K D).isSome = true := by
    obtain ⟨cd, hc, _⟩ := PySem.W.any_some T.hd
    rw [hc]
    rfl
  obtain ⟨od, Y⟩ : ∃ od, PySem.W.InstAt s.heap a oe D od := by
    rcases hd with rfl | ⟨dd, fs, rfl, hdd⟩
    · exact ⟨none, hget, hz.1, hnc, by rw [hz.2]; trivial⟩
    · obtain ⟨mA, hns, _⟩ := (show ObjOk X.prog X.w H s.heap dd (.xd fs) from J.hok dd _ hdd)
      obtain ⟨od, ho, _⟩ := lookIn_ns hns
      exact ⟨some od, hget, hz.1, hnc, by rw [hz.2]; exact ho⟩
  exact PySem.W.kia_one (PySem.W.kitx_exc hcl T.hg T.hk T.hs T.ha T.hn T.ht T.hm) J.kIn Y e (fun z => nomatch z) fun tk => ⟨.bl b, H, J.tok tk, rfl, q⟩
end

/-! ### a walk over a text -/
theorem for_str {l : List Nat} {g : TG} {tb : TS} {D : Ends} {σ : L2.St} {H : Hp} (Pv : Nat → L2.St → Hp → Prop) (h0 : Pv 0 σ H)
    (hs : ∀ i c σ H, l[i]? = some c → Pv i σ H → g (.str (SX.S [c])) σ H fun σ2 H2 => tb { D with nx := Pv (i + 1), ct := Pv (i + 1), bk := D.nx } σ2 H2) (hd : ∀ σ H, Pv l.length σ H → D.nx σ H) :
    ∃ W : Nat → Nat → L2.St → Hp → Prop, (∃ m, W 0 m σ H) ∧ ∀ i m σ H, W i m σ H →
      ((Its (SX.S l)).stop i H ∧ D.nx σ H) ∨ ((Its (SX.S l)).go i H ∧ ∃ N : L2.St → Hp → Prop, (∀ σ' H', N σ' H' → ∃ m', m' < m ∧ W (i + 1) m' σ' H') ∧ ∀ x H', (Its (SX.S l)).yld i H x H' → g x σ H' fun σ2 H2 => tb { D with nx := N, ct := N, bk := D.nx } σ2 H2) := by
  refine ⟨fun i m σ H => m = l.length - i ∧ i ≤ l.length ∧ Pv i σ H, ⟨l.length, rfl, Nat.zero_le _, h0⟩, ?_⟩
  rintro i m σ H ⟨rfl, hi, pv⟩
  have hsz : (SX.S l).cps.size = l.length := by simp
  by_cases hlt : i < l.length
  · refine .inr ⟨(by show i < (SX.S l).cps.size; omega), Pv (i + 1), fun σ' H' p' => ⟨l.length - (i + 1), by omega, rfl, hlt, p'⟩, fun x H' y => ?_⟩
    obtain ⟨rfl, c, hc, rfl⟩ := y
    exact hs i c σ _ (by simpa using hc) pv
  · have e : i = l.length := by omega
    subst e
    exact .inl ⟨(by show (SX.S l).cps.size ≤ l.length; omega), hd σ H pv⟩
end Pt
/-! Figures and letters: the mathematics. -/
namespace Pt
open PySem PySem.Spec PyProof.Rows L2
open SX (S S_len S_cat)
/-- the words of letters: no word for 0 -/
def wordN : Nat → List Nat
  | 0 => []
  | n + 1 => wordN (n / 26) ++ [97 + n % 26]
def lettersL (n : Nat) : List Nat := if n = 0 then [45] else wordN n
def wval (l : List Nat) : Nat := l.foldl (fun v c => v * 26 + (c - 96)) 0
theorem wordN_succ (n : Nat) : wordN (n + 1) = wordN (n / 26) ++ [97 + n % 26] := by rw [wordN]
theorem wordN_zero : wordN 0 = [] := by rw [wordN]
theorem wval_snoc (l : List Nat) (c : Nat) : wval (l ++ [c]) = wval l * 26 + (c - 96) := by
  unfold wval
  rw [List.foldl_append]
  rfl
theorem wval_word : ∀ n : Nat, wval (wordN n) = n
  | 0 => by rw [wordN_zero]; rfl
  | n + 1 => by
    have ih := wval_word (n / 26)
    rw [wordN_succ, wval_snoc, ih]
    omega
theorem wordN_low : ∀ n : Nat, ∀ c ∈ wordN n, 97 ≤ c ∧ c ≤ 122
  | 0, c, h => by rw [wordN_zero] at h; cases h
  | n + 1, c, h => by
    have ih := wordN_low (n / 26)
    rw [wordN_succ] at h
    rcases List.mem_append.mp h with h | h
    · exact ih c h
    · rw [List.mem_singleton.mp h]
      omega
theorem wordN_ne {n : Nat} (h : 0 < n) : wordN n ≠ [] := by
  cases n with
  | zero => omega
  | succ n => rw [wordN_succ]; simp
theorem word_wval : ∀ (k : Nat) (l : List Nat), l.length = k → (∀ c ∈ l, 97 ≤ c ∧ c ≤ 122) → wordN (wval l) = l
  | 0, l, h, _ => by
    have e : l = [] := List.length_eq_zero_iff.mp h
    subst e
    exact wordN_zero
  | k + 1, l, h, hl => by
    have hne : l ≠ [] := fun e => by rw [e] at h; cases h
    have e := List.dropLast_concat_getLast hne
    generalize l.getLast hne = c at e
    generalize l.dropLast = r at e
    subst e
    have hc := hl c (by simp)
    have ih := word_wval k r (by simpa using h) (fun d hd => hl d (by simp [hd]))
    rw [wval_snoc, show wval r * 26 + (c - 96) = (wval r * 26 + (c - 97)) + 1 by omega, wordN_succ, show (wval r * 26 + (c - 97)) / 26 = wval r by omega, ih, show 97 + (wval r * 26 + (c - 97)) % 26 = c by omega]
theorem wval_pos {l : List Nat} (hne : l ≠ []) (hl : ∀ c ∈ l, 97 ≤ c ∧ c ≤ 122) : 0 < wval l := by
  have e := List.dropLast_concat_getLast hne
  have hc := hl _ (List.getLast_mem hne)
  rw [← e, wval_snoc]
  omega
theorem wval_lt : ∀ (k : Nat) (l : List Nat), l.length = k → (∀ c ∈ l, 97 ≤ c ∧ c ≤ 122) → wval l < 27 ^ k
  | 0, l, h, _ => by
    have e : l = [] := List.length_eq_zero_iff.mp h
    subst e
    decide
  | k + 1, l, h, hl => by
    have hne : l ≠ [] := fun e => by rw [e] at h; cases h
    have e := List.dropLast_concat_getLast hne
    generalize l.getLast hne = c at e
    generalize l.dropLast = r at e
    subst e
    have hc := hl c (by simp)
    have ih := wval_lt k r (by simpa using h) (fun d hd => hl d (by simp [hd]))
    rw [wval_snoc, Nat.pow_succ]
    omega
theorem lettersL_low {n : Nat} (h : 0 < n) : lettersL n = wordN n := by unfold lettersL; rw [if_neg (by omega)]
theorem wordN_len_le : ∀ n : Nat, (wordN n).length ≤ n
  | 0 => by rw [wordN_zero]; exact Nat.le_refl 0
  | n + 1 => by
    have ih := wordN_len_le (n / 26)
    rw [wordN_succ, List.length_append, List.length_singleton]
    omega
theorem wordN_len {k n : Nat} (h : n < 26 ^ k) : (wordN n).length ≤ k := by
  induction k generalizing n with
  | zero =>
    have e : n = 0 := by simpa using h
    subst e
    rw [wordN_zero]; exact Nat.le_refl 0
  | succ k ih =>
    cases n with
    | zero => rw [wordN_zero]; exact Nat.zero_le _
    | succ n =>
      rw [wordN_succ, List.length_append, List.length_singleton]
      have := ih (n := n / 26) (by rw [Nat.pow_succ] at h; omega)
      omega
/-! the order of the words -/
theorem lex_app : ∀ {a b : List Nat} (x y : List Nat), a.length = b.length → a < b → a ++ x < b ++ y
  | [], [], _, _, _, h => absurd h (List.lt_irrefl _)
  | [], _ :: _, _, _, e, _ => by cases e
  | _ :: _, [], _, _, e, _ => by cases e
  | c :: a, d :: b, x, y, e, h => by
    rw [List.cons_lt_cons_iff] at h
    rw [List.cons_append, List.cons_append, List.cons_lt_cons_iff]
    rcases h with h | ⟨h, h2⟩
    · exact .inl h
    · exact .inr ⟨h, lex_app x y (by simpa using e) h2⟩
theorem lex_same : ∀ (a : List Nat) {x y : List Nat}, x < y → a ++ x < a ++ y
  | [], _, _, h => h
  | c :: a, x, y, h => by
    rw [List.cons_append, List.cons_append, List.cons_lt_cons_iff]
    exact .inr ⟨rfl, lex_same a h⟩
theorem word_order : ∀ {m n : Nat}, m < n → (wordN m).length ≤ (wordN n).length ∧ ((wordN m).length = (wordN n).length → wordN m < wordN n)
  | _, 0, h => absurd h (Nat.not_lt_zero _)
  | 0, n + 1, _ => by
    rw [wordN_zero, wordN_succ]
    refine ⟨Nat.zero_le _, fun e => ?_⟩
    simp at e
  | m + 1, n + 1, h => by
    rw [wordN_succ, wordN_succ, List.length_append, List.length_append, List.length_singleton, List.length_singleton]
    by_cases hq : m / 26 < n / 26
    · have ih := word_order hq
      refine ⟨by omega, fun e => lex_app _ _ (by omega) (ih.2 (by omega))⟩
    · have e : m / 26 = n / 26 := by omega
      rw [e]
      refine ⟨Nat.le_refl _, fun _ => lex_same _ ?_⟩
      rw [List.cons_lt_cons_iff]
      exact .inl (by omega)
/-! which texts are read -/
def figOk (l : List Nat) : Bool := l.all (fun c => decide (48 ≤ c) && decide (c ≤ 57)) && (!l.isEmpty && (!(l.head? == some 48) || l.length == 1))
def letOk (l : List Nat) : Bool := l == [45] || (!l.isEmpty && l.all (fun c => decide (97 ≤ c) && decide (c ≤ 122)))
theorem all_dig {l : List Nat} : l.all (fun c => decide (48 ≤ c) && decide (c ≤ 57)) = true ↔ ∀ c ∈ l, 48 ≤ c ∧ c ≤ 57 := by
  simp [List.all_eq_true]
theorem all_low {l : List Nat} : l.all (fun c => decide (97 ≤ c) && decide (c ≤ 122)) = true ↔ ∀ c ∈ l, 97 ≤ c ∧ c ≤ 122 := by
  simp [List.all_eq_true]
theorem num_head : ∀ n : Nat, 0 < n → (TL.numL n).head? ≠ some 48
  | n, h => by
    by_cases h10 : n < 10
    · rw [TL.numL_lt h10]
      simp; omega
    · rw [TL.numL_step (by omega)]
      have ih := num_head (n / 10) (by omega)
      cases e : TL.numL (n / 10) with
      | nil => exact absurd e (TL.numL_ne _)
      | cons c r =>
        rw [e] at ih
        simpa using ih
theorem figOk_num (n : Nat) : figOk (TL.numL n) = true := by
  unfold figOk
  have h1 : (TL.numL n).all (fun c => decide (48 ≤ c) && decide (c ≤ 57)) = true := all_dig.mpr fun c hc => TL.numL_digits n c hc
  have h2 : (!(TL.numL n).isEmpty) = true := by
    cases e : TL.numL n with
    | nil => exact absurd e (TL.numL_ne n)
    | cons c r => rfl
  rw [h1, h2, Bool.true_and, Bool.true_and]
  by_cases h0 : n = 0
  · subst h0
    rw [TL.numL_lt (by decide)]
    rfl
  · have q := num_head n (by omega)
    have e : ((TL.numL n).head? == some 48) = false := by simpa using q
    rw [e]
    rfl
theorem letOk_word (n : Nat) : letOk (lettersL n) = true := by
  unfold letOk lettersL
  by_cases h : n = 0
  · rw [if_pos h]
    rfl
  · rw [if_neg h]
    have h1 : (wordN n).all (fun c => decide (97 ≤ c) && decide (c ≤ 122)) = true := all_low.mpr (wordN_low n)
    have h2 : (!(wordN n).isEmpty) = true := by
      cases e : wordN n with
      | nil => exact absurd e (wordN_ne (by omega))
      | cons c r => rfl
    rw [h1, h2]
    simp
/-- the numbers that are read -/
def figVal (l : List Nat) : Nat := NumText.digitsVal l
def letVal (l : List Nat) : Nat := if l = [45] then 0 else wval l
theorem figVal_num (n : Nat) : figVal (TL.numL n) = n := TL.numL_val n
theorem letVal_word (n : Nat) : letVal (lettersL n) = n := by
  unfold letVal lettersL
  by_cases h : n = 0
  · rw [if_pos h, if_pos rfl, h]
  · rw [if_neg h, if_neg, wval_word]
    intro e
    have q := wordN_low n 45 (by rw [e]; simp)
    omega
end Pt
/-! More of texts: joined without a sign between, begun with, stripped. -/
namespace Pt
open PySem PySem.Spec PyProof.Rows L2
open SX (S S_len S_cat)
theorem joinL_nil : ∀ ps : List (List Nat), TL.joinL [] ps = ps.flatten
  | [] => rfl
  | [p] => by simp [TL.joinL]
  | p :: q :: r => by
    have ih := joinL_nil (q :: r)
    show p ++ ([] ++ TL.joinL [] (q :: r)) = (p :: q :: r).flatten
    rw [ih]
    simp
theorem sum_lens (ps : List (List Nat)) : ((ps.map S).map (·.length)).sum = ps.flatten.length := by
  rw [SX.lens, List.length_flatten]
section
variable {X : Cx}
theorem mt_joinE : MtR X "str.join" (fun x xs H Q => ∃ (p : Addr) (ps : List (List Nat)), x = .str (S []) ∧ xs = [.ref p] ∧ SqL X.K H p (ps.map fun l => V.str (S l)) ∧ ps.flatten.length ≤ 1000000 ∧ Q (.str (S ps.flatten)) H) := by
  intro pins s σ H x xs v us Q I rx rs h
  obtain ⟨p, ps, rfl, rfl, hp, hz, q⟩ := h
  refine mt_join pins s σ H _ _ v us Q I rx rs ⟨S [], p, ps.map S, rfl, rfl, .inl (by rw [List.map_map]; exact hp), ?_, ?_⟩
  · rw [sum_lens]
    show _ + _ * 0 ≤ _
    omega
  · rw [SX.join_S, joinL_nil]
    exact q
theorem starts_S (a b : List Nat) : Txt.startswith (S a) (S b) = (a.take b.length == b) := by
  unfold Txt.startswith Builtin.Str.subAt
  rw [S_len, S_len, Nat.zero_add]
  have e : (S a).cps.extract 0 b.length = (a.take b.length).toArray := by simp
  rw [e]
  have e2 : ((a.take b.length).toArray == (S b).cps) = (a.take b.length == b) := by simp
  rw [e2]
  by_cases h : b.length ≤ a.length
  · rw [decide_eq_true h, Bool.true_and]
  · rw [decide_eq_false h, Bool.false_and]
    refine (beq_eq_false_iff_ne.mpr fun q => h ?_).symm
    have q2 := congrArg List.length q
    rw [List.length_take] at q2
    omega
theorem mt_startsS : MtR X "str.startswith" (fun x xs H Q => ∃ a b : List Nat, x = .str (S a) ∧ xs = [.str (S b)] ∧ Q (.bl (a.take b.length == b)) H) := by
  intro pins s σ H x xs v us Q I rx rs h
  obtain ⟨a, b, rfl, rfl, q⟩ := h
  exact mt_startswith pins s σ H _ _ v us Q I rx rs ⟨S a, S b, rfl, rfl, by rw [starts_S]; exact q⟩
theorem tw_all {p : Nat → Bool} : ∀ a : List Nat, (∀ c ∈ a, p c = true) → a.takeWhile p = a
  | [], _ => rfl
  | c :: r, h => by rw [List.takeWhile_cons, if_pos (h c (List.mem_cons_self ..)), tw_all r fun d hd => h d (List.mem_cons_of_mem _ hd)]
/-- what is nothing but signs of y is stripped to nothing -/
theorem strip_all {a y : List Nat} (h : ∀ c ∈ a, c ∈ y) : Txt.stripChars (S a) (S y) = S [] := by
  have g : ∀ c ∈ a, (S y).cps.contains c = true := fun c hc => by simpa using h c hc
  have e1 : (S a).cps.toList.takeWhile (S y).cps.contains = a := by
    show a.takeWhile _ = a
    exact tw_all a g
  have lo : stripLo (S y).cps.contains true (S a) = a.length := by
    unfold stripLo
    rw [if_pos rfl, e1]
  unfold Txt.stripChars Txt.stripBy stripSame stripped
  rw [lo]
  by_cases h0 : a = []
  · subst h0
    split
    · rfl
    · show Builtin.Str.strSub (S []) 0 _ = S []
      unfold Builtin.Str.strSub
      simp
  · have hp : 0 < a.length := List.length_pos_iff.mpr h0
    rw [show (a.length == 0) = false by simpa using h0, Bool.false_and, if_neg Bool.false_ne_true]
    unfold Builtin.Str.strSub
    have e2 : (S a).cps.extract a.length (stripHi (S y).cps.contains true (S a) a.length) = #[] := by
      refine Array.extract_empty_of_size_le_start ?_
      simp
    rw [e2]
def rStripS : V → List V → Hp → VK → Prop := fun x xs H Q => ∃ a y : List Nat, x = .str (S a) ∧ xs = [.str (S y)] ∧ a.length ≤ 1000000 ∧ ∀ b : List Nat, (b = [] ∨ ∃ c ∈ a, c ∉ y) → Q (.str (S b)) H
theorem mt_stripS : MtR X "str.strip" rStripS := by
  intro pins s σ H x xs v us Q I rx rs h
  obtain ⟨a, y, rfl, rfl, hz, q⟩ := h
  refine mt_stripChars pins s σ H _ _ v us Q I rx rs ⟨S a, S y, rfl, rfl, by rw [S_len]; exact size_ok hz, ?_⟩
  have e := SX.S_tl (Txt.stripChars (S a) (S y))
  rw [← e]
  refine q _ ?_
  by_cases g : ∀ c ∈ a, c ∈ y
  · left
    rw [strip_all g]
  · right
    refine Classical.byContradiction fun n => g fun c hc => Classical.byContradiction fun m => n ⟨c, hc, m⟩
end
end Pt
/-! (int, text) <= (int, text) -/
namespace Pt
open PySem PySem.Spec PyProof.Rows L2
def leIS (i j : Int) (a b : List Nat) : Bool := if i = j then (if a = b then true else !decide (b < a)) else decide (i ≤ j)
def rLeIS (K : PySem.W.Frag) : R2 := fun x y H Q => ∃ (p q : Addr) (i j : Int) (a b : List Nat), x = .ref p ∧ y = .ref q ∧ SqT K H p [.int i, .str (SX.S a)] ∧ SqT K H q [.int j, .str (SX.S b)] ∧ Q (.bl (leIS i j a b)) H
theorem rc_str {A : Around} {s : Shared} (a b : Str) (t u : Tok) : Ob.RcOp .LtE A s (.str a t) (.str b u) (!decide (b.cps.toList < a.cps.toList)) := fun prog w E Q h => by
  have z : ∀ x y, compareOp .LtE x y = richCompare .LtE x y := fun _ _ => rfl
  rw [← z]
  exact P.le_str h
theorem op_leIS {X : Cx} (hu : X.A.units < cLine) : OpR X (compareOp .LtE) (rLeIS X.K) := by
  intro pins s σ H x y v u Q J rx ry h
  obtain ⟨p, q, i, j, a, b, rfl, rfl, hp, hq, k⟩ := h
  cases rx
  cases ry
  obtain ⟨its, r1, p1, _⟩ := J.tuple hp
  obtain ⟨its2, r2, p2, _⟩ := J.tuple hq
  obtain ⟨v1, v2, rfl, ⟨t1, rfl⟩, ⟨t2, rfl⟩⟩ := vals2 r1
  obtain ⟨w1, w2, rfl, ⟨t3, rfl⟩, ⟨t4, rfl⟩⟩ := vals2 r2
  have R := Ob.RcOp.tuples_le (A := X.A) (s := s) (e := fun n => if n = 0 then (i == j) else (SX.S a == SX.S b)) (r := fun n => if n = 0 then decide (i ≤ j) else !decide (b < a)) p1 p2 hu
    (fun n h1 h2 => by
      match n, h1 with
      | 0, _ => exact SeqAt.EqAt.int_int _ _ _ _
      | 1, _ => exact SeqAt.EqAt.str_str _ _ _ _
      | n + 2, h1 => exact absurd h1 (by simp))
    (fun n h1 h2 _ => by
      match n, h1 with
      | 0, _ => exact Ob.RcOp.le_int _ _ _ _
      | 1, _ => exact rc_str _ _ _ _
      | n + 2, h1 => exact absurd h1 (by simp))
  have z : ∀ x y, compareOp .LtE x y = richCompare .LtE x y := fun _ _ => rfl
  rw [z]
  refine R X.prog X.w _ _ ?_
  refine ⟨.bl (leIS i j a b), H, J, ?_, k⟩
  show Value.bool _ = Value.bool _
  congr 1
  show (if (i == j) = true then (if (SX.S a == SX.S b) = true then true else !decide (b < a)) else decide (i ≤ j)) = leIS i j a b
  rw [SX.S_beq_eq]
  unfold leIS
  by_cases h1 : i = j
  · rw [if_pos (by simpa using h1), if_pos h1]
    by_cases h2 : a = b
    · rw [if_pos (by simpa using h2), if_pos h2]
    · rw [if_neg (by simpa using h2), if_neg h2]
  · rw [if_neg (by simpa using h1), if_neg h1]
end Pt
/-! zip of two sequences of any kinds: a tuple with a list -/
namespace ZM
open PySem RZ
/-- a kind of sequence and its iterator -/
structure SeqIt (prog : Program) (w : World) where
  S : Heap → Addr → Array Value → Prop
  I : Heap → Addr → Addr → Nat → Prop
  sx : ∀ {h h' : Heap} {a b : Addr} {xs : Array Value}, S h a xs → Heap.ExtBut b h h' → a ≠ b → S h' a xs
  ix : ∀ {h h' : Heap} {a l b : Addr} {k : Nat}, I h a l k → Heap.ExtBut b h h' → a ≠ b → I h' a l k
  ia : ∀ {h h' : Heap} {a l : Addr} {k : Nat}, I h a l k → (∀ o, h.get? a = some o → h'.get? a = some o) → I h' a l k
  is : ∀ {h : Heap} {a l : Addr} {k : Nat}, I h a l k → ∃ o, h.get? a = some o ∧ ∀ v, o.data ≠ .cell v
  item : ∀ {A : Around} {E : Value → Shared → Prop} {s : Shared} {a l : Addr} {k : Nat} {xs : Array Value} {x : Value} {Q : Value → Shared → Prop}, I s.heap a l k → S s.heap l xs → xs[k]? = some x →
    (∀ h', I h' a l (k + 1) → Heap.SameBut a s.heap h' → Q x { s with heap := h' }) → wpAny (model prog w) A (Builtin.SmallTypes.nextOf (.ref a)) Q E s
  fin : ∀ {A : Around} {E : Value → Shared → Prop} {s : Shared} {a l : Addr} {k : Nat} {xs : Array Value} {Q : Value → Shared → Prop}, A.handled = none → I s.heap a l k → S s.heap l xs → xs[k]? = none →
    (∀ h' e, Heap.ExtBut a s.heap h' → (∃ o, h'.get? e = some o ∧ o.cls = .type "StopIteration") → E (.ref e) { s with heap := h' }) → wpAny (model prog w) A (Builtin.SmallTypes.nextOf (.ref a)) Q E s
section
variable {prog : Program} {w : World} {A : Around} {E : Value → Shared → Prop} {s : Shared}
def sTup (prog : Program) (w : World) : SeqIt prog w where
  S := fun h a xs => h.IsTuple a xs
  I := fun h a l k => h.IsTupleIter a l k
  sx := fun h e n => h.extBut e n
  ix := fun h e n => h.extBut e n
  ia := fun h e => h.at e
  is := fun ⟨o, e, _, d⟩ => ⟨o, e, fun v z => by rw [d] at z; cases z⟩
  item := fun h1 h2 h3 h4 => nextOf_tuple_item h1 h2 h3 h4
  fin := fun hh h1 h2 h3 h4 => nextOf_tuple_end hh h1 h2 h3 h4
def sLst (prog : Program) (w : World) : SeqIt prog w where
  S := fun h a xs => h.IsList a xs
  I := fun h a l k => h.IsListIter a l k
  sx := fun h e n => h.extBut e n
  ix := fun h e n => h.extBut e n
  ia := fun h e => h.at e
  is := fun ⟨o, e, _, d⟩ => ⟨o, e, fun v z => by rw [d] at z; cases z⟩
  item := fun h1 h2 h3 h4 => wpAny_nextOf_list_item h1 h2 h3 h4
  fin := fun hh h1 h2 h3 h4 => wpAny_nextOf_list_end hh h1 h2 h3 h4
variable {Ka Kb : SeqIt prog w} {z TI TO i1 i2 l1 l2 : Addr} {k1 k2 : Nat} {xs ys : Array Value}
/-- what the zip's objects are ahead of a turn -/
structure At (Ka Kb : SeqIt prog w) (z TI TO i1 i2 l1 l2 : Addr) (k1 k2 : Nat) (xs ys : Array Value) (h : Heap) : Prop where
  z : IsZip h z TI TO .none
  ti : IsPair h TI (.ref i1) (.ref i2)
  to : ∃ a b, IsPair h TO a b
  i1 : Ka.I h i1 l1 k1
  i2 : Kb.I h i2 l2 k2
  l1 : Ka.S h l1 xs
  l2 : Kb.S h l2 ys
/-- the same but for the zip's own -/
def But (z TO i1 i2 : Addr) (h h' : Heap) : Prop := ∀ c o, c ≠ z → c ≠ TO → c ≠ i1 → c ≠ i2 → h.get? c = some o → h'.get? c = some o
theorem next_item {x y : Value} {Q : Value → Shared → Prop} (D : ZipApart z TI TO i1 i2 l1 l2) (T : At Ka Kb z TI TO i1 i2 l1 l2 k1 k2 xs ys s.heap) (hx : xs[k1]? = some x) (hy : ys[k2]? = some y)
    (hQ : ∀ g, IsZip g z TI TO (rawInt s.heap.objs.size) ∧ IsPair g TO x y ∧ Ka.I g i1 l1 (k1 + 1) ∧ Kb.I g i2 l2 (k2 + 1) ∧ IsPair g s.heap.objs.size x y ∧ g.objs.size = s.heap.objs.size + 1 ∧ But z TO i1 i2 s.heap g → Q (.ref s.heap.objs.size) { s with heap := g }) :
    wpAny (model prog w) A (Builtin.«zip.__next__» ⟨[.ref z], []⟩) (fun r t => ∃ v, r = .done (.ret v) ∧ Q v t) E s := by
  obtain ⟨tz, tti, ⟨a, b, tto⟩, t1, t2, tl1, tl2⟩ := T
  show wpAny _ _ (field (.ref z) 2 >>= _) _ _ _
  refine wpAny_bind (wpAny_field tz rfl (x := .bool false) rfl ?_)
  show wpAny _ _ (field (.ref z) 3 >>= _) _ _ _
  refine wpAny_bind (wpAny_field tz rfl (x := .ref TI) rfl (wpAny_bind (wpAny_seqItems tti rfl ?_)))
  show wpAny _ _ (Builtin.SmallTypes.ownedTupleIsFree (.ref z) >>= _) _ _ _
  refine wpAny_bind ?_
  unfold Builtin.SmallTypes.ownedTupleIsFree
  refine wpAny_bind (wpAny_field tz rfl (x := .none) rfl (wpAny_pure ?_))
  simp only [if_true]
  refine wpAny_bind (wpAny_rule (wpAny_bind (wpAny_field tz rfl (x := .ref TO) rfl ?_)))
  refine wpAny_bind (wpAny_setField_rec tz (by simp) fun g1 gz1 e1 => ?_)
  replace gz1 : IsZip g1 z TI TO .ellipsis := gz1
  refine wpAny_bind ?_
  simp only [List.zipIdx_cons, List.zipIdx_nil, List.forIn_cons, List.forIn_nil]
  -- the first
  refine wpAny_bind (wpAny_bind (wpAny_onRaise ?_))
  show wpAny _ _ (Builtin.SmallTypes.nextOf (.ref i1) >>= _) _ _ _
  refine wpAny_bind (Ka.item (Ka.ix t1 e1.extBut D.i1z) (Ka.sx tl1 e1.extBut D.l1z) hx fun g2 f2 e2 => wpAny_pure ?_)
  have to2 : IsPair g2 TO a b := e2.extBut _ _ D.TOi1 (e1.extBut _ _ D.TOz tto)
  refine wpAny_bind (wpAny_seqItems to2 rfl (wpAny_bind (wpAny_updateSeq_pair to2 fun g3 to3 e3 => ?_)))
  replace to3 : IsPair g3 TO x b := to3
  refine wpAny_bind (wpAny_letGo (wpAny_pure ?_))
  -- the second
  refine wpAny_bind (wpAny_bind (wpAny_onRaise ?_))
  show wpAny _ _ (Builtin.SmallTypes.nextOf (.ref i2) >>= _) _ _ _
  have q2 := Kb.ix (Kb.ix (Kb.ix t2 e1.extBut D.i2z) e2.extBut D.i12.symm) e3.extBut D.TOi2.symm
  have m2 := Kb.sx (Kb.sx (Kb.sx tl2 e1.extBut D.l2z) e2.extBut D.l2i1) e3.extBut D.l2TO
  refine wpAny_bind (Kb.item q2 m2 hy fun g4 f4 e4 => wpAny_pure ?_)
  have to4 : IsPair g4 TO x b := e4.extBut _ _ D.TOi2 to3
  refine wpAny_bind (wpAny_seqItems to4 rfl (wpAny_bind (wpAny_updateSeq_pair to4 fun g5 to5 e5 => ?_)))
  replace to5 : IsPair g5 TO x y := to5
  refine wpAny_bind (wpAny_letGo (wpAny_pure (wpAny_pure ?_)))
  -- handed out
  refine wpAny_bind (wpAny_seqItems to5 rfl (wpAny_bind (wpAny_newTuple ?_)))
  have sz : g5.objs.size = s.heap.objs.size := by rw [e5.1, e4.1, e3.1, e2.1, e1.1]
  have gz5 : IsZip g5 z TI TO .ellipsis := e5.extBut _ _ D.TOz.symm (e4.extBut _ _ D.i2z.symm (e3.extBut _ _ D.TOz.symm (e2.extBut _ _ D.i1z.symm gz1)))
  have but5 : But z TO i1 i2 s.heap g5 := fun c o c1 c2 c3 c4 e => e5.extBut _ _ c2 (e4.extBut _ _ c4 (e3.extBut _ _ c2 (e2.extBut _ _ c3 (e1.extBut _ _ c1 e))))
  have f1 := Ka.ix (Ka.ix (Ka.ix f2 e3.extBut D.TOi1.symm) e4.extBut D.i12) e5.extBut D.TOi1.symm
  have f5 := Kb.ix f4 e5.extBut D.TOi2.symm
  have zl : z < g5.objs.size := Heap.lt_size gz5
  show wpAny _ _ (Builtin.SmallTypes.ownedTupleHandOut (.ref z) (.ref g5.objs.size) >>= _) _ _ _
  refine wpAny_bind ?_
  unfold Builtin.SmallTypes.ownedTupleHandOut
  have gz6 : IsZip (g5.push { cls := .type "tuple", data := .seq #[x, y] }) z TI TO .ellipsis := Heap.get?_push_of_some _ gz5
  refine wpAny_bind (wpAny_setField_rec gz6 (by simp) fun g7 gz7 e7 => ?_)
  replace gz7 : IsZip g7 z TI TO (rawInt g5.objs.size) := gz7
  refine wpAny_setField_rec gz7 (by simp) fun g8 gz8 e8 => ?_
  replace gz8 : IsZip g8 z TI TO (rawInt g5.objs.size) := gz8
  have up : ∀ c o, c ≠ z → g5.get? c = some o → g8.get? c = some o := fun c o c1 e => e8.extBut _ _ c1 (e7.extBut _ _ c1 (Heap.get?_push_of_some _ e))
  have pr : IsPair g8 g5.objs.size x y := e8.extBut _ _ (Nat.ne_of_gt zl) (e7.extBut _ _ (Nat.ne_of_gt zl) (Heap.get?_push_size _ rfl))
  have s8 : g8.objs.size = g5.objs.size + 1 := by rw [e8.1, e7.1, Heap.size_push]
  rw [sz] at gz8 pr s8
  refine wpAny_pure ⟨_, rfl, ?_⟩
  show Q (.ref g5.objs.size) _
  rw [sz]
  exact hQ g8 ⟨gz8, up _ _ D.TOz to5, Ka.ia f1 fun o e => up _ o D.i1z e, Kb.ia f5 fun o e => up _ o D.i2z e, pr, s8, fun c o c1 c2 c3 c4 e => up c o c1 (but5 c o c1 c2 c3 c4 e)⟩
theorem next_end {Q : Fin → Shared → Prop} (hh : A.handled = none) (D : ZipApart z TI TO i1 i2 l1 l2) (T : At Ka Kb z TI TO i1 i2 l1 l2 k1 k2 xs ys s.heap) (hend : xs[k1]? = none ∨ ys[k2]? = none)
    (hE : ∀ g e, But z TO i1 i2 s.heap g → (∃ o, g.get? e = some o ∧ o.cls = .type "StopIteration") → E (.ref e) { s with heap := g }) : wpAny (model prog w) A (Builtin.«zip.__next__» ⟨[.ref z], []⟩) Q E s := by
  obtain ⟨tz, tti, ⟨a, b, tto⟩, t1, t2, tl1, tl2⟩ := T
  show wpAny _ _ (field (.ref z) 2 >>= _) _ _ _
  refine wpAny_bind (wpAny_field tz rfl (x := .bool false) rfl ?_)
  show wpAny _ _ (field (.ref z) 3 >>= _) _ _ _
  refine wpAny_bind (wpAny_field tz rfl (x := .ref TI) rfl (wpAny_bind (wpAny_seqItems tti rfl ?_)))
  show wpAny _ _ (Builtin.SmallTypes.ownedTupleIsFree (.ref z) >>= _) _ _ _
  refine wpAny_bind ?_
  unfold Builtin.SmallTypes.ownedTupleIsFree
  refine wpAny_bind (wpAny_field tz rfl (x := .none) rfl (wpAny_pure ?_))
  simp only [if_true]
  refine wpAny_bind (wpAny_rule (wpAny_bind (wpAny_field tz rfl (x := .ref TO) rfl ?_)))
  refine wpAny_bind (wpAny_setField_rec tz (by simp) fun g1 gz1 e1 => ?_)
  replace gz1 : IsZip g1 z TI TO .ellipsis := gz1
  refine wpAny_bind ?_
  simp only [List.zipIdx_cons, List.zipIdx_nil, List.forIn_cons, List.forIn_nil]
  refine wpAny_bind (wpAny_bind (wpAny_onRaise ?_))
  show wpAny _ _ (Builtin.SmallTypes.nextOf (.ref i1) >>= _) _ _ _
  have p1 := Ka.ix t1 e1.extBut D.i1z
  have n1 := Ka.sx tl1 e1.extBut D.l1z
  -- the StopIteration is handed on
  have out : ∀ (g : Heap) (e : Addr), IsZip g z TI TO .ellipsis → But z TO i1 i2 s.heap g → (∃ o, g.get? e = some o ∧ o.cls = .type "StopIteration") →
      wpAny (model prog w) A (setField (.ref z) 0 .none) (fun _ t => E (.ref e) t) E { s with heap := g } := fun g e gz but he => by
    obtain ⟨o, ho, hc⟩ := he
    have ez : e ≠ z := fun q => by subst q; rw [gz] at ho; cases ho; simp at hc
    exact wpAny_setField_rec gz (by simp) fun g' _ e' => hE g' e (fun c o' c1 c2 c3 c4 q => e'.extBut _ _ c1 (but c o' c1 c2 c3 c4 q)) ⟨o, e'.extBut _ _ ez ho, hc⟩
  cases hx : xs[k1]? with
  | none =>
    refine wpAny_bind (Ka.fin hh p1 n1 hx fun g2 e e2 he => ?_)
    exact out g2 e (e2 _ _ D.i1z.symm gz1) (fun c o c1 _ c3 _ q => e2 _ _ c3 (e1.extBut _ _ c1 q)) he
  | some x =>
    have hy : ys[k2]? = none := hend.resolve_left fun q => by rw [hx] at q; cases q
    refine wpAny_bind (Ka.item p1 n1 hx fun g2 f2 e2 => wpAny_pure ?_)
    have to2 : IsPair g2 TO a b := e2.extBut _ _ D.TOi1 (e1.extBut _ _ D.TOz tto)
    refine wpAny_bind (wpAny_seqItems to2 rfl (wpAny_bind (wpAny_updateSeq_pair to2 fun g3 to3 e3 => ?_)))
    refine wpAny_bind (wpAny_letGo (wpAny_pure (wpAny_bind (wpAny_bind (wpAny_onRaise ?_)))))
    show wpAny _ _ (Builtin.SmallTypes.nextOf (.ref i2) >>= _) _ _ _
    have q2 := Kb.ix (Kb.ix (Kb.ix t2 e1.extBut D.i2z) e2.extBut D.i12.symm) e3.extBut D.TOi2.symm
    have m2 := Kb.sx (Kb.sx (Kb.sx tl2 e1.extBut D.l2z) e2.extBut D.l2i1) e3.extBut D.l2TO
    refine wpAny_bind (Kb.fin hh q2 m2 hy fun g4 e e4 he => ?_)
    exact out g4 e (e4 _ _ D.i2z.symm (e3.extBut _ _ D.TOz.symm (e2.extBut _ _ D.i1z.symm gz1))) (fun c o c1 c2 c3 c4 q => e4 _ _ c4 (e3.extBut _ _ c2 (e2.extBut _ _ c3 (e1.extBut _ _ c1 q)))) he
theorem pyNext_item {x y : Value} {Q : Option Value → Shared → Prop} (D : ZipApart z TI TO i1 i2 l1 l2) (T : At Ka Kb z TI TO i1 i2 l1 l2 k1 k2 xs ys s.heap) (hx : xs[k1]? = some x) (hy : ys[k2]? = some y)
    (hQ : ∀ g, IsZip g z TI TO (rawInt s.heap.objs.size) ∧ IsPair g TO x y ∧ Ka.I g i1 l1 (k1 + 1) ∧ Kb.I g i2 l2 (k2 + 1) ∧ IsPair g s.heap.objs.size x y ∧ g.objs.size = s.heap.objs.size + 1 ∧ But z TO i1 i2 s.heap g → Q (some (.ref s.heap.objs.size)) { s with heap := g }) :
    wpAny (model prog w) A (pyNext (.ref z)) Q E s := by
  have ty : s.TypeIs (.ref z) "zip" := ⟨_, T.z, rfl⟩
  unfold pyNext
  refine wpAny_bind (wpAny_attempt (wpAny_callSpecial?_slot (name := Str.ofString "__next__") ty F.slot_zip_next ?_))
  exact wpAny_call_entry F.slot_zip_next ty F.entry_zip_next (next_item D T hx hy fun g q => wpAny_pure (hQ g q)) (F.args_zip_next_1 _)
theorem pyNext_end {Q : Option Value → Shared → Prop} (hh : A.handled = none) (D : ZipApart z TI TO i1 i2 l1 l2) (T : At Ka Kb z TI TO i1 i2 l1 l2 k1 k2 xs ys s.heap) (hend : xs[k1]? = none ∨ ys[k2]? = none)
    (hQ : ∀ g, But z TO i1 i2 s.heap g → Q none { s with heap := g }) : wpAny (model prog w) A (pyNext (.ref z)) Q E s := by
  have ty : s.TypeIs (.ref z) "zip" := ⟨_, T.z, rfl⟩
  unfold pyNext
  refine wpAny_bind (wpAny_attempt (wpAny_callSpecial?_slot (name := Str.ofString "__next__") ty F.slot_zip_next ?_))
  refine wpAny_call_entry F.slot_zip_next ty F.entry_zip_next (next_end hh D T hend fun g e but he => ?_) (F.args_zip_next_1 _)
  obtain ⟨o, ho, hc⟩ := he
  exact wpAny_bind (wpAny_isInstance (T := "StopIteration") (b := true) ⟨o, ho, hc⟩ isSubtype_stop (wpAny_pure (hQ _ but)))
end
/-! zip(t, l): its objects -/
abbrev zg1 (h : Heap) (a : Addr) : Heap := h.push { cls := .type "tuple_iterator", data := .fields #[.ref a, .int 0 0] }
abbrev zg2 (h : Heap) (a b : Addr) : Heap := (zg1 h a).push { cls := .type "list_iterator", data := .fields #[.ref b, .int 0 0] }
abbrev zg3 (h : Heap) (a b : Addr) : Heap := (zg2 h a b).push { cls := .type "tuple", data := .seq #[.ref h.objs.size, .ref (zg1 h a).objs.size] }
abbrev zg4 (h : Heap) (a b : Addr) : Heap := (zg3 h a b).push { cls := .type "tuple", data := .seq #[.none, .none] }
abbrev zg5 (h : Heap) (a b : Addr) : Heap := (zg4 h a b).push { cls := .type "zip", data := .fields #[.none, .bool false, .bool false, .ref (zg2 h a b).objs.size, .ref (zg3 h a b).objs.size] }
theorem meets_new (a b : Addr) (xs ys : Array Value) :
    Meets (Builtin.«zip.__new__» ⟨[.type "zip", .ref a, .ref b], []⟩) (fun _ R s => s.heap.IsTuple a xs ∧ s.heap.IsList b ys ∧ R (.ok (.ret (.ref (zg4 s.heap a b).objs.size))) { s with heap := zg5 s.heap a b }) :=
  .of_wp fun prog w A R s h => by
    obtain ⟨hp, g, d, tk, os⟩ := s; obtain ⟨ha, hb, h⟩ := h
    have hsub := sub_zip
    have tA : Heap.IsTuple (Shared.heap ⟨hp, g, d, tk, os⟩) a xs := ha
    have tB : Heap.IsList (Shared.heap ⟨hp.push { cls := .type "tuple_iterator", data := .fields #[.ref a, .int 0 0] }, g, d, tk, os⟩) b ys := Heap.IsList.push hb _
    wp_walk using wpAny_pyIter_tuple tA, wpAny_pyIter_list tB
    exact ⟨_, rfl, h⟩
theorem call_zip {prog : Program} {w : World} {A : Around} {E : Value → Shared → Prop} {s : Shared} {a b : Addr} {xs ys : Array Value} {Q : Value → Shared → Prop} (ha : s.heap.IsTuple a xs) (hb : s.heap.IsList b ys)
    (h : ∀ g, At (sTup prog w) (sLst prog w) (s.heap.objs.size + 4) (s.heap.objs.size + 2) (s.heap.objs.size + 3) s.heap.objs.size (s.heap.objs.size + 1) a b 0 0 xs ys g → (∀ c o, s.heap.get? c = some o → g.get? c = some o) → Q (.ref (s.heap.objs.size + 4)) { s with heap := g }) :
    wpAny (model prog w) A (call (.type "zip") [.ref a, .ref b]) Q E s := by
  refine callType_new F.called_zip (by decide) (F.typeCall_zip_2 _ _) (F.newCall_zip_2 _ _) (fun obj => F.args_object_init_3 obj _ _) F.entry_zip_new (meets_new a b xs ys) ⟨ha, hb, ?_⟩
  have z1 : (zg1 s.heap a).objs.size = s.heap.objs.size + 1 := Heap.size_push ..
  have z2 : (zg2 s.heap a b).objs.size = s.heap.objs.size + 2 := by rw [Heap.size_push, z1]
  have z3 : (zg3 s.heap a b).objs.size = s.heap.objs.size + 3 := by rw [Heap.size_push, z2]
  have z4 : (zg4 s.heap a b).objs.size = s.heap.objs.size + 4 := by rw [Heap.size_push, z3]
  have p : ∀ {g : Heap} {c : Addr} {o o' : Obj}, g.get? c = some o → (g.push o').get? c = some o := fun e => Heap.get?_push_of_some _ e
  have y5 : (zg5 s.heap a b).get? (zg4 s.heap a b).objs.size = some _ := Heap.get?_push_size _ rfl
  have y4 : (zg5 s.heap a b).get? (zg3 s.heap a b).objs.size = some _ := p (Heap.get?_push_size _ rfl)
  have y3 : (zg5 s.heap a b).get? (zg2 s.heap a b).objs.size = some _ := p (p (Heap.get?_push_size _ rfl))
  have y2 : (zg5 s.heap a b).get? (zg1 s.heap a).objs.size = some _ := p (p (p (Heap.get?_push_size _ rfl)))
  have y1 : (zg5 s.heap a b).get? s.heap.objs.size = some _ := p (p (p (p (Heap.get?_push_size _ rfl))))
  have kp : ∀ c o, s.heap.get? c = some o → (zg5 s.heap a b).get? c = some o := fun c o e => p (p (p (p (p e))))
  show _ ∧ _
  rw [z2, z3, z4] at y5
  rw [z1, z2] at y3
  rw [z3] at y4
  rw [z1] at y2
  rw [z4]
  obtain ⟨oa, ea, ra⟩ := id ha
  obtain ⟨ob, eb, rb⟩ := id hb
  exact ⟨⟨_, y5, rfl⟩, h _ ⟨y5, y3, ⟨_, _, y4⟩, ⟨_, y1, rfl, rfl⟩, ⟨_, y2, rfl, rfl⟩, ⟨oa, kp _ _ ea, ra⟩, ⟨ob, kp _ _ eb, rb⟩⟩ kp⟩
end ZM
namespace L2
open PySem PySem.Spec PyProof.Rows ZM RZ
/-- the tuple at a and the list at b as they stand at each turn, the items in new pairs -/
def ItzM (K : PySem.W.Frag) (a b : Addr) : It where
  go := fun i H => ∃ (xs ys : List V) (x y : V), SqT K H a xs ∧ SqL K H b ys ∧ xs[i]? = some x ∧ ys[i]? = some y
  yld := fun i H v H' => ∃ T x y, v = .ref T ∧ H T = none ∧ H' = upd H T (.tup [x, y]) ∧ (∀ xs, SqT K H a xs → xs[i]? = some x) ∧ ∀ ys, SqL K H b ys → ys[i]? = some y
  stop := fun i H => ∃ xs ys : List V, SqT K H a xs ∧ SqL K H b ys ∧ (xs.length ≤ i ∨ ys.length ≤ i)
/-- the objects at i, but for the sequences -/
def AtM (P : Program) (w : World) (z TI TO i1 i2 a b : Addr) (i : Nat) (h : Heap) : Prop := IsZip h z TI TO .none ∧ IsPair h TI (.ref i1) (.ref i2) ∧ (∃ x y, IsPair h TO x y) ∧ (sTup P w).I h i1 a i ∧ (sLst P w).I h i2 b i
theorem turn_zipM {P : Program} {w : World} {K : PySem.W.Frag} {elts : List Expr} {kk : Nat} {tpos : Pos} {a b z TI TO i1 i2 : Addr} (D : ZipApart z TI TO i1 i2 a b) :
    Turn P w K (.Tuple elts kk tpos) (ItzM K a b) [z, TI, TO, i1, i2] z (AtM P w z TI TO i1 i2 a b) where
  mem := List.mem_cons_self
  obj := fun i h st c hc => by
    obtain ⟨hz, hTI, ⟨x, y, hTO⟩, h1, h2⟩ := st
    have five : c = z ∨ c = TI ∨ c = TO ∨ c = i1 ∨ c = i2 := by simpa using hc
    rcases five with rfl | rfl | rfl | rfl | rfl
    · exact ⟨_, hz, fun v q => nomatch q⟩
    · exact ⟨_, hTI, fun v q => nomatch q⟩
    · exact ⟨_, hTO, fun v q => nomatch q⟩
    · exact (sTup P w).is h1
    · exact (sLst P w).is h2
  keep := fun i h h' st k => by
    obtain ⟨hz, hTI, ⟨x, y, hTO⟩, h1, h2⟩ := st
    exact ⟨k z (by simp) _ hz, k TI (by simp) _ hTI, ⟨x, y, k TO (by simp) _ hTO⟩, (sTup P w).ia h1 fun o q => k i1 (by simp) o q, (sLst P w).ia h2 fun o q => k i2 (by simp) o q⟩
  item := by
    intro X hP hw hK hc i pins s σ H E J hf st hg
    subst hP hw hK
    obtain ⟨hz, hTI, hTO, h1, h2⟩ := st
    obtain ⟨xs, ys, x, y, qx, qy, ex, ey⟩ := hg
    obtain ⟨us, rv, p, _⟩ := J.tuple qx
    obtain ⟨us2, rv2, p2, _⟩ := J.list qy
    obtain ⟨u, hu, ru⟩ := rv.get ex
    obtain ⟨u2, hu2, ru2⟩ := rv2.get ey
    have zl : z < s.heap.objs.size := Heap.lt_size hz
    refine pyNext_item (Ka := sTup X.prog X.w) (Kb := sLst X.prog X.w) D ⟨hz, hTI, hTO, h1, h2, p, p2.isList⟩ (x := u) (y := u2) (by simpa using hu) (by simpa using hu2) fun g ⟨gz, gTO, g1, g2, gT, gs, but⟩ => ?_
    refine ⟨_, rfl, wpAny_letOwnedTupleGo_zip (s := { s with heap := g }) gz fun g' gz' sb => ?_⟩
    have gT' : g'.get? s.heap.objs.size = some { cls := .type "tuple", data := .seq #[u, u2] } := (sb.2 _ (Nat.ne_of_gt zl)).trans gT
    have new : ObjOk X.prog X.w (upd H s.heap.objs.size (.tup [x, y])) g' s.heap.objs.size (.tup [x, y]) := ⟨(by show 2 ≤ sizeLine; decide), [u, u2], .cons ru (.cons ru2 .nil), ⟨_, gT', rfl, _, rfl⟩⟩
    have J1 : Inv X pins σ (upd H s.heap.objs.size (.tup [x, y])) { s with heap := g' } :=
      J.turnedNew (t' := s.toks) (ch := [z, TI, TO, i1, i2]) (fun c o hb q => (sb.2 c fun r => hb (by simp [r])).trans (but c o (fun r => hb (by simp [r])) (fun r => hb (by simp [r])) (fun r => hb (by simp [r])) (fun r => hb (by simp [r])) q)) hf (Nat.le_refl _) new
    refine ⟨.ref s.heap.objs.size, _, J1, rfl, ⟨_, x, y, rfl, J.hok.fresh (Nat.le_refl _), rfl, fun l hl => by rw [J.tuple_inj hl qx]; exact ex, fun l hl => by rw [J.list_inj hl qy]; exact ey⟩, ⟨gz', ?_, ⟨u, u2, ?_⟩, ?_, ?_⟩, fun c hcm => ?_⟩
    · exact (sb.2 _ D.TIz).trans (but _ _ D.TIz D.TITO D.TIi1 D.TIi2 hTI)
    · exact (sb.2 _ D.TOz).trans gTO
    · exact (sTup X.prog X.w).ia g1 fun o q => (sb.2 _ D.i1z).trans q
    · exact (sLst X.prog X.w).ia g2 fun o q => (sb.2 _ D.i2z).trans q
    · have hlt : c < s.heap.objs.size := by
        obtain ⟨x0, y0, hTO⟩ := hTO
        have five : c = z ∨ c = TI ∨ c = TO ∨ c = i1 ∨ c = i2 := by simpa using hcm
        rcases five with q | q | q | q | q
        · rw [q]; exact zl
        · rw [q]; exact Heap.lt_size hTI
        · rw [q]; exact Heap.lt_size hTO
        · rw [q]; obtain ⟨_, e1, _⟩ := (sTup X.prog X.w).is h1; exact Heap.lt_size e1
        · rw [q]; obtain ⟨_, e2, _⟩ := (sLst X.prog X.w).is h2; exact Heap.lt_size e2
      rw [upd_ne (Nat.ne_of_lt hlt)]
      exact (hf c hcm).1
  done := by
    intro X hP hw hK hc i pins s σ H E J hf st hg
    subst hP hw hK
    obtain ⟨hz, hTI, hTO, h1, h2⟩ := st
    obtain ⟨xs, ys, qx, qy, hend⟩ := hg
    obtain ⟨us, rv, p, _⟩ := J.tuple qx
    obtain ⟨us2, rv2, p2, _⟩ := J.list qy
    have n1 := rv.length
    have n2 := rv2.length
    have he : us.toArray[i]? = none ∨ us2.toArray[i]? = none := hend.imp (fun q => by simp; omega) fun q => by simp; omega
    exact pyNext_end (Ka := sTup X.prog X.w) (Kb := sLst X.prog X.w) (J.ok.hd hc) D ⟨hz, hTI, hTO, h1, h2, p, p2.isList⟩ he fun g but => ⟨rfl, J.turnedL (t' := s.toks) (ch := [z, TI, TO, i1, i2]) (fun c o hb q =>
      but c o (fun r => hb (by simp [r])) (fun r => hb (by simp [r])) (fun r => hb (by simp [r])) (fun r => hb (by simp [r])) q) hf⟩
  self := fun A i s Q E st h => wpAny_pyIter_zip st.1 h
/-- zip(t, l) -/
def iZipM (K : PySem.W.Frag) (ta : TA) : TI := fun σ H R => ta σ H fun vs H1 => ∃ a b xs ys, vs = [.ref a, .ref b] ∧ SqT K H1 a xs ∧ SqL K H1 b ys ∧ R (ItzM K a b) H1
theorem pi_zipM {X : Cx} {e e2 : Expr} {ta : TA} {p pos tpos : Pos} {elts : List Expr} {kk : Nat} (hg : Gl X "zip") (hm : X.mg "zip" = none) (ha : PA X [e, e2] ta)
    (hs : starEach [e, e2] X.env = (false, eval e X.env) :: starEach [e2] X.env := by rfl) (hpl : (backTo pos (starEach [e2] X.env)).any (·.1) = false := by rfl) :
    PI X (.Tuple elts kk tpos) (.Call (.Name "zip" p) [e, e2] [] pos) (iZipM X.K ta) := by
  refine ⟨fun pins s σ H R J h => ?_⟩
  refine Call_ (ld_blt J hg hm boot_zip (callWith_type1 (thn (ha.run pos pins s σ H _ J h) fun us s1 ⟨vs, H1, J1, r1, q1⟩ => ?_) hs hpl))
  obtain ⟨a, b, xs, ys, rfl, qx, qy, q⟩ := q1
  obtain ⟨ua, ub, rfl, ra, rb⟩ := vals2 r1
  cases ra
  cases rb
  have n5 : ∀ c, c ∈ [s1.heap.objs.size + 4, s1.heap.objs.size + 2, s1.heap.objs.size + 3, s1.heap.objs.size, s1.heap.objs.size + 1] → FpOk X pins H1 c := fun c hcm => by
    have five : c = s1.heap.objs.size + 4 ∨ c = s1.heap.objs.size + 2 ∨ c = s1.heap.objs.size + 3 ∨ c = s1.heap.objs.size ∨ c = s1.heap.objs.size + 1 := by simpa using hcm
    have le : s1.heap.objs.size ≤ c := by
      rcases five with z | z | z | z | z
      · rw [z]; exact Nat.le_add_right _ _
      · rw [z]; exact Nat.le_add_right _ _
      · rw [z]; exact Nat.le_add_right _ _
      · rw [z]; exact Nat.le_refl _
      · rw [z]; exact Nat.le_add_right _ _
    exact J1.fpOk le (J1.hok.fresh le)
  obtain ⟨us, rv, p1, _⟩ := J1.tuple qx
  obtain ⟨us2, rv2, p2, _⟩ := J1.list qy
  obtain ⟨o1, ho1, _⟩ := id p1
  refine ZM.call_zip (show s1.heap.IsTuple a us.toArray from p1) p2.isList fun g T hk => wpAny_pyIter_zip T.z ?_
  have J2 : Inv X pins σ H1 { s1 with heap := g } := J1.kept (t' := s1.toks) hk
  exact ⟨s1.heap.objs.size + 4, [s1.heap.objs.size + 4, s1.heap.objs.size + 2, s1.heap.objs.size + 3, s1.heap.objs.size, s1.heap.objs.size + 1], _, _, H1, rfl, J2, turn_zipM (PySem.W.ktu_apart s1.heap.objs.size a b (Heap.lt_size ho1) p2.lt), ⟨T.z, T.ti, T.to, T.i1, T.i2⟩, n5, q⟩
/-- a loop over zip(t, l), t as long as the loop -/
theorem for_zipM {K : PySem.W.Frag} {a b : Addr} {xs ys : List V} {g : TG} {tb : TS} {D : Ends} {σ : L2.St} {H : Hp} (hl : xs.length ≤ ys.length) (Pv : Nat → L2.St → Hp → Prop) (h0 : Pv 0 σ H) (hq : ∀ i σ H, Pv i σ H → SqT K H a xs ∧ SqL K H b ys)
    (hs : ∀ (i : Nat) (x y : V) (T : Addr) (σ : L2.St) (H : Hp), xs[i]? = some x → ys[i]? = some y → Pv i σ H → H T = none → g (.ref T) σ (upd H T (.tup [x, y])) fun σ2 H2 => tb { D with nx := Pv (i + 1), ct := Pv (i + 1), bk := D.nx } σ2 H2) (hd : ∀ σ H, Pv xs.length σ H → D.nx σ H) :
    ∃ W : Nat → Nat → L2.St → Hp → Prop, (∃ m, W 0 m σ H) ∧ ∀ i m σ H, W i m σ H →
      ((ItzM K a b).stop i H ∧ D.nx σ H) ∨ ((ItzM K a b).go i H ∧ ∃ N : L2.St → Hp → Prop, (∀ σ' H', N σ' H' → ∃ m', m' < m ∧ W (i + 1) m' σ' H') ∧ ∀ v H', (ItzM K a b).yld i H v H' → g v σ H' fun σ2 H2 => tb { D with nx := N, ct := N, bk := D.nx } σ2 H2) := by
  refine ⟨fun i m σ H => m = xs.length - i ∧ i ≤ xs.length ∧ Pv i σ H, ⟨xs.length, rfl, Nat.zero_le _, h0⟩, ?_⟩
  rintro i m σ H ⟨rfl, hi, p⟩
  obtain ⟨qx, qy⟩ := hq i σ H p
  by_cases hlt : i < xs.length
  · have hx : xs[i]? = some xs[i] := List.getElem?_eq_getElem hlt
    have hy : ys[i]? = some (ys[i]'(by omega)) := List.getElem?_eq_getElem (by omega)
    refine .inr ⟨⟨xs, ys, _, _, qx, qy, hx, hy⟩, Pv (i + 1), fun σ' H' p' => ⟨xs.length - (i + 1), by omega, rfl, hlt, p'⟩, fun v H' yy => ?_⟩
    obtain ⟨T, x', y', rfl, hT, rfl, f1, f2⟩ := yy
    exact hs i x' y' T σ H (f1 xs qx) (f2 ys qy) p hT
  · have e : i = xs.length := by omega
    subst e
    exact .inl ⟨⟨xs, ys, qx, qy, Or.inl (Nat.le_refl _)⟩, hd σ H p⟩
end L2
/-! comprehensions whose step may raise: a def called in the step hands its error on, out of the comprehension -/
namespace L2
open PySem PySem.Spec PyProof.Rows
/-- behind a comprehension: its names at C, its frame fr -/
def cPost (M : Model) (A : Around) (E Q : Value → Shared → Prop) (acc : Value) (C : Addr) (fr : Option Addr) : Result → Shared → Prop := fun r t => match r with
  | .ok _ => ∃ m, t.heap.Ns C m ∧ ∀ g, Heap.SameBut C t.heap g → Q acc { t with heap := g }
  | .error x => ∃ m, t.heap.Ns C m ∧ ∀ g, Heap.SameBut C t.heap g → ∀ cenv : Env, cenv.locals = C → cenv.frame = fr → wpAny M A (PySem.passOn "comprehension.variables-let-go" x cenv : Sem Value) (fun _ _ => False) E { t with heap := g }
theorem comp_enter {M : Model} {A : Around} {E : Value → Shared → Prop} {s : Shared} {env : Env} {e : Expr} {scope : Scope} {pos : Pos} {newAcc first : Sem Value} {g : Comprehension} {gs : List Comprehension} {cl : List (Str × Addr)} {Q : Value → Shared → Prop}
    (hcl : clausesOf e = g :: gs) (hs : ∀ x, foldedSetIterable g.iter env x = pure x) (hclos : closureFor scope env = pure cl) (hk : scope.kind = .function) (hn : ∀ x ∈ scope.names, x.2 = .local → scope.names.lookup x.1 = some .local)
    (h : wpAny M A first (fun x t1 => wpAny M A (pyIter x) (fun it t2 => wpAny M A newAcc (fun acc t3 => wpAny M A (newFunctionEnv scope env.globals cl [] env.qual none .none (some env)) (fun cenv t4 =>
      codeAny M A (.compStart e 0 it acc { cenv with scope := relabel scope env }) (cPost M A E Q acc cenv.locals cenv.frame) t4) E t3) E t2) E t1) E s) :
    wpAny M A (comprehension e scope env pos newAcc false first none) Q E s := by
  unfold comprehension
  rw [hclos, hcl]
  refine wpAny_bind (thn h fun x t1 h1 => wpAny_bind (wpAny_standAt (wpAny_bind (wpAny_of_eq (hs x) (wpAny_bind (wpAny_holding (thn h1 fun it t2 h2 => ?_)))))))
  refine wpAny_standIf (wpAny_bind (thn h2 fun acc t3 h3 => wpAny_bind (wpAny_pure (wpAny_bind (thn h3 fun cenv t4 h4 => ?_)))))
  dsimp only
  have loc : ∀ x ∈ (scope.names.filter fun x => (x.2 == .local || x.2 == .cell) && x.1 != (".0" : Str)).reverse, x.2 = .local → Env.kindOf { cenv with scope := relabel scope env } x.1 = some .local := fun x hx hl =>
    lookup_relabel_local (hn x (List.mem_filter.mp (List.mem_reverse.mp hx)).1 hl)
  refine wpAny_holding (wpAny_bind (wpAny_attempt (wpAny_holding (wpAny_run (codeAny_mono h4 fun r t hr => ?_)))))
  cases r with
  | ok f =>
    obtain ⟨m, hm, q⟩ := hr
    exact wpAny_bind (wpAny_holding (wpAny_comp_letGo (cenv := { cenv with scope := relabel scope env }) hk _ t m loc hm fun g _ _ sb => wpAny_pure (q g sb)))
  | error x =>
    obtain ⟨m, hm, q⟩ := hr
    exact wpAny_bind (wpAny_holding (wpAny_comp_letGo (cenv := { cenv with scope := relabel scope env }) hk _ t m loc hm fun g _ _ sb => wpAny_mono (q g sb _ rfl rfl) (fun _ _ z => z.elim) fun _ _ z => z))
theorem ff_but {h g base : Heap} {C : Addr} (hk : ∀ b, b ≠ C → g.get? b = h.get? b) : ∀ {l : List Env}, C ∉ frs l → h.FunFrames base l → g.FunFrames base l
  | [], _, _ => trivial
  | env :: l, hc, ⟨a, ⟨L, o, hf, hb, ho, hd⟩, r⟩ =>
    have nm : ∀ b, b ∈ frs (env :: l) → b ≠ C := fun b hb e => hc (e ▸ hb)
    ⟨a, ⟨L, o, hf, hb, (hk L (nm L (List.mem_filterMap.mpr ⟨env, List.mem_cons_self, hf⟩))).trans ho, hd⟩, ff_but hk (fun z => by
      obtain ⟨e, he, q⟩ := List.mem_filterMap.mp z
      exact hc (List.mem_filterMap.mpr ⟨e, List.mem_cons_of_mem _ he, q⟩)) r⟩
section
variable {X : Cx} {pins : List (Addr × Obj)} {σ : St}
/-- the wish about exceptions put in -/
theorem Inv.xeIn {H : Hp} {s : Shared} (z : Value → Shared → Prop) (I : Inv X pins σ H s) : Inv (X.tr X.pn z) pins σ H s := ⟨I.ok.toTry _ _, I.os, I.bare, I.base, I.loc, I.cell, I.free, I.freeC, I.pin, I.hok, I.len⟩
theorem Inv.xeOut {H : Hp} {s : Shared} {z : Value → Shared → Prop} (I : Inv (X.tr X.pn z) pins σ H s) : Inv X pins σ H s := ⟨I.ok.ofTry, I.os, I.bare, I.base, I.loc, I.cell, I.free, I.freeC, I.pin, I.hok, I.len⟩
/-- an error that a call in the block lets out is in the def's air -/
theorem blk_out {W : WX} (tk : Takes X W) (hst : X.stack = X.env :: X.outer) (hfr : X.env.frame = some X.env.locals) {H3 : Hp} {s3 : Shared} {scope : Scope} {ce : Env} {fp : List Addr} (I3 : Inv X pins σ H3 s3) (cL : ce.locals = s3.heap.objs.size)
    (cF : ce.frame = X.env.frame) (f3 : ∀ b ∈ fp, FpOk X pins H3 b ∧ b < s3.heap.objs.size) {p2 : List (Addr × Obj)} {σ2 : St} {H4 : Hp} {s4 s' : Shared} {u : Value} {Q : Value → Shared → Prop} {acc : Value}
    (J : Inv (X.blk s3 H3 scope ce fp) p2 σ2 H4 s4) (c : CX X.prog X.w X.stack H4 s4 (WE W σ) u s') : notedBy (model X.prog X.w) X.A ce (fun e t => cPost (model X.prog X.w) X.A X.xe Q acc s3.heap.objs.size ce.frame (.error e) t) u s' := by
  have x := XE.of_call (X := X.blk s3 H3 scope ce fp) (W := fun cls d _ H => WE W σ cls d H) J (fun _ _ _ h => h) c
  obtain ⟨a0, B0, H0, cls0, d0, rfl, fl0, -⟩ := c
  obtain ⟨a, B, sI, p1, σ1, H1, cls, d, e1, I1, nb, up, sky, na, os, ag, w⟩ := x
  obtain rfl : a0 = a := by injection e1
  have fl : HandSPX.FlyingZ B (X.env :: X.outer) a0 (Zc cls d) s'.heap := by
    obtain ⟨_, _, _, oe, vs, T, oT, ts, he, _, hd, h1, _, _, hT, hdT, h3⟩ := fl0
    have sky : Sky B X.stack a0 (Zc cls d) ce.locals s'.heap := sky
    rw [hst] at sky
    rcases sky with ⟨_, _, _, oe', vs', he', _, hd', h1'⟩ | fl | ⟨_, _, _, oe', vs', T', oT', ts', he', _, hd', h1', _, _, hT', hdT', h3'⟩
    · rw [he] at he'; cases he'
      rw [hd] at hd'; cases hd'
      rw [h1] at h1'; cases h1'
    · exact fl
    · rw [he] at he'; cases he'
      rw [hd] at hd'; cases hd'
      rw [h1] at h1'; cases h1'
      rw [hT] at hT'; cases hT'
      rw [hdT] at hdT'; cases hdT'
      rw [h3] at h3'
      exact absurd (Option.some.inj h3') (by simp [rawInt])
  have I7 : Inv X pins σ H1 sI := I3.call' (ch := fp) I1.os I1.base I1.hok I1.bare fun b hb => ⟨(f3 b hb).1.2.2.2.1, (f3 b hb).1.2.1, (f3 b hb).1.2.2.2.2.1, (f3 b hb).1.2.2.2.2.2⟩
  generalize hCd : s3.heap.objs.size = C at cL ⊢
  have nC : H1 C = none := by
    have z : H1 ce.locals = none := I1.free
    rw [cL] at z
    exact z
  obtain ⟨m, hm, _⟩ := I1.loc
  have hm : sI.heap.Ns ce.locals m := hm
  rw [cL] at hm
  obtain ⟨oC, es, ep, hC, hCd2, rest⟩ := hm
  have nst : C ∉ frs X.stack := fun z => by
    obtain ⟨_, o, e, _⟩ := I3.stack.mem z
    have := Heap.lt_size e
    rw [hCd] at this
    exact Nat.lt_irrefl _ this
  have bC : B.get? C = some oC := nb C oC hC nst
  have en : noteFrame (.ref a0) ce = noteFrame (.ref a0) X.env := by
    unfold noteFrame PySem.frameOf
    rw [cF]
  have hA : X.A.frames = some (X.env :: X.outer) := I3.ok.frames.trans (congrArg some hst)
  unfold notedBy
  rw [en]
  refine HandSPX.looks_onZ Zc.steady hA hfr fl fun h' held up' => ?_
  obtain ⟨k1, k2, k3, k4⟩ := held
  refine ⟨m, ⟨oC, es, ep, k1 C oC bC, hCd2, rest⟩, fun g sb cenv hl hf => ?_⟩
  obtain ⟨oe, vs, T, oT, ts, he, hz, hd, h1, hnT, hTe, hT, hdT, h3⟩ := k4
  have cC := k1 C oC bC
  have nea : a0 ≠ C := fun z => by rw [z, cC] at he; cases he; rw [hCd2] at hd; cases hd
  have neT : T ≠ C := fun z => by rw [z, cC] at hT; cases hT; rw [hCd2] at hdT; cases hdT
  have hid : ∀ {B : Heap} {b : Addr} {o : Obj}, (PySem.W.hideAll B [C]).get? b = some o → b ≠ C ∧ B.get? b = some o := fun {B b o} e => by
    refine ⟨fun z => ?_, PySem.W.of_hideAll _ e⟩
    have q : (PySem.W.hideAll B [C]).get? b = none := PySem.W.hideAll_none [C] (by rw [z]; exact List.mem_singleton.mpr rfl)
    rw [q] at e
    cases e
  have hno : ∀ {b : Addr}, B.get? b = none → (PySem.W.hideAll B [C]).get? b = none := fun {b} e => by
    cases q : (PySem.W.hideAll B [C]).get? b with
    | none => rfl
    | some o => rw [(hid q).2] at e; cases e
  have held2 : HandSPX.HeldZ (PySem.W.hideAll B [C]) (X.env :: X.outer) a0 (Zc cls d) X.env.locals g := by
    refine ⟨fun b o e => (sb.2 b (hid e).1).trans (k1 b o (hid e).2), hno k2, ?_, ⟨oe, vs, T, oT, ts, (sb.2 a0 nea).trans he, hz, hd, h1, hno hnT, hTe, (sb.2 T neT).trans hT, hdT, h3⟩⟩
    have k3' : h'.FunFrames (PySem.W.hideAll B [C]) (X.env :: X.outer) := funFrames_none k3 fun L hL => hno (k3.mem hL).1
    exact ff_but (fun b hb => sb.2 b hb) (by rw [← hst]; exact nst) k3'
  have hf2 : cenv.frame = some X.env.locals := hf.trans (cF.trans hfr)
  unfold PySem.passOn
  refine wpAny_bind (wpAny_field ((sb.2 a0 nea).trans he) hd h1 ?_)
  rw [if_neg (show ¬ ((Value.ref T == Value.none) = true) from by simp)]
  rw [hf2]
  refine wpAny_bind (HandSPX.setFlight_onZ held2 fun h3 hd3 up3 => wpAny_throw (tk _ _ ?_))
  obtain ⟨f0, f1, f2, f4, f5, f6⟩ := I3.fpOk (H' := H1) (b := C) (Nat.le_of_eq hCd) nC
  have I8 : Inv X pins σ H1 { sI with heap := PySem.W.hideAll sI.heap [C], toks := sI.toks } := I7.turned (fun b o hb e => PySem.W.hideAll_get [C] e fun z => hb (List.mem_singleton.mp z)) f0 f1 f4 f5 f6
  refine ⟨a0, PySem.W.hideAll B [C], _, pins, σ, H1, cls, d, rfl, I8, fun b o e hb => ?_, fun b o e hnf => ?_, .inr (.inr (by rw [hst]; exact hd3)), na, os, ag, w⟩
  · exact PySem.W.hideAll_get [C] (nb b o (hid e).2 hb) fun z => (hid e).1 (List.mem_singleton.mp z)
  · obtain ⟨sl, e2⟩ := up b o (hid e).2 hnf
    obtain ⟨sl2, e3⟩ := up' b _ e2 hnf
    obtain ⟨sl3, e4⟩ := up3 b _ ((sb.2 b (hid e).1).trans e3) hnf
    exact ⟨sl3, e4⟩
end
section
variable {X : Cx}
/-- the block's context with a wish about exceptions -/
abbrev Cx.blkX (X : Cx) (s : Shared) (H : Hp) (scope : Scope) (ce : Env) (fp : List Addr) (z : Value → Shared → Prop) : Cx := (X.blk s H scope ce fp).tr [] z

def tLcX (W : WX) (wi : TI) (g : TG) (tt : TT) (te : XK → TE) (vs : List Nat) : TE := fun σ H Q => wi σ H fun J H1 => ∀ D, H1 D = none → ∃ V : Nat → Nat → Hp → Prop, (∃ m, V 0 m (upd H1 D (.lst []))) ∧ ∀ i m H, V i m H →
  (J.stop i H ∧ Q (.ref D) H) ∨ (J.go i H ∧ ∃ Nx : Hp → Prop, (∀ H', Nx H' → ∃ m', m' < m ∧ V (i + 1) m' H') ∧ ∀ x H', J.yld i H x H' → g x (wipe σ vs) H' fun σ2 H2 => wipe σ2 vs = wipe σ vs ∧ tt σ2 H2 fun b H3 =>
    if b = true then te (WE W σ) σ2 H3 fun y H4 => ∃ acc, H4 D = some (.lst acc) ∧ acc.length < sizeLine ∧ Nx (upd H4 D (.lst (acc ++ [y]))) else Nx H3)
theorem pe_lcX {W : WX} {elt tg iter : Expr} {ifs : List Expr} {scope : Scope} {own : List (Str × Nat)} {pos : Pos} {wi : TI} {g : TG} {tt : TT} {te : XK → TE} (hc : X.calm = true) (tk : Takes X W) (hst : X.stack = X.env :: X.outer) (hfr : X.env.frame = some X.env.locals) (hN : X.N.Nodup)
    (hi : PI X tg iter wi) (ok : BlkOk X.N X.env.scope scope own)
    (hg : ∀ (s : Shared) (H : Hp) (C : Addr) (cl : List (Str × Addr)) (fp : List Addr) z, PG (X.blkX s H scope (compEnvC scope cl C X.env) fp z) tg g) (ht : ∀ (s : Shared) (H : Hp) (C : Addr) (cl : List (Str × Addr)) (fp : List Addr) z, PTs (X.blkX s H scope (compEnvC scope cl C X.env) fp z) ifs tt)
    (he : ∀ (s : Shared) (H : Hp) (C : Addr) (cl : List (Str × Addr)) (fp : List Addr) (z : Value → Shared → Prop) (E : XK), Passes (L2.CX X.prog X.w) (X.blkX s H scope (compEnvC scope cl C X.env) fp z) E → PE (X.blkX s H scope (compEnvC scope cl C X.env) fp z) elt (te E))
    (hs : ∀ x, foldedSetIterable iter X.env x = pure x := by intro _; rfl) : PE X (.ListComp elt [⟨tg, iter, ifs, 0⟩] scope pos) (tLcX W wi g tt te (own.map (·.2))) := by
  refine ⟨fun pins s σ H Q I h => ?_⟩
  have hfree : ∀ y ∈ scope.names, y.2 = .free → ∃ c, X.env.cells.lookup y.1 = some c := fun y hy e => (ok.free y hy e).elim (fun k => I.ok.has _ (.inl k)) fun k => I.ok.has _ (.inr k)
  rw [eval_ListComp]
  refine comp_enter rfl hs (closure_ok hfree) ok.kind (fun y hy e => by rw [ok.uniq y hy, e]) (thn (hi.run pins s σ H _ I h) fun xv s1 hx => thn hx fun itv s2 h2 => ?_)
  obtain ⟨it, fp, tn, Jt, H2, rfl, I2, T, st2, f2, q⟩ := h2
  refine wpAny_newObj_type (newEnv_comp ?_) (by show 0 ≤ sizeLine; decide)
  generalize hD : s2.heap.objs.size = D
  have hDn : H2 D = none := I2.hok.fresh (Nat.le_of_eq hD)
  obtain ⟨V, ⟨m0, w0⟩, turn⟩ := q D hDn
  generalize hs3 : ({ s2 with heap := s2.heap.push { cls := .type "list", data := .seq ([] : List Value).toArray } } : Shared) = s3
  have I3 : Inv X pins σ (upd H2 D (.lst [])) s3 := by
    rw [← hs3]
    refine I2.laid (t' := s2.toks) (fun b o e => Heap.get?_push_of_some _ e) (Nat.le_of_eq hD) ⟨Nat.zero_le _, [], 0, .nil, ?_⟩
    rw [← hD]
    exact Heap.get?_push_size _ rfl
  have h3 : s3.heap = s2.heap.push { cls := .type "list", data := .seq ([] : List Value).toArray } := by rw [← hs3]
  have sz : ∀ b ∈ fp, b < s2.heap.objs.size := fun b hb => let ⟨_, e, _⟩ := T.obj _ _ st2 b hb; Heap.lt_size e
  have f3 : ∀ b ∈ fp, FpOk X pins (upd H2 D (.lst [])) b ∧ b < s3.heap.objs.size := fun b hb => by
    refine ⟨⟨?_, (f2 b hb).2⟩, by rw [h3, Heap.size_push]; exact Nat.lt_succ_of_lt (sz b hb)⟩
    rw [upd_ne (by rw [← hD]; exact Nat.ne_of_lt (sz b hb))]
    exact (f2 b hb).1
  have st3 : tn 0 s3.heap := T.keep _ _ _ st2 fun b _ o e => by rw [h3]; exact Heap.get?_push_of_some _ e
  have I4 := block_start I3 ok hN f3
  have nfp : ∀ b ∈ fp, (upd H2 D (.lst [])) b = none := fun b hb => (f3 b hb).1.1
  generalize hH3 : upd H2 D (.lst []) = H3 at I3 I4 w0 nfp f3
  have pg := hg s3 H3 s3.heap.objs.size (cellsFrom (s3.heap.objs.size + 1) scope.names (cloFrom X.env.cells scope.names [])) fp
  have pt := ht s3 H3 s3.heap.objs.size (cellsFrom (s3.heap.objs.size + 1) scope.names (cloFrom X.env.cells scope.names [])) fp
  have pe := he s3 H3 s3.heap.objs.size (cellsFrom (s3.heap.objs.size + 1) scope.names (cloFrom X.env.cells scope.names [])) fp
  show codeAny _ _ (.compStart (.ListComp elt [⟨tg, iter, ifs, 0⟩] scope pos) 0 (.ref it) (.ref D) (compEnvC scope (cellsFrom (s3.heap.objs.size + 1) scope.names (cloFrom X.env.cells scope.names [])) s3.heap.objs.size X.env)) (cPost (model X.prog X.w) X.A X.xe _ (.ref D) s3.heap.objs.size X.env.frame)
    { s3 with heap := pushCells (s3.heap.push { cls := .type "dict", data := .dict #[] }) scope.names }
  generalize hce : compEnvC scope (cellsFrom (s3.heap.objs.size + 1) scope.names (cloFrom X.env.cells scope.names [])) s3.heap.objs.size X.env = ce at I4 pg pt pe ⊢
  have cL : ce.locals = s3.heap.objs.size := by subst hce; rfl
  have cF : ce.frame = X.env.frame := by subst hce; rfl
  generalize hs4 : ({ s3 with heap := pushCells (s3.heap.push { cls := .type "dict", data := .dict #[] }) scope.names } : Shared) = s4 at I4 ⊢
  have st4 : tn 0 s4.heap := T.keep _ _ _ st3 fun b _ o e => by rw [← hs4]; exact pushCells_keeps _ _ _ _ (Heap.get?_push_of_some _ e)
  generalize hPQ : cPost (model X.prog X.w) X.A X.xe (fun u s' => EP X pins σ Q u s') (.ref D) s3.heap.objs.size X.env.frame = PQ
  have hz : ∀ (p2 : List (Addr × Obj)) (σ2 : St) (H4 : Hp) (t : Shared) (u : Value) (t' : Shared), Inv (X.blkX s3 H3 scope ce fp (notedBy (model X.prog X.w) X.A ce fun e s' => PQ (.error e) s')) p2 σ2 H4 t →
      CX X.prog X.w X.stack H4 t (WE W σ) u t' → notedBy (model X.prog X.w) X.A ce (fun e s' => PQ (.error e) s') u t' := fun p2 σ2 H4 t u t' J c => by
    rw [← hPQ, ← cF]
    exact blk_out tk hst hfr I3 cL cF f3 J.xeOut c
  generalize hzz : (notedBy (model X.prog X.w) X.A ce fun e s' => PQ (.error e) s') = z at hz
  have J4 : Inv (X.blkX s3 H3 scope ce fp z) [] (wipe σ (own.map (·.2))) H3 s4 := I4.xeIn z
  have stat : ∀ {σ' : St} {H' : Hp} {s' : Shared}, Inv (X.blkX s3 H3 scope ce fp z) [] σ' H' s' → (∀ b ∈ fp, H' b = none) → ∀ b ∈ fp, FpOk (X.blkX s3 H3 scope ce fp z) [] H' b := fun {σ' H' s'} J hn b hb =>
    ⟨hn b hb, (J.ok.exf b hb).1, J.ok.exfs b hb, .inl hb, fun x c e => (J.ok.exf b hb).2 x c e, fun p hp => absurd (show p ∈ ([] : List (Addr × Obj)) ++ [] from hp) (by simp)⟩
  have loop : codeAny (model X.prog X.w) X.A (.compLoop (.ListComp elt [⟨tg, iter, ifs, 0⟩] scope pos) 0 (.ref it) (.ref D) ce) PQ s4 := by
    refine compLoop_any (fun n s' => ∃ i H', Inv (X.blkX s3 H3 scope ce fp z) [] (wipe σ (own.map (·.2))) H' s' ∧ tn i s'.heap ∧ (∀ b ∈ fp, H' b = none) ∧ V i n H') ?_ m0 ⟨0, H3, J4, st4, nfp, w0⟩
    rw [hzz]
    rintro n s5 ⟨i, H5, J5, st5, n5, w5⟩
    rcases turn i n H5 w5 with ⟨stop, qq⟩ | ⟨go, Nx, hNx, step⟩
    · refine thn (T.done (X.blkX s3 H3 scope ce fp z) rfl rfl rfl hc i [] s5 _ H5 z J5 (stat J5 n5) st5 stop) fun r s6 ⟨hr, J6⟩ => ?_
      subst hr
      have I7 : Inv X pins σ H5 s6 := I3.call' (ch := fp) J6.os J6.base J6.hok J6.bare fun b hb => ⟨(f3 b hb).1.2.2.2.1, (f3 b hb).1.2.1, (f3 b hb).1.2.2.2.2.1, (f3 b hb).1.2.2.2.2.2⟩
      have nC : H5 s3.heap.objs.size = none := by
        have y : H5 ce.locals = none := J6.free
        rw [cL] at y
        exact y
      obtain ⟨m, hn, _⟩ := J6.loc
      have hn : s6.heap.Ns ce.locals m := hn
      rw [cL] at hn
      obtain ⟨f0, f1, f4, f5, f6, f7⟩ := I3.fpOk (H' := H5) (Nat.le_refl _) nC
      rw [← hPQ]
      exact ⟨m, hn, fun g sb => ⟨.ref D, H5, I7.turned (t' := s6.toks) (fun b o hb e => (sb.2 b hb).trans e) f0 f1 f5 f6 f7, rfl, qq⟩⟩
    · refine thn (T.item (X.blkX s3 H3 scope ce fp z) rfl rfl rfl hc i [] s5 _ H5 z J5 (stat J5 n5) st5 go) fun r s6 ⟨u, hr, h6⟩ => ?_
      subst hr
      refine thn h6 fun _ s7 ⟨x, H7, J7, r7, y7, st7, n7⟩ => ?_
      have J7' := J7.pinned (stat J7 n7) (T.obj _ _ st7)
      refine thn ((pg z).run _ s7 _ H7 x u _ J7' r7 (step x H7 y7)) fun _ s8 ⟨σ8, H8, J8, hw8, q8⟩ => ?_
      refine thn ((pt z).run _ s8 σ8 H8 _ J8 q8) fun b s9 ⟨H9, J9, q9⟩ => ?_
      have fin : ∀ {s' : Shared} {H' : Hp}, Inv (X.blkX s3 H3 scope ce fp z) ([] ++ pinsAt fp s7.heap) σ8 H' s' → Nx H' → ∃ m, m < n ∧ ∃ i H', Inv (X.blkX s3 H3 scope ce fp z) [] (wipe σ (own.map (·.2))) H' s' ∧ tn i s'.heap ∧ (∀ b ∈ fp, H' b = none) ∧ V i m H' := fun {s' H'} J nx => by
        obtain ⟨m', hm, w'⟩ := hNx H' nx
        have pin' : ∀ b ∈ fp, ∀ o, s7.heap.get? b = some o → s'.heap.get? b = some o ∧ H' b = none := fun b hb o e =>
          let y := J.pin (b, o) (List.mem_append_right _ (List.mem_append_right _ (mem_pinsAt hb e)))
          ⟨y.1, y.2.1⟩
        have hl : (wipe σ (own.map (·.2))).length = σ8.length := by rw [← hw8, wipe_length]
        refine ⟨m', hm, i + 1, H', (J.unpinned (pins := [])).weak hl (fun j v e => ?_), T.keep _ _ _ st7 fun b hb o e => (pin' b hb o e).1, fun b hb => ?_, w'⟩
        · rw [← hw8] at e
          exact (wipe_some e).1
        · obtain ⟨o, e, _⟩ := T.obj _ _ st7 b hb
          exact (pin' b hb o e).2
      cases b with
      | false =>
        simp only [Bool.false_eq_true, if_false] at q9 ⊢
        exact fin J9 q9
      | true =>
        simp only [if_true] at q9 ⊢
        refine thn ((pe z (WE W σ) fun p2 σ2 H4 t u t' J c => hz p2 σ2 H4 t u t' J c).run _ s9 σ8 H9 _ J9 q9) fun y s10 ⟨yv, H10, J10, r10, acc, hD10, hz10, nx⟩ => ?_
        exact app_ok (X := X.blkX s3 H3 scope ce fp z) J10 hD10 hz10 r10 fun s11 J11 => fin J11 nx
  exact codeAny_compStart_list loop (T.self X.A 0 _ _ _ st4 loop)

def tDcX (W : WX) (wi : TI) (g : TG) (tt : TT) (tk tv : XK → TE) (vs : List Nat) : TE := fun σ H Q => wi σ H fun J H1 => ∀ D, H1 D = none → ∃ V : Nat → Nat → Hp → Prop, (∃ m, V 0 m (upd H1 D (.dK []))) ∧ ∀ i m H, V i m H →
  (J.stop i H ∧ Q (.ref D) H) ∨ (J.go i H ∧ ∃ Nx : Hp → Prop, (∀ H', Nx H' → ∃ m', m' < m ∧ V (i + 1) m' H') ∧ ∀ x H', J.yld i H x H' → g x (wipe σ vs) H' fun σ2 H2 => wipe σ2 vs = wipe σ vs ∧ tt σ2 H2 fun b H3 =>
    if b = true then tk (WE W σ) σ2 H3 fun y H4 => tv (WE W σ) σ2 H4 fun u H5 => ∃ kvs k, y = kV k ∧ H5 D = some (.dK kvs) ∧ kvs.length < sizeLine ∧ Nx (upd H5 D (.dK (putK kvs k u))) else Nx H3)
theorem pe_dcX {W : WX} {kx vx tg iter : Expr} {ifs : List Expr} {scope : Scope} {own : List (Str × Nat)} {pos : Pos} {wi : TI} {g : TG} {tt : TT} {kt vt : XK → TE} (hc : X.calm = true) (tk : Takes X W) (hst : X.stack = X.env :: X.outer) (hfr : X.env.frame = some X.env.locals) (hN : X.N.Nodup)
    (hi : PI X tg iter wi) (ok : BlkOk X.N X.env.scope scope own)
    (hg : ∀ (s : Shared) (H : Hp) (C : Addr) (cl : List (Str × Addr)) (fp : List Addr) z, PG (X.blkX s H scope (compEnvC scope cl C X.env) fp z) tg g) (ht : ∀ (s : Shared) (H : Hp) (C : Addr) (cl : List (Str × Addr)) (fp : List Addr) z, PTs (X.blkX s H scope (compEnvC scope cl C X.env) fp z) ifs tt)
    (hk : ∀ (s : Shared) (H : Hp) (C : Addr) (cl : List (Str × Addr)) (fp : List Addr) (z : Value → Shared → Prop) (E : XK), Passes (L2.CX X.prog X.w) (X.blkX s H scope (compEnvC scope cl C X.env) fp z) E → PE (X.blkX s H scope (compEnvC scope cl C X.env) fp z) kx (kt E))
    (he : ∀ (s : Shared) (H : Hp) (C : Addr) (cl : List (Str × Addr)) (fp : List Addr) (z : Value → Shared → Prop) (E : XK), Passes (L2.CX X.prog X.w) (X.blkX s H scope (compEnvC scope cl C X.env) fp z) E → PE (X.blkX s H scope (compEnvC scope cl C X.env) fp z) vx (vt E))
    (hs : ∀ x, foldedSetIterable iter X.env x = pure x := by intro _; rfl) : PE X (.DictComp kx vx [⟨tg, iter, ifs, 0⟩] scope pos) (tDcX W wi g tt kt vt (own.map (·.2))) := by
  refine ⟨fun pins s σ H Q I h => ?_⟩
  have hfree : ∀ y ∈ scope.names, y.2 = .free → ∃ c, X.env.cells.lookup y.1 = some c := fun y hy e => (ok.free y hy e).elim (fun k => I.ok.has _ (.inl k)) fun k => I.ok.has _ (.inr k)
  rw [arm_eval_DictComp]
  refine comp_enter rfl hs (closure_ok hfree) ok.kind (fun y hy e => by rw [ok.uniq y hy, e]) (thn (hi.run pins s σ H _ I h) fun xv s1 hx => thn hx fun itv s2 h2 => ?_)
  obtain ⟨it, fp, tn, Jt, H2, rfl, I2, T, st2, f2, q⟩ := h2
  refine wpAny_newObj_type (newEnv_comp ?_) 
  generalize hD : s2.heap.objs.size = D
  have hDn : H2 D = none := I2.hok.fresh (Nat.le_of_eq hD)
  obtain ⟨V, ⟨m0, w0⟩, turn⟩ := q D hDn
  generalize hs3 : ({ s2 with heap := s2.heap.push { cls := .type "dict", data := .dict #[] } } : Shared) = s3
  have I3 : Inv X pins σ (upd H2 D (.dK [])) s3 := by
    rw [← hs3]
    refine I2.laid (t' := s2.toks) (fun b o e => Heap.get?_push_of_some _ e) (Nat.le_of_eq hD) ?_
    rw [← hD]
    exact dk_empty s2.heap I2.big
  have h3 : s3.heap = s2.heap.push { cls := .type "dict", data := .dict #[] } := by rw [← hs3]
  have sz : ∀ b ∈ fp, b < s2.heap.objs.size := fun b hb => let ⟨_, e, _⟩ := T.obj _ _ st2 b hb; Heap.lt_size e
  have f3 : ∀ b ∈ fp, FpOk X pins (upd H2 D (.dK [])) b ∧ b < s3.heap.objs.size := fun b hb => by
    refine ⟨⟨?_, (f2 b hb).2⟩, by rw [h3, Heap.size_push]; exact Nat.lt_succ_of_lt (sz b hb)⟩
    rw [upd_ne (by rw [← hD]; exact Nat.ne_of_lt (sz b hb))]
    exact (f2 b hb).1
  have st3 : tn 0 s3.heap := T.keep _ _ _ st2 fun b _ o e => by rw [h3]; exact Heap.get?_push_of_some _ e
  have I4 := block_start I3 ok hN f3
  have nfp : ∀ b ∈ fp, (upd H2 D (.dK [])) b = none := fun b hb => (f3 b hb).1.1
  generalize hH3 : upd H2 D (.dK []) = H3 at I3 I4 w0 nfp f3
  have pg := hg s3 H3 s3.heap.objs.size (cellsFrom (s3.heap.objs.size + 1) scope.names (cloFrom X.env.cells scope.names [])) fp
  have pt := ht s3 H3 s3.heap.objs.size (cellsFrom (s3.heap.objs.size + 1) scope.names (cloFrom X.env.cells scope.names [])) fp
  have pk := hk s3 H3 s3.heap.objs.size (cellsFrom (s3.heap.objs.size + 1) scope.names (cloFrom X.env.cells scope.names [])) fp
  have pe := he s3 H3 s3.heap.objs.size (cellsFrom (s3.heap.objs.size + 1) scope.names (cloFrom X.env.cells scope.names [])) fp
  show codeAny _ _ (.compStart (.DictComp kx vx [⟨tg, iter, ifs, 0⟩] scope pos) 0 (.ref it) (.ref D) (compEnvC scope (cellsFrom (s3.heap.objs.size + 1) scope.names (cloFrom X.env.cells scope.names [])) s3.heap.objs.size X.env)) (cPost (model X.prog X.w) X.A X.xe _ (.ref D) s3.heap.objs.size X.env.frame)
    { s3 with heap := pushCells (s3.heap.push { cls := .type "dict", data := .dict #[] }) scope.names }
  generalize hce : compEnvC scope (cellsFrom (s3.heap.objs.size + 1) scope.names (cloFrom X.env.cells scope.names [])) s3.heap.objs.size X.env = ce at I4 pg pt pk pe ⊢
  have cL : ce.locals = s3.heap.objs.size := by subst hce; rfl
  have cF : ce.frame = X.env.frame := by subst hce; rfl
  generalize hs4 : ({ s3 with heap := pushCells (s3.heap.push { cls := .type "dict", data := .dict #[] }) scope.names } : Shared) = s4 at I4 ⊢
  have st4 : tn 0 s4.heap := T.keep _ _ _ st3 fun b _ o e => by rw [← hs4]; exact pushCells_keeps _ _ _ _ (Heap.get?_push_of_some _ e)
  generalize hPQ : cPost (model X.prog X.w) X.A X.xe (fun u s' => EP X pins σ Q u s') (.ref D) s3.heap.objs.size X.env.frame = PQ
  have hz : ∀ (p2 : List (Addr × Obj)) (σ2 : St) (H4 : Hp) (t : Shared) (u : Value) (t' : Shared), Inv (X.blkX s3 H3 scope ce fp (notedBy (model X.prog X.w) X.A ce fun e s' => PQ (.error e) s')) p2 σ2 H4 t →
      CX X.prog X.w X.stack H4 t (WE W σ) u t' → notedBy (model X.prog X.w) X.A ce (fun e s' => PQ (.error e) s') u t' := fun p2 σ2 H4 t u t' J c => by
    rw [← hPQ, ← cF]
    exact blk_out tk hst hfr I3 cL cF f3 J.xeOut c
  generalize hzz : (notedBy (model X.prog X.w) X.A ce fun e s' => PQ (.error e) s') = z at hz
  have J4 : Inv (X.blkX s3 H3 scope ce fp z) [] (wipe σ (own.map (·.2))) H3 s4 := I4.xeIn z
  have stat : ∀ {σ' : St} {H' : Hp} {s' : Shared}, Inv (X.blkX s3 H3 scope ce fp z) [] σ' H' s' → (∀ b ∈ fp, H' b = none) → ∀ b ∈ fp, FpOk (X.blkX s3 H3 scope ce fp z) [] H' b := fun {σ' H' s'} J hn b hb =>
    ⟨hn b hb, (J.ok.exf b hb).1, J.ok.exfs b hb, .inl hb, fun x c e => (J.ok.exf b hb).2 x c e, fun p hp => absurd (show p ∈ ([] : List (Addr × Obj)) ++ [] from hp) (by simp)⟩
  have loop : codeAny (model X.prog X.w) X.A (.compLoop (.DictComp kx vx [⟨tg, iter, ifs, 0⟩] scope pos) 0 (.ref it) (.ref D) ce) PQ s4 := by
    refine compLoop_anyD (fun n s' => ∃ i H', Inv (X.blkX s3 H3 scope ce fp z) [] (wipe σ (own.map (·.2))) H' s' ∧ tn i s'.heap ∧ (∀ b ∈ fp, H' b = none) ∧ V i n H') ?_ m0 ⟨0, H3, J4, st4, nfp, w0⟩
    rw [hzz]
    rintro n s5 ⟨i, H5, J5, st5, n5, w5⟩
    rcases turn i n H5 w5 with ⟨stop, qq⟩ | ⟨go, Nx, hNx, step⟩
    · refine thn (T.done (X.blkX s3 H3 scope ce fp z) rfl rfl rfl hc i [] s5 _ H5 z J5 (stat J5 n5) st5 stop) fun r s6 ⟨hr, J6⟩ => ?_
      subst hr
      have I7 : Inv X pins σ H5 s6 := I3.call' (ch := fp) J6.os J6.base J6.hok J6.bare fun b hb => ⟨(f3 b hb).1.2.2.2.1, (f3 b hb).1.2.1, (f3 b hb).1.2.2.2.2.1, (f3 b hb).1.2.2.2.2.2⟩
      have nC : H5 s3.heap.objs.size = none := by
        have y : H5 ce.locals = none := J6.free
        rw [cL] at y
        exact y
      obtain ⟨m, hn, _⟩ := J6.loc
      have hn : s6.heap.Ns ce.locals m := hn
      rw [cL] at hn
      obtain ⟨f0, f1, f4, f5, f6, f7⟩ := I3.fpOk (H' := H5) (Nat.le_refl _) nC
      rw [← hPQ]
      exact ⟨m, hn, fun g sb => ⟨.ref D, H5, I7.turned (t' := s6.toks) (fun b o hb e => (sb.2 b hb).trans e) f0 f1 f5 f6 f7, rfl, qq⟩⟩
    · refine thn (T.item (X.blkX s3 H3 scope ce fp z) rfl rfl rfl hc i [] s5 _ H5 z J5 (stat J5 n5) st5 go) fun r s6 ⟨u, hr, h6⟩ => ?_
      subst hr
      refine thn h6 fun _ s7 ⟨x, H7, J7, r7, y7, st7, n7⟩ => ?_
      have J7' := J7.pinned (stat J7 n7) (T.obj _ _ st7)
      refine thn ((pg z).run _ s7 _ H7 x u _ J7' r7 (step x H7 y7)) fun _ s8 ⟨σ8, H8, J8, hw8, q8⟩ => ?_
      refine thn ((pt z).run _ s8 σ8 H8 _ J8 q8) fun b s9 ⟨H9, J9, q9⟩ => ?_
      have fin : ∀ {s' : Shared} {H' : Hp}, Inv (X.blkX s3 H3 scope ce fp z) ([] ++ pinsAt fp s7.heap) σ8 H' s' → Nx H' → ∃ m, m < n ∧ ∃ i H', Inv (X.blkX s3 H3 scope ce fp z) [] (wipe σ (own.map (·.2))) H' s' ∧ tn i s'.heap ∧ (∀ b ∈ fp, H' b = none) ∧ V i m H' := fun {s' H'} J nx => by
        obtain ⟨m', hm, w'⟩ := hNx H' nx
        have pin' : ∀ b ∈ fp, ∀ o, s7.heap.get? b = some o → s'.heap.get? b = some o ∧ H' b = none := fun b hb o e =>
          let y := J.pin (b, o) (List.mem_append_right _ (List.mem_append_right _ (mem_pinsAt hb e)))
          ⟨y.1, y.2.1⟩
        have hl : (wipe σ (own.map (·.2))).length = σ8.length := by rw [← hw8, wipe_length]
        refine ⟨m', hm, i + 1, H', (J.unpinned (pins := [])).weak hl (fun j v e => ?_), T.keep _ _ _ st7 fun b hb o e => (pin' b hb o e).1, fun b hb => ?_, w'⟩
        · rw [← hw8] at e
          exact (wipe_some e).1
        · obtain ⟨o, e, _⟩ := T.obj _ _ st7 b hb
          exact (pin' b hb o e).2
      cases b with
      | false =>
        simp only [Bool.false_eq_true, if_false] at q9 ⊢
        exact fin J9 q9
      | true =>
        simp only [if_true] at q9 ⊢
        refine thn ((pk z (WE W σ) fun p2 σ2 H4 t u t' J c => hz p2 σ2 H4 t u t' J c).run _ s9 σ8 H9 _ J9 q9) fun y s10 ⟨yk, H10, J10, r10, q10⟩ => ?_
        refine thn ((pe z (WE W σ) fun p2 σ2 H4 t u t' J c => hz p2 σ2 H4 t u t' J c).run _ s10 σ8 H10 _ J10 q10) fun y2 s11 ⟨yv, H11, J11, r11, kvs, k, ek, hD11, hz11, nx⟩ => ?_
        subst ek
        exact d_dictSet (X := X.blkX s3 H3 scope ce fp z) J11 hD11 hz11 r10 r11 fun s12 J12 => fin J12 nx
  exact codeAny_compStart_dict loop (T.self X.A 0 _ _ _ st4 loop)
end
end L2
/-! x, *r = a list -/
namespace L2
open PySem PySem.Spec PyProof.Rows PySem.W
section
variable {X : Cx} {pos : Pos}
theorem pgs_star {e : Expr} {p : Pos} {es : List Expr} {t : TG} {u : TGs} (h1 : PG X e t) (h2 : PGs X es u)
    (hs : (assignEach (.Starred e p :: es) X.env).map (·.2) = assign e X.env :: (assignEach es X.env).map (·.2) := by rfl) : PGs X (.Starred e p :: es) (gCons t u) := by
  refine ⟨fun pins s σ H vs us Q I r h => ?_⟩
  obtain ⟨v, vr, rfl, h⟩ := h
  cases r with
  | cons r rr =>
    rw [hs]
    refine assignInOrder_cons (thn (h1.run pins s σ H _ _ _ I r h) fun _ s1 ⟨σ1, H1, I1, q1⟩ => ?_)
    exact h2.run pins s1 σ1 H1 _ _ Q I1 rr q1
/-- the first of a list, and a new list of the others -/
def gHead (K : PySem.W.Frag) (t : TGs) : TG := fun v σ H Q => ∃ (a : Addr) (x : V) (xs : List V), v = .ref a ∧ SqL K H a (x :: xs) ∧ xs.length ≤ 16000 ∧ ∀ D, H D = none → t [x, .ref D] σ (upd H D (.lst xs)) Q
theorem pg_head {es : List Expr} {k : Nat} {t : TGs} (hc : X.calm = true) (h : PGs X es t) (hn : (assignEach es X.env).length = 2 := by rfl) (hst : (assignEach es X.env).findIdx? (·.1) = some 1 := by rfl) : PG X (.Tuple es k pos) (gHead X.K t) := by
  refine ⟨fun pins s σ H v u Q I r hw => ?_⟩
  obtain ⟨l, x, xs, rfl, hq, hz, hw⟩ := hw
  cases r
  obtain ⟨us, rv, pl, _⟩ := I.list hq
  cases rv with
  | cons rx rv =>
  rename_i ux us
  have hl := pl.isList
  have sz : (ux :: us).toArray.size = xs.length + 1 := by rw [List.size_toArray, List.length_cons, ← rv.length]
  have hlt : l ≠ s.heap.objs.size := by
    obtain ⟨o, ho, _⟩ := id hl
    exact Nat.ne_of_lt (Heap.lt_size ho)
  rw [PyProof.Rows.assign_Tuple]
  refine wpAny_bind (wpAny_standAt ?_)
  unfold unpack
  rw [hn, hst]
  refine wpAny_bind (wpAny_holding ?_)
  unfold unpackItems
  refine wpAny_bind ?_
  unfold notIterableAtAll
  refine wpAny_bind (wpAny_specialOf hl.typeIs slot_list_iter.lookup (wpAny_pure ?_))
  simp only [Bool.false_eq_true, if_false]
  refine wpAny_bind (wpAny_holding (wpAny_pyIter_list hl ?_))
  refine wpAny_bind (wpAny_holding (kun_draw hlt 1 0 _ _ ⟨_, Heap.get?_push_size _ rfl, rfl, rfl⟩ (hl.push _) (by omega) fun g1 it1 e1 => ?_))
  have hl1 : g1.IsList l (ux :: us).toArray := (hl.push _).extBut e1.extBut hlt
  obtain ⟨oi, hoi, _⟩ := id it1
  obtain ⟨ol, hol, _⟩ := id hl1
  refine wpAny_bind (wpAny_holding (kun_collect (s := { s with heap := g1 }) (T := "list_iterator") (.inr (.inr (.inl rfl))) (Walks.list (A := X.A.in1) (I.ok.hd hc) s.heap.objs.size l hlt (ux :: us).toArray) (fun j u st => st.1.typeIs) (k := 1) (by omega) ⟨it1, hl1⟩ (Heap.lt_size hoi) (Heap.lt_size hol) (fun g2 tk hk => ?_) (by rw [sizeLine_eq]; omega)))
  show wpAny _ _ (newList (us.take (us.length - 0)) >>= fun d => pure ([ux] ++ [d] ++ us.drop (us.length - 0))) _ _ _
  rw [Nat.sub_zero, List.take_length, List.drop_length]
  have kp : ∀ b o, s.heap.get? b = some o → g2.get? b = some o := fun b o e => hk b o (Nat.ne_of_lt (Heap.lt_size e)) (e1.extBut b o (Nat.ne_of_lt (Heap.lt_size e)) (Heap.get?_push_of_some _ e))
  have I2 : Inv X pins σ H { s with heap := g2, toks := tk } := I.kept (t' := tk) kp
  have ul : us.length ≤ sizeLine := by rw [← rv.length, sizeLine_eq]; omega
  refine wpAny_bind (wpAny_newObj_type (wpAny_pure ?_) ul)
  have hf : H g2.objs.size = none := I2.hok.fresh (Nat.le_refl _)
  have I3 := I2.laid (a := g2.objs.size) (o := .lst xs) (h' := g2.push { cls := .type "list", data := .seq us.toArray }) (t' := tk) (fun b u e => Heap.get?_push_of_some _ e) (Nat.le_refl _) ⟨by rw [sizeLine_eq]; omega, us, 0, rv, Heap.get?_push_size _ rfl⟩
  exact h.run pins _ σ (upd H g2.objs.size (.lst xs)) [x, .ref g2.objs.size] [ux, .ref g2.objs.size] Q I3 (.cons rx (.cons rfl .nil)) (hw _ hf)
end
end L2
/-! enumerate(tuple) -/
namespace ZM
open PySem
section
variable {prog : Program} {w : World} {A : Around} {E : Value → Shared → Prop} {s : Shared} {Ka : SeqIt prog w} {e it l : Addr} {k : Nat} {xs : Array Value} {old : Value}
theorem enum_item {x : Value} {Q : Option Value → Shared → Prop} (he : IsEnum s.heap e it k old) (hit : Ka.I s.heap it l k) (hl : Ka.S s.heap l xs) (hx : xs[k]? = some x) (hne : e ≠ it)
    (hQ : ∀ g, IsEnumOut g e it ((k : Int) + 1) x s.heap.objs.size → Ka.I g it l (k + 1) → g.get? s.heap.objs.size = some { cls := .type "tuple", data := .seq #[.int k s.toks, x] } →
      (∀ b o, b ≠ e → b ≠ it → s.heap.get? b = some o → g.get? b = some o) → Q (some (.ref s.heap.objs.size)) { s with heap := g, toks := s.toks + 1 }) : wpAny (model prog w) A (pyNext (.ref e)) Q E s := by
  have ty : s.TypeIs (.ref e) "enumerate" := ⟨_, he, rfl⟩
  unfold pyNext
  refine wpAny_bind (wpAny_attempt (wpAny_callSpecial?_slot (name := Str.ofString "__next__") ty F.slot_enumerate_next (wpAny_call_entry F.slot_enumerate_next ty F.entry_enumerate_next ?_ (F.args_enumerate_next_1 _))))
  obtain ⟨hp, gn, dr, tk, os⟩ := s
  show wpAny _ _ (field (.ref e) 2 >>= _) _ _ _
  refine wpAny_bind (wpAny_field he rfl (x := .ref it) rfl (wpAny_bind (Ka.item hit hl hx fun g1 i1 e1 => ?_)))
  replace e1 : Heap.SameBut it hp g1 := e1
  have q1 : IsEnum g1 e it k old := (e1.2 e hne).trans he
  show wpAny _ _ (field (.ref e) 3 >>= _) _ _ ⟨g1, gn, dr, tk, os⟩
  refine wpAny_bind (wpAny_field q1 rfl (x := rawInt k) rfl ?_)
  show wpAny _ _ (field (.ref e) 4 >>= _) _ _ ⟨g1, gn, dr, tk, os⟩
  refine wpAny_bind (wpAny_field q1 rfl (x := .none) rfl ?_)
  show wpAny _ _ (mkInt k >>= _) _ _ ⟨g1, gn, dr, tk, os⟩
  refine wpAny_bind (wpAny_mkInt ?_)
  show wpAny _ _ (setField (.ref e) 3 (rawInt ((k : Int) + 1)) >>= _) _ _ ⟨g1, gn, dr, tk + 1, os⟩
  refine wpAny_bind (wpAny_setField_rec q1 (by simp) fun g2 q2 e2 => ?_)
  replace e2 : Heap.SameBut e g1 g2 := e2
  replace q2 : IsEnum g2 e it ((k : Int) + 1) old := q2
  show wpAny _ _ (setField (.ref e) 4 .none >>= _) _ _ ⟨g2, gn, dr, tk + 1, os⟩
  refine wpAny_bind (wpAny_setField_rec q2 (by simp) fun g3 q3 e3 => ?_)
  replace e3 : Heap.SameBut e g2 g3 := e3
  replace q3 : IsEnum g3 e it ((k : Int) + 1) old := q3
  show wpAny _ _ (newTuple [.int k tk, x] >>= _) _ _ ⟨g3, gn, dr, tk + 1, os⟩
  refine wpAny_bind (wpAny_newTuple ?_)
  have sz : g3.objs.size = hp.objs.size := by rw [e3.1, e2.1, e1.1]
  have el : e < hp.objs.size := Heap.lt_size he
  have kp : ∀ b o, b ≠ e → b ≠ it → hp.get? b = some o → (g3.push { cls := .type "tuple", data := .seq #[.int k tk, x] }).get? b = some o := fun b o n1 n2 q =>
    Heap.get?_push_of_some _ (e3.extBut b o n1 (e2.extBut b o n1 (e1.extBut b o n2 q)))
  have i4 : Ka.I (g3.push { cls := .type "tuple", data := .seq #[.int k tk, x] }) it l (k + 1) := Ka.ia (Ka.ix (Ka.ix i1 e2.extBut (Ne.symm hne)) e3.extBut (Ne.symm hne)) fun o q => Heap.get?_push_of_some _ q
  have t4 : (g3.push { cls := .type "tuple", data := .seq #[.int k tk, x] }).get? hp.objs.size = some { cls := .type "tuple", data := .seq #[.int k tk, x] } := by
    rw [← sz]
    exact Heap.get?_push_size _ rfl
  have q4 : IsEnum (g3.push { cls := .type "tuple", data := .seq #[.int k tk, x] }) e it ((k : Int) + 1) old := Heap.get?_push_of_some _ q3
  show wpAny _ _ (Builtin.SmallTypes.ownedTupleIsFree (.ref e) >>= _) _ _ ⟨_, gn, dr, tk + 1, os⟩
  rw [sz]
  generalize g3.push { cls := .type "tuple", data := .seq #[.int k tk, x] } = g4 at kp i4 t4 q4
  refine wpAny_bind ?_
  unfold Builtin.SmallTypes.ownedTupleIsFree
  refine wpAny_bind (wpAny_field q4 rfl (x := .none) rfl (wpAny_pure ?_))
  simp only [if_true]
  refine wpAny_bind (wpAny_rule (wpAny_bind (wpAny_field q4 rfl (x := old) rfl (wpAny_bind (wpAny_setField_rec q4 (by simp) fun g5 q5 e5 => ?_)))))
  replace q5 : IsEnum g5 e it ((k : Int) + 1) x := q5
  show wpAny _ _ (Builtin.SmallTypes.ownedTupleHandOut (.ref e) (.ref hp.objs.size) >>= _) _ _ ⟨g5, gn, dr, tk + 1, os⟩
  refine wpAny_bind ?_
  unfold Builtin.SmallTypes.ownedTupleHandOut
  refine wpAny_bind (wpAny_setField_rec q5 (by simp) fun g6 q6 e6 => ?_)
  replace q6 : IsEnumOut g6 e it ((k : Int) + 1) x hp.objs.size := q6
  refine wpAny_setField_rec q6 (by simp) fun g7 q7 e7 => ?_
  replace q7 : IsEnumOut g7 e it ((k : Int) + 1) x hp.objs.size := q7
  have on : ∀ b o, b ≠ e → g4.get? b = some o → g7.get? b = some o := fun b o n q => e7.extBut b o n (e6.extBut b o n (e5.extBut b o n q))
  refine wpAny_bind (wpAny_letGo (wpAny_pure ⟨_, rfl, wpAny_pure (hQ g7 q7 (Ka.ia i4 fun o q => on it o (Ne.symm hne) q) (on _ _ (Nat.ne_of_gt el) t4) fun b o n1 n2 q => on b o n1 (kp b o n1 n2 q))⟩))
theorem enum_end {Q : Option Value → Shared → Prop} (hh : A.handled = none) (he : IsEnum s.heap e it k old) (hit : Ka.I s.heap it l k) (hl : Ka.S s.heap l xs) (hx : xs[k]? = none) (hQ : ∀ g, Heap.ExtBut it s.heap g → Q none { s with heap := g }) :
    wpAny (model prog w) A (pyNext (.ref e)) Q E s := by
  have ty : s.TypeIs (.ref e) "enumerate" := ⟨_, he, rfl⟩
  unfold pyNext
  refine wpAny_bind (wpAny_attempt (wpAny_callSpecial?_slot (name := Str.ofString "__next__") ty F.slot_enumerate_next (wpAny_call_entry F.slot_enumerate_next ty F.entry_enumerate_next ?_ (F.args_enumerate_next_1 _))))
  show wpAny _ _ (field (.ref e) 2 >>= _) _ _ _
  refine wpAny_bind (wpAny_field he rfl (x := .ref it) rfl (wpAny_bind (Ka.fin hh hit hl hx fun g x eb hx' => ?_)))
  obtain ⟨o, ho, hc⟩ := hx'
  exact wpAny_bind (wpAny_isInstance (T := "StopIteration") (b := true) ⟨o, ho, hc⟩ isSubtype_stop (wpAny_pure (hQ _ eb)))
end
abbrev eg1 (h : Heap) (a : Addr) : Heap := h.push { cls := .type "tuple_iterator", data := .fields #[.ref a, .int 0 0] }
theorem meets_enumT (a : Addr) (xs : Array Value) :
    Meets (Builtin.«enumerate.__new__» ⟨[.type "enumerate", .ref a], []⟩) (fun _ R s => s.heap.IsTuple a xs ∧ R (.ok (.ret (.ref (eg1 s.heap a).objs.size)))
      { s with heap := (eg1 s.heap a).push { cls := .type "enumerate", data := .fields #[.none, .bool false, .ref s.heap.objs.size, rawInt 0, .none, .none] } }) :=
  .of_wp fun prog w A R s h => by
    obtain ⟨hp, g, d, tk, os⟩ := s; obtain ⟨hl, h⟩ := h
    have hsub := sub_enumerate
    have tA : Heap.IsTuple (Shared.heap ⟨hp, g, d, tk, os⟩) a xs := hl
    wp_walk
    refine wpAny_stack_any fun st => wpAny_pure ?_
    split
    · rename_i c _ _ _ _ _
      cases (c == Value.type "enumerate")
      all_goals
        wp_walk using wpAny_pyIter_tuple tA
        exact ⟨_, rfl, h⟩
    · wp_walk using wpAny_pyIter_tuple tA
      exact ⟨_, rfl, h⟩
end ZM
namespace L2
open PySem PySem.Spec PyProof.Rows ZM
/-- the tuple at a as it stands at each turn, each item in a new pair -/
def IteT (K : PySem.W.Frag) (a : Addr) : It where
  go := fun i H => ∃ (xs : List V) (x : V), SqT K H a xs ∧ xs[i]? = some x
  yld := fun i H v H' => ∃ T x, v = .ref T ∧ H T = none ∧ H' = upd H T (.tup [.int (i : Nat), x]) ∧ ∀ xs, SqT K H a xs → xs[i]? = some x
  stop := fun i H => ∃ xs : List V, SqT K H a xs ∧ xs.length ≤ i
theorem turn_enumT {P : Program} {w : World} {K : PySem.W.Frag} {elts : List Expr} {kk : Nat} {tpos : Pos} (a e it : Addr) :
    Turn P w K (.Tuple elts kk tpos) (IteT K a) [e, it] e (fun i h => (∃ old, IsEnum h e it ((i : Nat) : Int) old) ∧ (sTup P w).I h it a i ∧ e ≠ it) where
  mem := List.mem_cons_self
  obj := fun i h st b hb => by
    obtain ⟨⟨old, he⟩, hi, _⟩ := st
    have two : b = e ∨ b = it := by simpa using hb
    rcases two with rfl | rfl
    · exact ⟨_, he, fun v q => nomatch q⟩
    · exact (sTup P w).is hi
  keep := fun i h h' ⟨⟨old, he⟩, hi, ne⟩ k => ⟨⟨old, k e (by simp) _ he⟩, (sTup P w).ia hi fun o q => k it (by simp) o q, ne⟩
  item := by
    intro X hP hw hK hc i pins s σ H E J hf st hg
    subst hP hw hK
    obtain ⟨⟨old, he⟩, hit, hne⟩ := st
    obtain ⟨xs, x, hq, hx⟩ := hg
    obtain ⟨us, rv, p, _⟩ := J.tuple hq
    obtain ⟨u, hu, ru⟩ := rv.get hx
    have el : e < s.heap.objs.size := Heap.lt_size he
    obtain ⟨oi, hoi, _⟩ := (sTup X.prog X.w).is hit
    refine enum_item (Ka := sTup X.prog X.w) he hit p (x := u) (by simpa using hu) hne fun g ge gi gt kp => ?_
    refine ⟨_, rfl, wpAny_letOwnedTupleGo_enum (s := { s with heap := g, toks := s.toks + 1 }) ge fun g' ge' sb => ?_⟩
    have gt' : g'.get? s.heap.objs.size = some { cls := .type "tuple", data := .seq #[.int i s.toks, u] } := (sb.2 _ (Nat.ne_of_gt el)).trans gt
    have new : ObjOk X.prog X.w (upd H s.heap.objs.size (.tup [.int (i : Nat), x])) g' s.heap.objs.size (.tup [.int (i : Nat), x]) := ⟨(by show 2 ≤ sizeLine; decide), [.int i s.toks, u], .cons ⟨_, rfl⟩ (.cons ru .nil), ⟨_, gt', rfl, _, rfl⟩⟩
    have J1 : Inv X pins σ (upd H s.heap.objs.size (.tup [.int (i : Nat), x])) { s with heap := g', toks := s.toks + 1 } :=
      J.turnedNew (ch := [e, it]) (fun b ob hb q => (sb.2 b fun z => hb (by simp [z])).trans (kp b ob (fun z => hb (by simp [z])) (fun z => hb (by simp [z])) q)) hf (Nat.le_refl _) new
    refine ⟨.ref s.heap.objs.size, _, J1, rfl, ⟨_, x, rfl, J.hok.fresh (Nat.le_refl _), rfl, fun ys hy => by rw [J.tuple_inj hy hq]; exact hx⟩, ⟨⟨u, ?_⟩, (sTup X.prog X.w).ia gi fun o q => (sb.2 it (Ne.symm hne)).trans q, hne⟩, fun b hb => ?_⟩
    · have e1 : ((i + 1 : Nat) : Int) = (i : Int) + 1 := by omega
      rw [e1]
      exact ge'
    · have lt : b < s.heap.objs.size := by
        have two : b = e ∨ b = it := by simpa using hb
        rcases two with rfl | rfl
        · exact el
        · exact Heap.lt_size hoi
      rw [upd_ne (Nat.ne_of_lt lt)]
      exact (hf b hb).1
  done := by
    intro X hP hw hK hc i pins s σ H E J hf st hg
    subst hP hw hK
    obtain ⟨⟨old, he⟩, hit, hne⟩ := st
    obtain ⟨xs, hq, hx⟩ := hg
    obtain ⟨us, rv, p, _⟩ := J.tuple hq
    obtain ⟨f0, f1, f2, f3, f4, f5⟩ := hf it (by simp)
    have hl := rv.length
    exact enum_end (Ka := sTup X.prog X.w) (J.ok.hd hc) he hit p (by simp; omega) fun g eb => ⟨rfl, J.turned (t' := s.toks) (fun b o hb q => eb b o hb q) f0 f1 f3 f4 f5⟩
  self := fun A i s Q E st h => let ⟨⟨_, he⟩, _⟩ := st; wpAny_pyIter_enum he h
/-- enumerate of a list or a tuple -/
def iEnumA (K : PySem.W.Frag) (ta : TA) : TI := fun σ H R => ta σ H fun vs H1 => ∃ a xs, vs = [.ref a] ∧ ((SqL K H1 a xs ∧ R (Ite K a) H1) ∨ (SqT K H1 a xs ∧ R (IteT K a) H1))
theorem pi_enumA {X : Cx} {e : Expr} {ta : TA} {p pos tpos : Pos} {elts : List Expr} {kk : Nat} (hg : Gl X "enumerate") (hm : X.mg "enumerate" = none) (ha : PA X [e] ta) (hs : starEach [e] X.env = [(false, eval e X.env)] := by rfl) :
    PI X (.Tuple elts kk tpos) (.Call (.Name "enumerate" p) [e] [] pos) (iEnumA X.K ta) := by
  refine ⟨fun pins s σ H R J h => ?_⟩
  refine Call_ (ld_blt J hg hm boot_enumerate (callWith_type1 (thn (ha.run pos pins s σ H _ J h) fun us s1 ⟨vs, H1, J1, r1, q1⟩ => ?_) hs rfl))
  obtain ⟨a, xs, rfl, q1⟩ := q1
  obtain ⟨u, rfl, r⟩ := vals1 r1
  cases r
  have n2 : ∀ b, b ∈ [s1.heap.objs.size + 1, s1.heap.objs.size] → FpOk X pins H1 b := fun b hb => by
    have two : b = s1.heap.objs.size + 1 ∨ b = s1.heap.objs.size := by simpa using hb
    have le : s1.heap.objs.size ≤ b := by
      rcases two with z | z
      · rw [z]; exact Nat.le_add_right _ _
      · rw [z]; exact Nat.le_refl _
    exact J1.fpOk le (J1.hok.fresh le)
  rcases q1 with ⟨hq, q⟩ | ⟨hq, q⟩
  · obtain ⟨us, rv, p', _⟩ := J1.list hq
    refine call_enumerate_list p'.isList fun h' he hit hsz hk => wpAny_pyIter_enum he ?_
    have J2 : Inv X pins σ H1 { s1 with heap := h' } := J1.kept (t' := s1.toks) hk
    exact ⟨s1.heap.objs.size + 1, [s1.heap.objs.size + 1, s1.heap.objs.size], _, _, H1, rfl, J2, turn_enum a (s1.heap.objs.size + 1) s1.heap.objs.size, ⟨⟨.none, he⟩, hit, Nat.succ_ne_self _⟩, n2, q⟩
  · obtain ⟨us, rv, p', _⟩ := J1.tuple hq
    refine callType_new F.called_enumerate (by decide) (F.typeCall_enumerate_1 _) (F.newCall_enumerate_1 _) (fun obj => F.args_object_init_2 obj _) F.entry_enumerate_new (meets_enumT a us.toArray) ⟨p', ?_⟩
    have z1 : (eg1 s1.heap a).objs.size = s1.heap.objs.size + 1 := Heap.size_push ..
    have y2 : ((eg1 s1.heap a).push { cls := .type "enumerate", data := .fields #[.none, .bool false, .ref s1.heap.objs.size, rawInt 0, .none, .none] }).get? (eg1 s1.heap a).objs.size = some _ := Heap.get?_push_size _ rfl
    have y1 : ((eg1 s1.heap a).push { cls := .type "enumerate", data := .fields #[.none, .bool false, .ref s1.heap.objs.size, rawInt 0, .none, .none] }).get? s1.heap.objs.size = some _ := Heap.get?_push_of_some _ (Heap.get?_push_size _ rfl)
    have J2 : Inv X pins σ H1 { s1 with heap := (eg1 s1.heap a).push { cls := .type "enumerate", data := .fields #[.none, .bool false, .ref s1.heap.objs.size, rawInt 0, .none, .none] } } := J1.kept (t' := s1.toks) fun c o q => Heap.get?_push_of_some _ (Heap.get?_push_of_some _ q)
    show _ ∧ _
    rw [z1] at y2 ⊢
    exact ⟨⟨_, y2, rfl⟩, wpAny_pyIter_enum (old := .none) y2 ⟨s1.heap.objs.size + 1, [s1.heap.objs.size + 1, s1.heap.objs.size], _, _, H1, rfl, J2, turn_enumT a (s1.heap.objs.size + 1) s1.heap.objs.size, ⟨⟨.none, y2⟩, ⟨_, y1, rfl, rfl⟩, Nat.succ_ne_self _⟩, n2, q⟩⟩
/-- a walk over a sequence in pairs with its places, the objects laid at each turn -/
theorem for_enumA {J : It} {n : Nat} {xs : List V} (hn : xs.length = n) {g : TG} {tb : TS} {D : Ends} {σ : L2.St} {H : Hp} (Pv : Nat → L2.St → Hp → Prop) (h0 : Pv 0 σ H)
    (hJ : ∀ i σ H, Pv i σ H → (n ≤ i → J.stop i H) ∧ (i < n → J.go i H) ∧ ∀ v H', J.yld i H v H' → ∃ T x, v = .ref T ∧ H T = none ∧ H' = upd H T (.tup [.int (i : Nat), x]) ∧ xs[i]? = some x)
    (hs : ∀ (i : Nat) (x : V) (T : Addr) (σ : L2.St) (H : Hp), xs[i]? = some x → Pv i σ H → H T = none → g (.ref T) σ (upd H T (.tup [.int (i : Nat), x])) fun σ2 H2 => tb { D with nx := Pv (i + 1), ct := Pv (i + 1), bk := D.nx } σ2 H2) (hd : ∀ σ H, Pv n σ H → D.nx σ H) :
    ∃ W : Nat → Nat → L2.St → Hp → Prop, (∃ m, W 0 m σ H) ∧ ∀ i m σ H, W i m σ H →
      (J.stop i H ∧ D.nx σ H) ∨ (J.go i H ∧ ∃ N : L2.St → Hp → Prop, (∀ σ' H', N σ' H' → ∃ m', m' < m ∧ W (i + 1) m' σ' H') ∧ ∀ v H', J.yld i H v H' → g v σ H' fun σ2 H2 => tb { D with nx := N, ct := N, bk := D.nx } σ2 H2) := by
  refine ⟨fun i m σ H => m = n - i ∧ i ≤ n ∧ Pv i σ H, ⟨n, rfl, Nat.zero_le _, h0⟩, ?_⟩
  rintro i m σ H ⟨rfl, hi, p⟩
  obtain ⟨j1, j2, j3⟩ := hJ i σ H p
  by_cases hlt : i < n
  · refine .inr ⟨j2 hlt, Pv (i + 1), fun σ' H' p' => ⟨n - (i + 1), by omega, rfl, hlt, p'⟩, fun v H' y => ?_⟩
    obtain ⟨T, x, rfl, hT, rfl, hx⟩ := j3 v H' y
    exact hs i x T σ H hx p hT
  · have e : i = n := by omega
    subst e
    exact .inl ⟨j1 (Nat.le_refl _), hd σ H p⟩
theorem ite_at {K : PySem.W.Frag} {a : Addr} {xs : List V} {n i : Nat} {H : Hp} (hn : xs.length = n) (h : SqL K H a xs) : (n ≤ i → (Ite K a).stop i H) ∧ (i < n → (Ite K a).go i H) ∧ ∀ v H', (Ite K a).yld i H v H' → ∃ T x, v = .ref T ∧ H T = none ∧ H' = upd H T (.tup [.int (i : Nat), x]) ∧ xs[i]? = some x :=
  ⟨fun z => ⟨xs, h, by omega⟩, fun z => ⟨xs, xs[i]'(by omega), h, List.getElem?_eq_getElem (by omega)⟩, fun v H' ⟨T, x, a, b, c, f⟩ => ⟨T, x, a, b, c, f xs h⟩⟩
theorem iteT_at {K : PySem.W.Frag} {a : Addr} {xs : List V} {n i : Nat} {H : Hp} (hn : xs.length = n) (h : SqT K H a xs) : (n ≤ i → (IteT K a).stop i H) ∧ (i < n → (IteT K a).go i H) ∧ ∀ v H', (IteT K a).yld i H v H' → ∃ T x, v = .ref T ∧ H T = none ∧ H' = upd H T (.tup [.int (i : Nat), x]) ∧ xs[i]? = some x :=
  ⟨fun z => ⟨xs, h, by omega⟩, fun z => ⟨xs, xs[i]'(by omega), h, List.getElem?_eq_getElem (by omega)⟩, fun v H' ⟨T, x, a, b, c, f⟩ => ⟨T, x, a, b, c, f xs h⟩⟩
end L2
/-! walks over a list or a tuple; walks by what they yield -/
namespace L2
open PySem PySem.Spec PyProof.Rows
section
variable {X : Cx} {tg : Expr}
def iSeqA (K : PySem.W.Frag) (tl : TE) : TI := fun σ H R => tl σ H fun x H1 => ∃ a xs, x = .ref a ∧ ((SqL K H1 a xs ∧ R (Itl K a) H1) ∨ (SqT K H1 a xs ∧ R (Itt K a) H1))
theorem pi_seqA {l : Expr} {tl : TE} (hl : PE X l tl) : PI X tg l (iSeqA X.K tl) := by
  refine ⟨fun pins s σ H R J h => thn (hl.run pins s σ H _ J h) fun v s1 ⟨x, H1, J1, r1, q1⟩ => ?_⟩
  obtain ⟨a, xs, rfl, q1⟩ := q1
  cases r1
  have n1 : ∀ b, b ∈ [s1.heap.objs.size] → FpOk X pins H1 b := fun b hb => by
    obtain rfl : b = s1.heap.objs.size := by simpa using hb
    exact J1.fpOk (Nat.le_refl _) (J1.hok.fresh (Nat.le_refl _))
  rcases q1 with ⟨hq, q⟩ | ⟨hq, q⟩
  · obtain ⟨us, rv, p, _⟩ := J1.list hq
    exact wpAny_pyIter_list p.isList ⟨s1.heap.objs.size, [s1.heap.objs.size], _, _, H1, rfl, J1.kept (t' := s1.toks) fun b o e => Heap.get?_push_of_some _ e, turn_list a _, ⟨_, Heap.get?_push_size _ rfl, rfl, rfl⟩, n1, q⟩
  · obtain ⟨us, rv, p, _⟩ := J1.tuple hq
    exact wpAny_pyIter_tuple (show s1.heap.IsTuple a us.toArray from p) ⟨s1.heap.objs.size, [s1.heap.objs.size], _, _, H1, rfl, J1.kept (t' := s1.toks) fun b o e => Heap.get?_push_of_some _ e, turn_tuple a _, ⟨_, Heap.get?_push_size _ rfl, rfl, rfl⟩, n1, q⟩
end
/-- J walks n items, each as Y tells -/
def Walks (J : It) (n : Nat) (Y : Nat → Hp → V → Hp → Prop) (i : Nat) (H : Hp) : Prop := (n ≤ i → J.stop i H) ∧ (i < n → J.go i H) ∧ ∀ v H', J.yld i H v H' → Y i H v H'
/-- the items of xs, nothing else changed -/
def yIt (xs : List V) : Nat → Hp → V → Hp → Prop := fun i H v H' => H' = H ∧ xs[i]? = some v
theorem walks_l {K : PySem.W.Frag} {a : Addr} {xs : List V} {i : Nat} {H : Hp} (h : SqL K H a xs) : Walks (Itl K a) xs.length (yIt xs) i H :=
  ⟨fun z => ⟨xs, h, z⟩, fun z => ⟨xs, xs[i], h, List.getElem?_eq_getElem z⟩, fun v H' ⟨e, f⟩ => ⟨e, f xs h⟩⟩
theorem walks_t {K : PySem.W.Frag} {a : Addr} {xs : List V} {i : Nat} {H : Hp} (h : SqT K H a xs) : Walks (Itt K a) xs.length (yIt xs) i H :=
  ⟨fun z => ⟨xs, h, z⟩, fun z => ⟨xs, xs[i], h, List.getElem?_eq_getElem z⟩, fun v H' ⟨e, f⟩ => ⟨e, f xs h⟩⟩
/-- the items of xs and ys in new pairs -/
def yZip (xs ys : List V) : Nat → Hp → V → Hp → Prop := fun i H v H' => ∃ T x y, v = .ref T ∧ H T = none ∧ H' = upd H T (.tup [x, y]) ∧ xs[i]? = some x ∧ ys[i]? = some y
theorem walks_z {K : PySem.W.Frag} {a b : Addr} {xs ys : List V} {i n : Nat} {H : Hp} (h : SqT K H a xs) (h2 : SqL K H b ys) (hx : xs.length = n) (hy : ys.length = n) : Walks (ItzM K a b) n (yZip xs ys) i H :=
  ⟨fun z => ⟨xs, ys, h, h2, .inl (by omega)⟩, fun z => ⟨xs, ys, xs[i]'(by omega), ys[i]'(by omega), h, h2, List.getElem?_eq_getElem _, List.getElem?_eq_getElem _⟩, fun v H' ⟨T, x, y, e1, e2, e3, f, f2⟩ => ⟨T, x, y, e1, e2, e3, f xs h, f2 ys h2⟩⟩
section
variable {J : It} {n : Nat} {Y : Nat → Hp → V → Hp → Prop}
theorem for_at {g : TG} {tb : TS} {D : Ends} {σ : L2.St} {H : Hp} (Pv : Nat → L2.St → Hp → Prop) (h0 : Pv 0 σ H) (hJ : ∀ i σ H, i ≤ n → Pv i σ H → Walks J n Y i H)
    (hs : ∀ i x σ H H', i < n → Y i H x H' → Pv i σ H → g x σ H' fun σ2 H2 => tb { D with nx := Pv (i + 1), ct := Pv (i + 1), bk := D.nx } σ2 H2) (hd : ∀ σ H, Pv n σ H → D.nx σ H) :
    ∃ V : Nat → Nat → L2.St → Hp → Prop, (∃ m, V 0 m σ H) ∧ ∀ i m σ H, V i m σ H →
      (J.stop i H ∧ D.nx σ H) ∨ (J.go i H ∧ ∃ N : L2.St → Hp → Prop, (∀ σ' H', N σ' H' → ∃ m', m' < m ∧ V (i + 1) m' σ' H') ∧ ∀ x H', J.yld i H x H' → g x σ H' fun σ2 H2 => tb { D with nx := N, ct := N, bk := D.nx } σ2 H2) := by
  refine ⟨fun i m σ H => m = n - i ∧ i ≤ n ∧ Pv i σ H, ⟨n, rfl, Nat.zero_le _, h0⟩, ?_⟩
  rintro i m σ H ⟨rfl, hi, p⟩
  obtain ⟨j1, j2, j3⟩ := hJ i σ H hi p
  by_cases lt : i < n
  · exact .inr ⟨j2 lt, Pv (i + 1), fun σ' H' p' => ⟨n - (i + 1), by omega, rfl, lt, p'⟩, fun x H' y => hs i x σ H H' lt (j3 x H' y) p⟩
  · obtain rfl : i = n := by omega
    exact .inl ⟨j1 (Nat.le_refl _), hd σ H p⟩
theorem lc_at {g : TG} {tt : TT} {te : TE} {vs : List Nat} {σ : L2.St} {H1 : Hp} {D : Addr} {Qd : Hp → Prop} (Pv : Nat → Hp → Prop) (h0 : Pv 0 (upd H1 D (.lst []))) (hJ : ∀ i H, i ≤ n → Pv i H → Walks J n Y i H)
    (hs : ∀ i x H H', i < n → Y i H x H' → Pv i H → g x (wipe σ vs) H' fun σ2 H2 => wipe σ2 vs = wipe σ vs ∧ tt σ2 H2 fun b H3 =>
      if b = true then te σ2 H3 fun y H4 => ∃ acc, H4 D = some (.lst acc) ∧ acc.length < sizeLine ∧ Pv (i + 1) (upd H4 D (.lst (acc ++ [y]))) else Pv (i + 1) H3) (hd : ∀ H, Pv n H → Qd H) :
    ∃ V : Nat → Nat → Hp → Prop, (∃ m, V 0 m (upd H1 D (.lst []))) ∧ ∀ i m H, V i m H →
      (J.stop i H ∧ Qd H) ∨ (J.go i H ∧ ∃ Nx : Hp → Prop, (∀ H', Nx H' → ∃ m', m' < m ∧ V (i + 1) m' H') ∧ ∀ x H', J.yld i H x H' → g x (wipe σ vs) H' fun σ2 H2 => wipe σ2 vs = wipe σ vs ∧ tt σ2 H2 fun b H3 =>
        if b = true then te σ2 H3 fun y H4 => ∃ acc, H4 D = some (.lst acc) ∧ acc.length < sizeLine ∧ Nx (upd H4 D (.lst (acc ++ [y]))) else Nx H3) := by
  refine ⟨fun i m H => m = n - i ∧ i ≤ n ∧ Pv i H, ⟨n, rfl, Nat.zero_le _, h0⟩, ?_⟩
  rintro i m H ⟨rfl, hi, p⟩
  obtain ⟨j1, j2, j3⟩ := hJ i H hi p
  by_cases lt : i < n
  · exact .inr ⟨j2 lt, Pv (i + 1), fun H' p' => ⟨n - (i + 1), by omega, rfl, lt, p'⟩, fun x H' y => hs i x H H' lt (j3 x H' y) p⟩
  · obtain rfl : i = n := by omega
    exact .inl ⟨j1 (Nat.le_refl _), hd H p⟩
theorem dc_at {g : TG} {tt : TT} {tk tv : TE} {vs : List Nat} {σ : L2.St} {H1 : Hp} {D : Addr} {Qd : Hp → Prop} (Pv : Nat → Hp → Prop) (h0 : Pv 0 (upd H1 D (.dK []))) (hJ : ∀ i H, i ≤ n → Pv i H → Walks J n Y i H)
    (hs : ∀ i x H H', i < n → Y i H x H' → Pv i H → g x (wipe σ vs) H' fun σ2 H2 => wipe σ2 vs = wipe σ vs ∧ tt σ2 H2 fun b H3 =>
      if b = true then tk σ2 H3 fun y H4 => tv σ2 H4 fun u H5 => ∃ kvs k, y = kV k ∧ H5 D = some (.dK kvs) ∧ kvs.length < sizeLine ∧ Pv (i + 1) (upd H5 D (.dK (putK kvs k u))) else Pv (i + 1) H3) (hd : ∀ H, Pv n H → Qd H) :
    ∃ V : Nat → Nat → Hp → Prop, (∃ m, V 0 m (upd H1 D (.dK []))) ∧ ∀ i m H, V i m H →
      (J.stop i H ∧ Qd H) ∨ (J.go i H ∧ ∃ Nx : Hp → Prop, (∀ H', Nx H' → ∃ m', m' < m ∧ V (i + 1) m' H') ∧ ∀ x H', J.yld i H x H' → g x (wipe σ vs) H' fun σ2 H2 => wipe σ2 vs = wipe σ vs ∧ tt σ2 H2 fun b H3 =>
        if b = true then tk σ2 H3 fun y H4 => tv σ2 H4 fun u H5 => ∃ kvs k, y = kV k ∧ H5 D = some (.dK kvs) ∧ kvs.length < sizeLine ∧ Nx (upd H5 D (.dK (putK kvs k u))) else Nx H3) := by
  refine ⟨fun i m H => m = n - i ∧ i ≤ n ∧ Pv i H, ⟨n, rfl, Nat.zero_le _, h0⟩, ?_⟩
  rintro i m H ⟨rfl, hi, p⟩
  obtain ⟨j1, j2, j3⟩ := hJ i H hi p
  by_cases lt : i < n
  · exact .inr ⟨j2 lt, Pv (i + 1), fun H' p' => ⟨n - (i + 1), by omega, rfl, lt, p'⟩, fun x H' y => hs i x H H' lt (j3 x H' y) p⟩
  · obtain rfl : i = n := by omega
    exact .inl ⟨j1 (Nat.le_refl _), hd H p⟩
end
section
variable {X : Cx} {K : PySem.W.Frag} {o e : Expr} {es : List Expr} {to : TE} {t : TA} {name : Str} {apos cpos : Pos} {T id : String} {r : V → List V → Hp → VK → Prop}
/-- methods of built-in types within a comprehension: K written out -/
theorem pe_bm0K (hK : X.K = K) (pa : PlainAttrs T) (slot : Slot T name id) (hty : typeOf (.builtin id) = pure (.type "method_descriptor")) (hm : MtR X id r) (ho : PE X o to)
    (hb : attributeBase o name X.env (eval o X.env) = eval o X.env := by rfl) (hl : (apos.endLine == cpos.line) = true := by rfl) : PE X (.Call (.Attribute o name apos) [] [] cpos) (tBM0 K T r to) := by
  subst hK
  exact pe_bm0 pa slot hty hm ho hb hl
theorem pe_bmK (hK : X.K = K) (pa : PlainAttrs T) (slot : Slot T name id) (hty : typeOf (.builtin id) = pure (.type "method_descriptor")) (hm : MtR X id r) (ho : PE X o to) (ha : PA X (e :: es) t)
    (hb : attributeBase o name X.env (eval o X.env) = eval o X.env := by rfl)
    (hf : ((backTo cpos (starEach (e :: es) X.env)).all (fun x => !x.1) && (backToKw cpos (keywordEach [] X.env)).all (fun x => x.1.isSome) && decide ((e :: es).length + ([] : List Keyword).length + (if ([] : List Keyword).isEmpty then 0 else 1) < 30)) = true := by rfl)
    (hl : (apos.endLine == cpos.line) = true := by rfl) (hs : starEach (e :: es) X.env = (false, eval e X.env) :: starEach es X.env := by rfl) (hp : (backTo cpos (starEach es X.env)).any (·.1) = false := by rfl) :
    PE X (.Call (.Attribute o name apos) (e :: es) [] cpos) (tBM K T r to t) := by
  subst hK
  exact pe_bm pa slot hty hm ho ha hb hf hl hs hp
end
section
variable {X : Cx} {CX : CXT} {k : Nat} {f C : Addr} {fd : FuncData} {ps : List Str} {sp : Sp} {E : XK}
/-- == by an own __eq__: of two instances, or of one and a text -/
def rEqOwn (K : PySem.W.Frag) (C : Addr) (sp : Sp) (E : XK) : R2 := fun x y H Q => ∃ (a dx : Addr) (fs : List (Str × V)), x = .ref a ∧ H a = some (.ins C dx fs) ∧
  ((∃ (b dy : Addr) (gs : List (Str × V)), y = .ref b ∧ H b = some (.ins C dy gs)) ∨ (∃ z : Str, y = .str z ∧ PySem.W.subIn K (.type "str") (.ref C) = some false)) ∧ sp [x, y] H (fun v H' => (∃ b : Bool, v = .bl b) ∧ Q v H') E
theorem op_eqOwn (F : FnOk X.prog X.w X.K X.mg X.base CX k f fd ps sp) (hr : Room k X.A) (hs : PySem.W.findIn X.K (.ref C) "__eq__" = some (some (.ref f))) (hf : PySem.W.isFn X.K (.ref f) = true) (hb : Binds X.K fd ps []) (hx : Passes CX X E) : OpR X (compareOp .Eq) (rEqOwn X.K C sp E) := by
  intro pins s σ H x y v u Q J rx ry h
  obtain ⟨a, dx, fs, rfl, ha, hy, q⟩ := h
  cases rx
  have run : wpAny (model X.prog X.w) X.A (call (.ref f) [.ref a, u]) (PySem.W.CmpBack (EP X pins σ Q)) X.xe s := by
    refine thn (run_fn F hr hb .nil hx J (show Vals [V.ref a, y] [Value.ref a, u] from .cons rfl (.cons ry .nil)) q) fun r s' ⟨z, H', J', rz, ⟨b, ez⟩, qz⟩ => ?_
    subst ez
    cases rz
    exact ⟨.bl b, H', J', rfl, qz⟩
  obtain ⟨mA, O, _⟩ := ins_get J.hok ha
  obtain ⟨od, O, _⟩ := O.look
  obtain ⟨m, hF⟩ := J.fr
  show wpAny (model X.prog X.w) X.A (richCompare .Eq (.ref a) u) (EP X pins σ Q) X.xe s
  rcases hy with ⟨b, dy, gs, rfl, hb'⟩ | ⟨z, rfl, hz⟩
  · cases ry
    obtain ⟨mB, O', _⟩ := ins_get J.hok hb'
    obtain ⟨od', O', _⟩ := O'.look
    exact PySem.W.cmp_K (op := .Eq) (tb := .ref C) hr.units0 hF J.ok.mod.kin O O'.type (by simp [PySem.W.notFirst]) hs hf run
  · obtain ⟨t, rfl⟩ := ry
    exact PySem.W.cmp_K (op := .Eq) (tb := .type "str") hr.units0 hF J.ok.mod.kin O (PySem.W.Looks.of_pure rfl) (by simp [PySem.W.notFirst, hz]) hs hf run
end
theorem kit_no {K : PySem.W.Frag} {n : String} {D : Addr} (hd : PySem.W.hasDictIn K D = true) (ht : PySem.W.typeIn K (.ref D) = some (.type "type")) (hs : PySem.W.subIn K (.type n) (.ref D) = some false) : PySem.W.kitOne K (.type n) (.ref D) = some false := by
  obtain ⟨cd, hc, _⟩ := PySem.W.any_some hd
  have e : ((PySem.W.clsIn K D).isSome && PySem.W.typeIn K (.ref D) == some (.type "type")) = true := by
    rw [hc, ht]
    rfl
  unfold PySem.W.kitOne PySem.W.kitCls
  rw [if_neg (by simp)]
  show (if ((PySem.W.clsIn K D).isSome && PySem.W.typeIn K (.ref D) == some (.type "type")) = true then PySem.W.subIn K (.type n) (.ref D) else none) = some false
  rw [if_pos e]
  exact hs
section
variable {X : Cx} {K : PySem.W.Frag}
theorem pi_zipMK {e e2 : Expr} {ta : TA} {p pos tpos : Pos} {elts : List Expr} {kk : Nat} (hK : X.K = K) (hg : Gl X "zip") (hm : X.mg "zip" = none) (ha : PA X [e, e2] ta)
    (hs : starEach [e, e2] X.env = (false, eval e X.env) :: starEach [e2] X.env := by rfl) (hp : (backTo pos (starEach [e2] X.env)).any (·.1) = false := by rfl) : PI X (.Tuple elts kk tpos) (.Call (.Name "zip" p) [e, e2] [] pos) (iZipM K ta) := by
  subst hK
  exact pi_zipM hg hm ha hs hp
theorem pe_fldK {e : Expr} {f : Str} {pos : Pos} {ta : TE} (hK : X.K = K) (he : PE X e ta) (hb : attributeBase e f X.env (eval e X.env) = eval e X.env) : PE X (.Attribute e f pos) (tFld K ta f) := by
  subst hK
  exact pe_fld he hb
end
section
variable {X : Cx}
/-- a, b = x, y with plain local names: stored from the right -/
def tPar2 (i j : Nat) (ta : TA) : TS := fun D σ H => ta σ H fun vs H1 => ∃ u v, vs = [u, v] ∧ D.nx ((σ.set i (some u)).set j (some v)) H1
theorem ps_par2 {i j : Nat} {x y : Str} {a b : Expr} {ta : TA} {px py pt pos : Pos} {kt k2 pt2} (hc : X.calm = true) (hN : X.N.Nodup) (hi : X.N[i]? = some x) (hj : X.N[j]? = some y) (hij : i ≠ j) (hx : X.env.scope.names.lookup x = some .local) (hy : X.env.scope.names.lookup y = some .local)
    (ha : PA X [a, b] ta) (hw : swappedStores [.Tuple [.Name x px, .Name y py] kt pt] (.Tuple [a, b] k2 pt2) X.env = pure (some [x, y])) (hs : swapsWithSole [.Tuple [.Name x px, .Name y py] kt pt] (.Tuple [a, b] k2 pt2) pos.line X.env = pure false := by rfl) :
    PS X (.Assign [.Tuple [.Name x px, .Name y py] kt pt] (.Tuple [a, b] k2 pt2) pos) (tPar2 i j ta) := by
  refine ⟨fun pins s σ H D J h => ?_⟩
  rw [exec_Assign_arm]
  refine wpAny_bind (wpAny_standAt ?_)
  rw [hs]
  refine wpAny_bind (wpAny_pure ?_)
  rw [if_neg (by decide)]
  refine wpAny_bind (Tuple_ (thn (ha.run _ pins s σ H _ J h) fun us s1 ⟨vs, H1, J1, r1, q1⟩ => ?_))
  obtain ⟨v1, v2, rfl, q1⟩ := q1
  obtain ⟨u1, u2, rfl, ra, rb⟩ := vals2 r1
  refine wpAny_newObj_type ?_ (by show 2 ≤ sizeLine; decide)
  have J2 : Inv X pins σ H1 { s1 with heap := s1.heap.push { cls := .type "tuple", data := .seq [u1, u2].toArray } } := J1.kept (t' := s1.toks) fun b o e => Heap.get?_push_of_some _ e
  rw [hw]
  refine wpAny_bind (wpAny_pure ?_)
  show wpAny (model X.prog X.w) X.A (do rule "assign.swapped-stores"; let items ← unpackItems (.ref s1.heap.objs.size) 2 none; assignInOrder [fun v => bindName X.env y v, fun v => bindName X.env x v] items.reverse; pure Flow.next) _ _ _
  refine wpAny_bind (wpAny_rule (wpAny_bind (unpackItems_tuple (items := #[u1, u2]) (J.ok.hd hc) (IsTup.new s1.heap _) fun h' hx' => ?_)))
  have J3 := J2.kept (h' := h') (t' := s1.toks) fun b o e => hx' b o (Nat.ne_of_lt (Heap.lt_size e)) e
  show wpAny _ _ (assignInOrder [fun v => bindName X.env y v, fun v => bindName X.env x v] [u2, u1] >>= fun _ => pure Flow.next) _ _ _
  refine wpAny_bind (assignInOrder_cons (wpAny_bindName (store_ok J3 hN hj (.inl hy) rb (fun s2 J4 => ?_) (.inr hy))))
  refine assignInOrder_cons (wpAny_bindName (store_ok J4 hN hi (.inl hx) ra (fun s3 J5 => assignInOrder_nil (wpAny_pure ?_)) (.inr hx)))
  rw [List.set_comm _ _ (Ne.symm hij)] at J5
  exact ⟨_, H1, J5, q1⟩
end
end L2
set_option autoImplicit false
/-! data without a heap; what a heap holds of it -/
namespace Dv
open PySem PySem.Spec PyProof.Rows L2
open SX (S S_len S_cat)
inductive D where
  | non | bl (b : Bool) | int (i : Int) | str (l : List Nat) | ty (n : String) | cls (c : Nat)
  | tup (xs : List D) | lst (xs : List D) | dct (kvs : List (D × D)) | obj (c : Nat) (fs : List D)
/-- a class of the text: where it stands, its objects' attributes in the order of their making -/
structure Cd where
  C : Addr
  fl : List Str
def keyD : D → Option Key
  | .int i => some (.inl i)
  | .str l => some (.inr (S l))
  | _ => none
mutual
inductive Rp (K : PySem.W.Frag) (cd : Nat → Cd) (G : Hp) : D → V → Prop
  | non : Rp K cd G .non .non
  | bl (b : Bool) : Rp K cd G (.bl b) (.bl b)
  | int (i : Int) : Rp K cd G (.int i) (.int i)
  | str (l : List Nat) : Rp K cd G (.str l) (.str (S l))
  | ty (n : String) : Rp K cd G (.ty n) (.ty n)
  | cls (c : Nat) : Rp K cd G (.cls c) (.ref (cd c).C)
  | tup {a : Addr} {vs : List V} {ds : List D} : G a = some (.tup vs) → RpL K cd G ds vs → Rp K cd G (.tup ds) (.ref a)
  | tupK {a : Addr} {vs : List V} {ds : List D} : (∀ H, SqT K H a vs) → RpL K cd G ds vs → Rp K cd G (.tup ds) (.ref a)
  | lst {a : Addr} {vs : List V} {ds : List D} : G a = some (.lst vs) → RpL K cd G ds vs → Rp K cd G (.lst ds) (.ref a)
  | dct {a : Addr} {kvs : List (Key × V)} {ds : List (D × D)} : G a = some (.dK kvs) → RpK K cd G ds kvs → Rp K cd G (.dct ds) (.ref a)
  | obj {a dx : Addr} {c : Nat} {fs : List (Str × V)} {ds : List D} : G a = some (.ins (cd c).C dx fs) → RpF K cd G (cd c).fl ds fs → Rp K cd G (.obj c ds) (.ref a)
inductive RpL (K : PySem.W.Frag) (cd : Nat → Cd) (G : Hp) : List D → List V → Prop
  | nil : RpL K cd G [] []
  | cons {d : D} {v : V} {ds : List D} {vs : List V} : Rp K cd G d v → RpL K cd G ds vs → RpL K cd G (d :: ds) (v :: vs)
inductive RpK (K : PySem.W.Frag) (cd : Nat → Cd) (G : Hp) : List (D × D) → List (Key × V) → Prop
  | nil : RpK K cd G [] []
  | cons {q d : D} {k : Key} {v : V} {ds : List (D × D)} {kvs : List (Key × V)} : keyD q = some k → Rp K cd G d v → RpK K cd G ds kvs → RpK K cd G ((q, d) :: ds) ((k, v) :: kvs)
inductive RpF (K : PySem.W.Frag) (cd : Nat → Cd) (G : Hp) : List Str → List D → List (Str × V) → Prop
  | nil {ns : List Str} : RpF K cd G ns [] []
  | cons {n : Str} {ns : List Str} {d : D} {v : V} {ds : List D} {fs : List (Str × V)} : Rp K cd G d v → RpF K cd G ns ds fs → RpF K cd G (n :: ns) (d :: ds) ((n, v) :: fs)
end
section
variable {K : PySem.W.Frag} {cd : Nat → Cd} {G G' H H' : Hp}
mutual
theorem Rp.mono (e : Same G G') {d : D} {v : V} (h : Rp K cd G d v) : Rp K cd G' d v := by
  cases h with
  | non => exact .non
  | bl b => exact .bl b
  | int i => exact .int i
  | str l => exact .str l
  | ty n => exact .ty n
  | cls c => exact .cls c
  | tup h r => exact .tup (e _ _ h) (RpL.mono e r)
  | tupK h r => exact .tupK h (RpL.mono e r)
  | lst h r => exact .lst (e _ _ h) (RpL.mono e r)
  | dct h r => exact .dct (e _ _ h) (RpK.mono e r)
  | obj h r => exact .obj (e _ _ h) (RpF.mono e r)
theorem RpL.mono (e : Same G G') {ds : List D} {vs : List V} (h : RpL K cd G ds vs) : RpL K cd G' ds vs := by
  cases h with
  | nil => exact .nil
  | cons a b => exact .cons (Rp.mono e a) (RpL.mono e b)
theorem RpK.mono (e : Same G G') {ds : List (D × D)} {vs : List (Key × V)} (h : RpK K cd G ds vs) : RpK K cd G' ds vs := by
  cases h with
  | nil => exact .nil
  | cons k a b => exact .cons k (Rp.mono e a) (RpK.mono e b)
theorem RpF.mono (e : Same G G') {ns : List Str} {ds : List D} {vs : List (Str × V)} (h : RpF K cd G ns ds vs) : RpF K cd G' ns ds vs := by
  cases h with
  | nil => exact .nil
  | cons a b => exact .cons (Rp.mono e a) (RpF.mono e b)
end
theorem RpL.len : ∀ {ds : List D} {vs : List V}, RpL K cd G ds vs → vs.length = ds.length
  | _, _, .nil => rfl
  | _, _, .cons _ r => by rw [List.length_cons, List.length_cons, RpL.len r]
theorem RpL.at : ∀ {ds : List D} {vs : List V} {i : Nat} {d : D}, RpL K cd G ds vs → ds[i]? = some d → ∃ v, vs[i]? = some v ∧ Rp K cd G d v
  | _, _, _, _, .nil, e => by simp at e
  | _, _, 0, _, .cons a _, e => by simp at e; subst e; exact ⟨_, rfl, a⟩
  | _, _, i + 1, d, .cons _ r, e => by
    obtain ⟨v, h1, h2⟩ := RpL.at (i := i) (d := d) r (by simpa using e)
    exact ⟨v, by simpa using h1, h2⟩
theorem RpL.atV : ∀ {ds : List D} {vs : List V} {i : Nat} {v : V}, RpL K cd G ds vs → vs[i]? = some v → ∃ d, ds[i]? = some d ∧ Rp K cd G d v
  | _, _, _, _, .nil, e => by simp at e
  | _, _, 0, _, .cons a _, e => by simp at e; subst e; exact ⟨_, rfl, a⟩
  | _, _, i + 1, v, .cons _ r, e => by
    obtain ⟨d, h1, h2⟩ := RpL.atV (i := i) (v := v) r (by simpa using e)
    exact ⟨d, by simpa using h1, h2⟩
theorem RpL.app : ∀ {ds es : List D} {vs us : List V}, RpL K cd G ds vs → RpL K cd G es us → RpL K cd G (ds ++ es) (vs ++ us)
  | _, _, _, _, .nil, s => s
  | _, _, _, _, .cons a r, s => .cons a (RpL.app r s)
theorem RpL.take : ∀ {ds : List D} {vs : List V} (n : Nat), RpL K cd G ds vs → RpL K cd G (ds.take n) (vs.take n)
  | _, _, 0, _ => .nil
  | _, _, _ + 1, .nil => .nil
  | _, _, n + 1, .cons a r => .cons a (RpL.take n r)
theorem RpL.drop : ∀ {ds : List D} {vs : List V} (n : Nat), RpL K cd G ds vs → RpL K cd G (ds.drop n) (vs.drop n)
  | _, _, 0, r => r
  | _, _, _ + 1, .nil => .nil
  | _, _, n + 1, .cons _ r => RpL.drop n r
theorem RpL.set {d : D} {v : V} (q : Rp K cd G d v) : ∀ {ds : List D} {vs : List V} (i : Nat), RpL K cd G ds vs → RpL K cd G (ds.set i d) (vs.set i v)
  | _, _, _, .nil => .nil
  | _, _, 0, .cons _ r => .cons q r
  | _, _, i + 1, .cons a r => .cons a (RpL.set q i r)
theorem RpL.rev {ds : List D} {vs : List V} (r : RpL K cd G ds vs) : RpL K cd G ds.reverse vs.reverse := by
  induction ds generalizing vs with
  | nil => cases r; exact .nil
  | cons d ds ih =>
    cases r with
    | cons a b =>
      rw [List.reverse_cons, List.reverse_cons]
      exact (ih b).app (.cons a .nil)
theorem RpL.erase : ∀ {ds : List D} {vs : List V} (i : Nat), RpL K cd G ds vs → RpL K cd G (ds.eraseIdx i) (vs.eraseIdx i)
  | _, _, _, .nil => .nil
  | _, _, 0, .cons _ r => r
  | _, _, i + 1, .cons a r => .cons a (RpL.erase i r)
/-- what is shared lies in the whole heap; a dict may be locked there -/
def Sub (G H : Hp) : Prop := ∀ a o, G a = some o → H a = some o ∨ ∃ kvs ob, o = .dK kvs ∧ H a = some (.frz ob o)
theorem Sub.ofSame (s : Sub G H) (e : Same H H') : Sub G H' := fun a o h => (s a o h).imp (e a o) fun ⟨k, ob, x, y⟩ => ⟨k, ob, x, e _ _ y⟩
theorem Sub.lst (s : Sub G H) {a : Addr} {vs : List V} (h : G a = some (.lst vs)) : H a = some (.lst vs) := by
  rcases s a _ h with h | ⟨_, _, e, _⟩
  · exact h
  · cases e
theorem Sub.tup (s : Sub G H) {a : Addr} {vs : List V} (h : G a = some (.tup vs)) : H a = some (.tup vs) := by
  rcases s a _ h with h | ⟨_, _, e, _⟩
  · exact h
  · cases e
theorem Sub.ins (s : Sub G H) {a C dx : Addr} {fs : List (Str × V)} (h : G a = some (.ins C dx fs)) : H a = some (.ins C dx fs) := by
  rcases s a _ h with h | ⟨_, _, e, _⟩
  · exact h
  · cases e
theorem Sub.dct (s : Sub G H) {a : Addr} {kvs : List (Key × V)} (h : G a = some (.dK kvs)) : Rd H a (.dK kvs) := by
  rcases s a _ h with h | ⟨k, ob, e, h⟩
  · exact .inl h
  · exact .inr ⟨ob, h⟩
theorem Sub.some (s : Sub G H) {a : Addr} (h : H a = none) : G a = none := by
  cases e : G a with
  | none => rfl
  | some o => rcases s a o e with q | ⟨_, _, _, q⟩ <;> (rw [h] at q; cases q)
/-- d at v, its first layer read in H, what lies below shared -/
def Bv (K : PySem.W.Frag) (cd : Nat → Cd) (H G : Hp) : D → V → Prop
  | .lst ds, v => ∃ a vs, v = .ref a ∧ H a = some (.lst vs) ∧ RpL K cd G ds vs
  | .tup ds, v => ∃ a vs, v = .ref a ∧ SqT K H a vs ∧ RpL K cd G ds vs ∧ Rp K cd G (.tup ds) v
  | .dct ds, v => ∃ a kvs, v = .ref a ∧ Rd H a (.dK kvs) ∧ RpK K cd G ds kvs
  | .obj c ds, v => ∃ a dx fs, v = .ref a ∧ H a = some (.ins (cd c).C dx fs) ∧ RpF K cd G (cd c).fl ds fs
  | d, v => Rp K cd G d v
theorem Rp.bv (s : Sub G H) {d : D} {v : V} (h : Rp K cd G d v) : Bv K cd H G d v := by
  cases h with
  | tup h r => exact ⟨_, _, rfl, SqT.of (s.tup h), r, .tup h r⟩
  | tupK h r => exact ⟨_, _, rfl, h H, r, .tupK h r⟩
  | lst h r => exact ⟨_, _, rfl, s.lst h, r⟩
  | dct h r => exact ⟨_, _, rfl, s.dct h, r⟩
  | obj h r => exact ⟨_, _, _, rfl, s.ins h, r⟩
  | non => exact .non
  | bl b => exact .bl b
  | int i => exact .int i
  | str l => exact .str l
  | ty n => exact .ty n
  | cls c => exact .cls c
theorem sqT_same (e : Same H H') {a : Addr} {xs : List V} (h : SqT K H a xs) : SqT K H' a xs := by
  rcases h with (h | ⟨o, h⟩) | h
  · exact .inl (.inl (e _ _ h))
  · exact .inl (.inr ⟨o, e _ _ h⟩)
  · exact .inr h
theorem rd_same (e : Same H H') {a : Addr} {u : HO} (h : Rd H a u) : Rd H' a u := by
  rcases h with h | ⟨o, h⟩
  · exact .inl (e _ _ h)
  · exact .inr ⟨o, e _ _ h⟩
theorem Bv.mono (e : Same H H') (g : Same G G') {d : D} {v : V} (h : Bv K cd H G d v) : Bv K cd H' G' d v := by
  cases d with
  | lst ds => obtain ⟨a, vs, x, y, r⟩ := h; exact ⟨a, vs, x, e _ _ y, r.mono g⟩
  | tup ds => obtain ⟨a, vs, x, y, r, z⟩ := h; exact ⟨a, vs, x, sqT_same e y, r.mono g, z.mono g⟩
  | dct ds => obtain ⟨a, vs, x, y, r⟩ := h; exact ⟨a, vs, x, rd_same e y, r.mono g⟩
  | obj c ds => obtain ⟨a, dx, vs, x, y, r⟩ := h; exact ⟨a, dx, vs, x, e _ _ y, r.mono g⟩
  | non => exact Rp.mono g h
  | bl b => exact Rp.mono g h
  | int i => exact Rp.mono g h
  | str l => exact Rp.mono g h
  | ty n => exact Rp.mono g h
  | cls c => exact Rp.mono g h
/-- d at a, held by one name -/
def Ow (K : PySem.W.Frag) (cd : Nat → Cd) (H G : Hp) : D → Addr → Prop
  | .lst ds, a => ∃ vs, H a = some (.lst vs) ∧ RpL K cd G ds vs
  | .dct ds, a => ∃ kvs, H a = some (.dK kvs) ∧ RpK K cd G ds kvs
  | .obj c ds, a => ∃ dx fs, H a = some (.ins (cd c).C dx fs) ∧ RpF K cd G (cd c).fl ds fs
  | _, _ => False
theorem Ow.bv {d : D} {a : Addr} (h : Ow K cd H G d a) : Bv K cd H G d (.ref a) := by
  cases d with
  | lst ds => obtain ⟨vs, y, r⟩ := h; exact ⟨a, vs, rfl, y, r⟩
  | dct ds => obtain ⟨vs, y, r⟩ := h; exact ⟨a, vs, rfl, .inl y, r⟩
  | obj c ds => obtain ⟨dx, vs, y, r⟩ := h; exact ⟨a, dx, vs, rfl, y, r⟩
  | _ => exact h.elim
theorem Ow.mono {d : D} {a : Addr} (e : ∀ o, H a = some o → H' a = some o) (g : Same G G') (h : Ow K cd H G d a) : Ow K cd H' G' d a := by
  cases d with
  | lst ds => obtain ⟨vs, y, r⟩ := h; exact ⟨vs, e _ y, r.mono g⟩
  | dct ds => obtain ⟨vs, y, r⟩ := h; exact ⟨vs, e _ y, r.mono g⟩
  | obj c ds => obtain ⟨dx, vs, y, r⟩ := h; exact ⟨dx, vs, e _ y, r.mono g⟩
  | _ => exact h.elim
theorem Ow.at {d : D} {a : Addr} (h : Ow K cd H G d a) : ∃ o, H a = some o ∧ ∀ G', Same G G' → G' a = some o → Rp K cd G' d (.ref a) := by
  cases d with
  | lst ds => obtain ⟨vs, y, r⟩ := h; exact ⟨_, y, fun G' g e => .lst e (r.mono g)⟩
  | dct ds => obtain ⟨vs, y, r⟩ := h; exact ⟨_, y, fun G' g e => .dct e (r.mono g)⟩
  | obj c ds => obtain ⟨dx, vs, y, r⟩ := h; exact ⟨_, y, fun G' g e => .obj e (r.mono g)⟩
  | _ => exact h.elim
end
end Dv
/-! names' slots, steps, what an evaluation gives -/
namespace Dv
open PySem PySem.Spec PyProof.Rows L2
open SX (S S_len S_cat)
/-- what a slot holds: nothing that is known; data that is shared; data that is lent to us; data that we alone hold, and may change -/
inductive Sl where
  | no | sh (d : D) | bo (d : D) | ow (d : D)
abbrev En := List Sl
inductive Rv where
  | sl (i : Nat) | sh (d : D) | ow (d : D)
inductive Rs where
  | stuck | ok (r : Rv) (e : En) | exc (c : Nat) (fs : List D) (e : En)
inductive Fl where
  | stuck | nx (e : En) | rt (r : Rv) (e : En) | bk (e : En) | ct (e : En) | exc (c : Nat) (fs : List D) (e : En)
def Rs.bind (r : Rs) (k : Rv → En → Rs) : Rs := match r with
  | .stuck => .stuck
  | .ok r e => k r e
  | .exc c fs e => .exc c fs e
abbrev St := L2.St
abbrev EN : St → XK := fun _ => E0
/-- a is ours -/
def Mn (e : En) (σ : St) (a : Addr) : Prop := ∃ (i : Nat) (d : D), e[i]? = some (Sl.ow d) ∧ σ[i]? = some (some (V.ref a))
/-- data that may be changed -/
def isM : D → Bool
  | .lst _ => true
  | .dct _ => true
  | .obj _ _ => true
  | _ => false
theorem Bv.there {K : PySem.W.Frag} {cd : Nat → Cd} {H G : Hp} {d : D} {a : Addr} (h : Bv K cd H G d (V.ref a)) (m : isM d = true) : ∃ o, H a = some o := by
  cases d with
  | lst ds => obtain ⟨_, _, e1, e2, _⟩ := h; cases e1; exact ⟨_, e2⟩
  | dct ds => obtain ⟨_, _, e1, e2, _⟩ := h; cases e1; rcases e2 with e2 | ⟨_, e2⟩ <;> exact ⟨_, e2⟩
  | obj c ds => obtain ⟨_, _, _, e1, e2, _⟩ := h; cases e1; exact ⟨_, e2⟩
  | _ => cases m
/-- a step that leaves the first layer -/
theorem Bv.step {K : PySem.W.Frag} {cd : Nat → Cd} {H G H' G' : Hp} {d : D} {a : Addr} (h : Bv K cd H G d (V.ref a)) (m : isM d = true) (e : ∀ o, H a = some o → H' a = some o) (g : Same G G') : Bv K cd H' G' d (V.ref a) := by
  cases d with
  | lst ds => obtain ⟨_, _, e1, e2, r⟩ := h; cases e1; exact ⟨_, _, rfl, e _ e2, r.mono g⟩
  | dct ds => obtain ⟨_, _, e1, e2, r⟩ := h; cases e1; exact ⟨_, _, rfl, e2.imp (e _) (fun ⟨o, q⟩ => ⟨o, e _ q⟩), r.mono g⟩
  | obj c ds => obtain ⟨_, _, _, e1, e2, r⟩ := h; cases e1; exact ⟨_, _, _, rfl, e _ e2, r.mono g⟩
  | _ => cases m
structure Gd (K : PySem.W.Frag) (cd : Nat → Cd) (ox : Addr → Prop) (H G : Hp) (e : En) (σ : St) : Prop where
  sub : Sub G H
  len : e.length = σ.length
  sh : ∀ (i : Nat) (d : D), e[i]? = some (Sl.sh d) → ∃ v, σ[i]? = some (some v) ∧ Rp K cd G d v
  bo : ∀ (i : Nat) (d : D), e[i]? = some (Sl.bo d) → ∃ a, σ[i]? = some (some (V.ref a)) ∧ Bv K cd H G d (V.ref a) ∧ isM d = true ∧ ¬ Mn e σ a ∧ ox a
  ow : ∀ (i : Nat) (d : D), e[i]? = some (Sl.ow d) → ∃ a, σ[i]? = some (some (V.ref a)) ∧ G a = none ∧ Ow K cd H G d a
  old : ∀ a, ox a → ∃ o, H a = some o
  inj : ∀ (i j : Nat) (d d' : D) (a : Addr), e[i]? = some (Sl.ow d) → e[j]? = some (Sl.ow d') → σ[i]? = some (some (V.ref a)) → σ[j]? = some (some (V.ref a)) → i = j
structure Stp (H G : Hp) (M : Addr → Prop) (H' G' : Hp) (M' : Addr → Prop) : Prop where
  fr : ∀ a o, H a = some o → ¬ M a → H' a = some o
  gg : Same G G'
  gn : ∀ a o, H a = some o → ¬ M a → G a = none → G' a = none
  mm : ∀ a, M' a → M a ∨ H a = none
  al : ∀ a o, H a = some o → ∃ o', H' a = some o'
theorem Stp.refl {H G : Hp} {M : Addr → Prop} : Stp H G M H G M := ⟨fun _ _ h _ => h, Same.refl _, fun _ _ _ _ h => h, fun _ h => .inl h, fun _ o h => ⟨o, h⟩⟩
section
variable {H G H1 G1 H2 G2 : Hp} {M M1 M2 : Addr → Prop}
theorem Stp.back (s : Stp H G M H1 G1 M1) {a : Addr} (h : H1 a = none) : M a ∨ H a = none := by
  cases e : H a with
  | none => exact .inr rfl
  | some o =>
    by_cases m : M a
    · exact .inl m
    · have := s.fr a o e m
      rw [h] at this; cases this
theorem Stp.trans (s : Stp H G M H1 G1 M1) (t : Stp H1 G1 M1 H2 G2 M2) : Stp H G M H2 G2 M2 := by
  have nm : ∀ a o, H a = some o → ¬ M a → ¬ M1 a := fun a o h m q => by
    rcases s.mm a q with z | z
    · exact m z
    · rw [h] at z; cases z
  refine ⟨fun a o h m => t.fr a o (s.fr a o h m) (nm a o h m), s.gg.trans t.gg, fun a o h m g => t.gn a o (s.fr a o h m) (nm a o h m) (s.gn a o h m g), fun a q => ?_, fun a o h => let ⟨o', h'⟩ := s.al a o h; t.al a o' h'⟩
  rcases t.mm a q with z | z
  · exact s.mm a z
  · exact s.back z
theorem Stp.mono (s : Stp H G M H1 G1 M1) (h : ∀ a, M2 a → M1 a) : Stp H G M H1 G1 M2 := ⟨s.fr, s.gg, s.gn, fun a q => s.mm a (h a q), s.al⟩
end
/-- only new things -/
structure Gr (H G H' G' : Hp) : Prop where
  hh : Same H H'
  gg : Same G G'
  sub : Sub G' H'
  gn : ∀ a o, H a = some o → G a = none → G' a = none
theorem Gr.refl {H G : Hp} (s : Sub G H) : Gr H G H G := ⟨Same.refl _, Same.refl _, s, fun _ _ _ h => h⟩
theorem Gr.stp {H G H' G' : Hp} {M : Addr → Prop} (g : Gr H G H' G') : Stp H G M H' G' M := ⟨fun a o h _ => g.hh a o h, g.gg, fun a o h _ q => g.gn a o h q, fun _ h => .inl h, fun a o h => ⟨o, g.hh a o h⟩⟩
theorem Gr.trans {H G H1 G1 H2 G2 : Hp} (a : Gr H G H1 G1) (b : Gr H1 G1 H2 G2) : Gr H G H2 G2 := ⟨a.hh.trans b.hh, a.gg.trans b.gg, b.sub, fun x o h q => b.gn x o (a.hh x o h) (a.gn x o h q)⟩
theorem Gr.same {H G H' : Hp} (s : Sub G H) (e : Same H H') : Gr H G H' G := ⟨e, Same.refl _, s.ofSame e, fun _ _ _ h => h⟩
theorem same_upd {H : Hp} {p : Addr} {o : HO} (h : H p = none) : Same H (upd H p o) := fun b u e => by
  rw [upd_ne (ne_of_none e h)]
  exact e
/-- a new thing, ours for now -/
theorem Gr.new {H G : Hp} (s : Sub G H) {p : Addr} {o : HO} (h : H p = none) : Gr H G (upd H p o) G := Gr.same s (same_upd h)
/-- a new thing, shared at once -/
theorem Gr.newS {H G : Hp} (s : Sub G H) {p : Addr} {o : HO} (h : H p = none) : Gr H G (upd H p o) (upd G p o) := by
  refine ⟨same_upd h, same_upd (s.some h), fun a u e => ?_, fun a u e g => ?_⟩
  · by_cases q : a = p
    · subst q; rw [upd_same] at e; cases e; exact .inl upd_same
    · rw [upd_ne q] at e
      rw [upd_ne q]
      exact s a u e
  · have q : a ≠ p := ne_of_none e h
    rw [upd_ne q]; exact g
section
variable {K : PySem.W.Frag} {cd : Nat → Cd} {ox : Addr → Prop} {H G H' G' : Hp} {e : En} {σ : St}
theorem Gd.grow (g : Gd K cd ox H G e σ) (x : Gr H G H' G') : Gd K cd ox H' G' e σ where
  sub := x.sub
  len := g.len
  sh := fun i d h => let ⟨v, a, b⟩ := g.sh i d h; ⟨v, a, b.mono x.gg⟩
  bo := fun i d h => let ⟨v, a, b, c⟩ := g.bo i d h; ⟨v, a, b.mono x.hh x.gg, c⟩
  ow := fun i d h => by
    obtain ⟨a, p, q, r⟩ := g.ow i d h
    obtain ⟨o, ho, _⟩ := r.at
    exact ⟨a, p, x.gn a o ho q, r.mono (fun o => x.hh a o) x.gg⟩
  old := fun a h => let ⟨o, q⟩ := g.old a h; ⟨o, x.hh a o q⟩
  inj := g.inj
/-- ours is shared from now on -/
theorem Gd.pub (g : Gd K cd ox H G e σ) {a : Addr} {d : D} (n : G a = none) (o : Ow K cd H G d a) (hm : ∀ (i : Nat) (d' : D), e[i]? = some (Sl.ow d') → σ[i]? ≠ some (some (V.ref a))) :
    ∃ G', Gd K cd ox H G' e σ ∧ Stp H G (fun x => Mn e σ x ∨ x = a) H G' (Mn e σ) ∧ Rp K cd G' d (V.ref a) := by
  obtain ⟨u, hu, mk⟩ := o.at
  have e1 : Same G (upd G a u) := same_upd n
  refine ⟨upd G a u, ⟨fun b w q => ?_, g.len, fun i d h => let ⟨v, x, y⟩ := g.sh i d h; ⟨v, x, y.mono e1⟩, fun i d h => let ⟨v, x, y, z⟩ := g.bo i d h; ⟨v, x, y.mono (Same.refl _) e1, z⟩, fun i d' h => ?_, g.old, g.inj⟩, ⟨fun _ _ h _ => h, e1, fun b w h m q => ?_, fun b h => .inl (.inl h), fun _ o h => ⟨o, h⟩⟩, mk _ e1 upd_same⟩
  · by_cases z : b = a
    · subst z; rw [upd_same] at q; cases q; exact .inl hu
    · rw [upd_ne z] at q; exact g.sub b w q
  · obtain ⟨b, p, q, r⟩ := g.ow i d' h
    have z : b ≠ a := fun z => hm i d' h (by rw [p, z])
    exact ⟨b, p, by rw [upd_ne z]; exact q, r.mono (fun _ h => h) e1⟩
  · have z : b ≠ a := fun z => m (.inr z)
    rw [upd_ne z]; exact q
/-- a result -/
def Rw (K : PySem.W.Frag) (cd : Nat → Cd) (H : Hp) (M : Addr → Prop) (H' G' : Hp) (e' : En) (σ : St) : Rv → V → Prop
  | .sl i, v => σ[i]? = some (some v)
  | .sh d, v => Rp K cd G' d v
  | .ow d, v => ∃ a, v = .ref a ∧ G' a = none ∧ Ow K cd H' G' d a ∧ ¬ Mn e' σ a ∧ (∀ (i : Nat) (d' : D), e'[i]? = some (Sl.bo d') → σ[i]? ≠ some (some (V.ref a))) ∧ (M a ∨ H a = none)
/-- an exception -/
def Xw (K : PySem.W.Frag) (cd : Nat → Cd) (H : Hp) (M : Addr → Prop) (H' G' : Hp) (c : Nat) (fs : List D) (od : Option Addr) : Prop :=
  (fs = [] ∧ od = none) ∨ ∃ a fs', od = some a ∧ (M a ∨ H a = none) ∧ H' a = some (.xd fs') ∧ RpF K cd G' (cd c).fl fs fs' ∧ fs ≠ []
def RsW (K : PySem.W.Frag) (cd : Nat → Cd) (ox : Addr → Prop) (E : St → XK) (Q : VK) (H G : Hp) (σ : St) (e : En) : Rs → Prop
  | .stuck => False
  | .ok r e' => ∀ H' G' v, Gd K cd ox H' G' e' σ → Stp H G (Mn e σ) H' G' (Mn e' σ) → Rw K cd H (Mn e σ) H' G' e' σ r v → Q v H'
  | .exc c fs e' => ∀ H' G' od, Gd K cd ox H' G' e' σ → Stp H G (Mn e σ) H' G' (Mn e' σ) → Xw K cd H (Mn e σ) H' G' c fs od → E σ (Value.ref (cd c).C) od H'
def EvD (K : PySem.W.Frag) (cd : Nat → Cd) (E : St → XK) (t : TE) (f : En → Rs) : Prop := ∀ {ox : Addr → Prop} (H G : Hp) (e : En) (σ : St), Gd K cd ox H G e σ → ∀ Q : VK, RsW K cd ox E Q H G σ e (f e) → t σ H Q
variable {E : St → XK} {Q : VK} {H1 G1 : Hp} {e1 : En} {t : TE} {f : En → Rs} {r : Rs}
theorem RsW.stp (w : RsW K cd ox E Q H G σ e r) (s : Stp H G (Mn e σ) H1 G1 (Mn e1 σ)) : RsW K cd ox E Q H1 G1 σ e1 r := by
  have bk : ∀ a, (Mn e1 σ a ∨ H1 a = none) → Mn e σ a ∨ H a = none := fun a h => h.elim (s.mm a) s.back
  cases r with
  | stuck => exact w
  | ok r e' =>
    intro H' G' v g s' q
    refine w H' G' v g (s.trans s') ?_
    cases r with
    | sl i => exact q
    | sh d => exact q
    | ow d => obtain ⟨a, h1, h2, h3, h4, h5, h6⟩ := q; exact ⟨a, h1, h2, h3, h4, h5, bk a h6⟩
  | exc c fs e' =>
    intro H' G' od g s' q
    refine w H' G' od g (s.trans s') ?_
    rcases q with q | ⟨a, fs', h1, h2, h3⟩
    · exact .inl q
    · exact .inr ⟨a, fs', h1, bk a h2, h3⟩
theorem stp_pub {a : Addr} (s : Stp H G (Mn e σ) H1 G1 (Mn e1 σ)) (hm : Mn e σ a ∨ H a = none) {G2 : Hp} (p : Stp H1 G1 (fun x => Mn e1 σ x ∨ x = a) H1 G2 (Mn e1 σ)) : Stp H G (Mn e σ) H1 G2 (Mn e1 σ) := by
  refine ⟨s.fr, s.gg.trans p.gg, fun b o h m q => ?_, s.mm, s.al⟩
  refine p.gn b o (s.fr b o h m) (fun z => ?_) (s.gn b o h m q)
  rcases z with z | z
  · rcases s.mm b z with y | y
    · exact m y
    · rw [h] at y; cases y
  · subst z
    rcases hm with y | y
    · exact m y
    · rw [h] at y; cases y
/-- the result shared (a name stays a name) -/
def pubR : Rs → Rs
  | .ok (.ow d) e => .ok (.sh d) e
  | r => r
theorem EvD.pub (h : EvD K cd E t f) : EvD K cd E t (fun e => pubR (f e)) := by
  intro ox H G e σ g Q w
  refine h H G e σ g Q ?_
  have w' : RsW K cd ox E Q H G σ e (pubR (f e)) := w
  cases q : f e with
  | stuck => rw [q] at w'; exact w'
  | exc c fs e' => rw [q] at w'; exact w'
  | ok r e' =>
    rw [q] at w'
    cases r with
    | sl i => exact w'
    | sh d => exact w'
    | ow d =>
      intro H' G' v g' s' q'
      obtain ⟨a, rfl, h2, h3, h4, h5, h6⟩ := q'
      obtain ⟨G2, g2, s2, r2⟩ := g'.pub h2 h3 (fun i d' z y => h4 ⟨i, d', z, y⟩)
      exact w' H' G2 _ g2 (stp_pub s' h6 s2) r2
/-- what an operand holds until it is read: a name, or shared data -/
def Pd (K : PySem.W.Frag) (cd : Nat → Cd) (G : Hp) (σ : St) : Rv → V → Prop
  | .sl i, v => σ[i]? = some (some v)
  | .sh d, v => Rp K cd G d v
  | .ow _, _ => False
theorem Pd.mono {r : Rv} {v : V} (h : Pd K cd G σ r v) (g : Same G G') : Pd K cd G' σ r v := by
  cases r with
  | sl i => exact h
  | sh d => exact Rp.mono g h
  | ow d => exact h
theorem EvD.seq {k : Rv → En → Rs} {Q' : VK} (h : EvD K cd E t f) (g : Gd K cd ox H G e σ)
    (hk : ∀ r e1 H1 G1 v, Gd K cd ox H1 G1 e1 σ → Same G G1 → Pd K cd G1 σ r v → RsW K cd ox E Q H1 G1 σ e1 (k r e1) → Q' v H1) (w : RsW K cd ox E Q H G σ e ((pubR (f e)).bind k)) : t σ H Q' := by
  refine h.pub H G e σ g Q' ?_
  show RsW K cd ox E Q' H G σ e (pubR (f e))
  cases q : pubR (f e) with
  | stuck => rw [q] at w; exact w
  | exc c fs e' => rw [q] at w; exact w
  | ok r e' =>
    rw [q] at w
    intro H' G' v g' s' q'
    refine hk r e' H' G' v g' s'.gg ?_ (w.stp s')
    cases r with
    | sl i => exact q'
    | sh d => exact q'
    | ow d => cases h : f e with
      | stuck => rw [h] at q; cases q
      | exc _ _ _ => rw [h] at q; cases q
      | ok r2 e2 => rw [h] at q; cases r2 <;> cases q
/-- what is read at an operand -/
def rdv (e : En) : Rv → Option D
  | .sl i => match e[i]? with
    | some (.sh d) => some d
    | some (.bo d) => some d
    | some (.ow d) => some d
    | _ => none
  | .sh d => some d
  | .ow _ => none
theorem Gd.rd (g : Gd K cd ox H G e σ) {r : Rv} {v : V} {d : D} (p : Pd K cd G σ r v) (h : rdv e r = some d) : Bv K cd H G d v := by
  cases r with
  | sh d' => cases h; exact Rp.bv g.sub p
  | ow _ => cases h
  | sl i =>
    have p' : σ[i]? = some (some v) := p
    unfold rdv at h
    cases q : e[i]? with
    | none => simp only [q] at h; cases h
    | some s =>
      simp only [q] at h
      cases s with
      | no => cases h
      | sh d' => cases h; obtain ⟨u, a, b⟩ := g.sh i _ q; rw [p'] at a; cases a; exact Rp.bv g.sub b
      | bo d' => cases h; obtain ⟨u, a, b, _⟩ := g.bo i _ q; rw [p'] at a; cases a; exact b
      | ow d' => cases h; obtain ⟨u, a, b, c⟩ := g.ow i _ q; rw [p'] at a; cases a; exact c.bv
/-- a result that an operation makes -/
def Rz (K : PySem.W.Frag) (cd : Nat → Cd) (H H' G' : Hp) : Rv → V → Prop
  | .sl _, _ => False
  | .sh d, v => Rp K cd G' d v
  | .ow d, v => ∃ a, v = .ref a ∧ H a = none ∧ G' a = none ∧ Ow K cd H' G' d a
theorem RsW.gr {rv : Rv} (g : Gd K cd ox H G e σ) (w : RsW K cd ox E Q H G σ e (.ok rv e)) {v : V} (x : Gr H G H' G') (z : Rz K cd H H' G' rv v) : Q v H' := by
  refine w H' G' v (g.grow x) x.stp ?_
  cases rv with
  | sl i => exact z.elim
  | sh d => exact z
  | ow d =>
    obtain ⟨a, rfl, h1, h2, h3⟩ := z
    refine ⟨a, rfl, h2, h3, fun ⟨i, d', q, p⟩ => ?_, fun i d' q p => ?_, .inr h1⟩
    · obtain ⟨b, x1, x2, x3⟩ := g.ow i d' q
      rw [p] at x1; cases x1
      obtain ⟨o, ho, _⟩ := x3.at
      rw [h1] at ho; cases ho
    · obtain ⟨b, x1, x2, x3, _, _⟩ := g.bo i d' q
      rw [p] at x1; cases x1
      obtain ⟨o, ho⟩ := x2.there x3
      rw [h1] at ho; cases ho
end
end Dv
/-! expressions -/
namespace Dv
open PySem PySem.Spec PyProof.Rows L2
open SX (S S_len S_cat)
section
variable {K : PySem.W.Frag} {cd : Nat → Cd} {ox : Addr → Prop} {E : St → XK} {H G H' G' : Hp} {e : En} {σ : St} {Q : VK} {t ta tb tc : TE} {a b c : En → Rs}
def eStuck : En → Rs := fun _ => .stuck
def eVar (i : Nat) : En → Rs := fun e => match e[i]? with
  | some (.sh _) => .ok (.sl i) e
  | some (.bo _) => .ok (.sl i) e
  | some (.ow _) => .ok (.sl i) e
  | _ => .stuck
theorem ev_var {i : Nat} : EvD K cd E (tVar i) (eVar i) := by
  intro ox H G e σ g Q w
  unfold eVar at w
  have fin : ∀ v, σ[i]? = some (some v) → RsW K cd ox E Q H G σ e (.ok (.sl i) e) → tVar i σ H Q := fun v h w => ⟨v, h, w H G v g .refl h⟩
  cases q : e[i]? with
  | none => rw [q] at w; exact w.elim
  | some s =>
    rw [q] at w
    cases s with
    | no => exact w.elim
    | sh d => obtain ⟨v, h, _⟩ := g.sh i d q; exact fin v h w
    | bo d => obtain ⟨v, h, _⟩ := g.bo i d q; exact fin _ h w
    | ow d => obtain ⟨v, h, _⟩ := g.ow i d q; exact fin _ h w
def eC (d : D) : En → Rs := fun e => .ok (.sh d) e
theorem ev_c {v : V} {d : D} (h : ∀ G, Rp K cd G d v) : EvD K cd E (tC v) (eC d) := fun {ox} H G e σ g Q w => w H G v g .refl (h G)
theorem ev_int {i : Int} : EvD K cd E (tC (.int i)) (eC (.int i)) := ev_c fun _ => .int i
theorem ev_bl {i : Bool} : EvD K cd E (tC (.bl i)) (eC (.bl i)) := ev_c fun _ => .bl i
theorem ev_non : EvD K cd E (tC .non) (eC .non) := ev_c fun _ => .non
theorem ev_str {l : List Nat} : EvD K cd E (tC (.str (S l))) (eC (.str l)) := ev_c fun _ => .str l
theorem ev_ty {n : String} : EvD K cd E (tC (.ty n)) (eC (.ty n)) := ev_c fun _ => .ty n
/-- an operation on values that makes only new things -/
def O2 (K : PySem.W.Frag) (cd : Nat → Cd) (r : R2) (op : D → D → Option Rv) : Prop :=
  ∀ (H G : Hp) (x y : D) (v w : V) (z : Rv), Sub G H → Bv K cd H G x v → Bv K cd H G y w → op x y = some z → ∀ Q : VK, (∀ H' G' u, Gr H G H' G' → Rz K cd H H' G' z u → Q u H') → r v w H Q
def O1 (K : PySem.W.Frag) (cd : Nat → Cd) (r : V → Hp → VK → Prop) (op : D → Option Rv) : Prop :=
  ∀ (H G : Hp) (x : D) (v : V) (z : Rv), Sub G H → Bv K cd H G x v → op x = some z → ∀ Q : VK, (∀ H' G' u, Gr H G H' G' → Rz K cd H H' G' z u → Q u H') → r v H Q
/-- the answer is at hand -/
theorem Rz.sh {d : D} {v : V} (s : Sub G H) (r : Rp K cd G d v) {Q : VK} (q : ∀ H' G' u, Gr H G H' G' → Rz K cd H H' G' (.sh d) u → Q u H') : Q v H := q H G v (.refl s) r
def opR (e : En) : Option Rv → Rs
  | some z => .ok z e
  | none => .stuck
def eOp2 (op : D → D → Option Rv) (a b : En → Rs) : En → Rs := fun e => (pubR (a e)).bind fun r1 e1 => (pubR (b e1)).bind fun r2 e2 => opR e2 ((rdv e2 r1).bind fun x => (rdv e2 r2).bind fun y => op x y)
def eOp1 (op : D → Option Rv) (a : En → Rs) : En → Rs := fun e => (pubR (a e)).bind fun r1 e1 => opR e1 ((rdv e1 r1).bind op)
theorem opR_some {o : Option Rv} (w : RsW K cd ox E Q H G σ e (opR e o)) : ∃ z, o = some z ∧ RsW K cd ox E Q H G σ e (.ok z e) := by
  cases o with
  | none => exact w.elim
  | some z => exact ⟨z, rfl, w⟩
theorem bind_some {α β : Type} {o : Option α} {f : α → Option β} {z : β} (h : o.bind f = some z) : ∃ x, o = some x ∧ f x = some z := by
  cases o with
  | none => cases h
  | some x => exact ⟨x, rfl, h⟩
theorem ev_op2 {r : R2} {op : D → D → Option Rv} (ho : O2 K cd r op) (ha : EvD K cd E ta a) (hb : EvD K cd E tb b) : EvD K cd E (tOp r ta tb) (eOp2 op a b) := fun {ox} H G e σ g Q w =>
  ha.seq g (fun r1 e1 H1 G1 v1 g1 _ p1 w1 => hb.seq g1 (fun r2 e2 H2 G2 v2 g2 s2 p2 w2 => by
    obtain ⟨z, hz, w3⟩ := opR_some w2
    obtain ⟨x, hx, hz⟩ := bind_some hz
    obtain ⟨y, hy, hz⟩ := bind_some hz
    exact ho H2 G2 x y v1 v2 z g2.sub (g2.rd (p1.mono s2) hx) (g2.rd p2 hy) hz Q fun H' G' u gr rz => w3.gr g2 gr rz) w1) w
theorem ev_un {r : V → Hp → VK → Prop} {op : D → Option Rv} (ho : O1 K cd r op) (ha : EvD K cd E ta a) : EvD K cd E (tUn r ta) (eOp1 op a) := fun {ox} H G e σ g Q w =>
  ha.seq g (fun r1 e1 H1 G1 v1 g1 _ p1 w1 => by
    obtain ⟨z, hz, w3⟩ := opR_some w1
    obtain ⟨x, hx, hz⟩ := bind_some hz
    exact ho H1 G1 x v1 z g1.sub (g1.rd p1 hx) hz Q fun H' G' u gr rz => w3.gr g1 gr rz) w
/-! tests -/
def tE (t : TT) : TE := fun σ H Q => t σ H fun b H1 => Q (.bl b) H1
abbrev EvT (K : PySem.W.Frag) (cd : Nat → Cd) (E : St → XK) (t : TT) (f : En → Rs) : Prop := EvD K cd E (tE t) f
def blD : D → Option Rv
  | .bl b => some (.sh (.bl b))
  | _ => none
/-- the answer must be True or False -/
def eTest (a : En → Rs) : En → Rs := eOp1 blD a
theorem bv_bl {v : V} {b : Bool} (h : Bv K cd H G (.bl b) v) : v = .bl b := by cases h; rfl
theorem bv_int {v : V} {b : Int} (h : Bv K cd H G (.int b) v) : v = .int b := by cases h; rfl
theorem bv_str {v : V} {b : List Nat} (h : Bv K cd H G (.str b) v) : v = .str (S b) := by cases h; rfl
theorem bv_non {v : V} (h : Bv K cd H G .non v) : v = .non := by cases h; rfl
theorem rp_bl {v : V} {b : Bool} (h : Rp K cd G (.bl b) v) : v = .bl b := by cases h; rfl
theorem ev_testK (ha : EvD K cd E ta a) : EvT K cd E (fun σ H Q => ta σ H fun x H1 => ∃ c, x = .bl c ∧ Q c H1) (eTest a) := fun {ox} H G e σ g Q w =>
  ha.seq g (fun r1 e1 H1 G1 v1 g1 _ p1 w1 => by
    obtain ⟨z, hz, w3⟩ := opR_some w1
    obtain ⟨x, hx, hz⟩ := bind_some hz
    have hv := g1.rd p1 hx
    cases x with
    | bl b =>
      cases hz
      exact ⟨b, bv_bl hv, w3 H1 G1 _ g1 .refl (.bl b)⟩
    | _ => cases hz) w
theorem et_test (ha : EvD K cd E ta a) : EvT K cd E (tTest ta) (eTest a) := ev_testK ha
theorem et_B (ha : EvD K cd E ta a) : EvT K cd E (tB ta) (eTest a) := ev_testK ha
/-- the first answer decides: yes or no -/
def eBr (c a b : En → Rs) : En → Rs := fun e => match c e with
  | .ok (.sh (.bl true)) e1 => a e1
  | .ok (.sh (.bl false)) e1 => b e1
  | .exc c fs e1 => .exc c fs e1
  | _ => .stuck
theorem ev_br {tt : TT} {Q' : Bool → Hp → Prop} (hc : EvT K cd E tt c) (g : Gd K cd ox H G e σ) (w : RsW K cd ox E Q H G σ e (eBr c a b e))
    (h1 : ∀ H1 G1 e1, Gd K cd ox H1 G1 e1 σ → RsW K cd ox E Q H1 G1 σ e1 (a e1) → Q' true H1) (h2 : ∀ H1 G1 e1, Gd K cd ox H1 G1 e1 σ → RsW K cd ox E Q H1 G1 σ e1 (b e1) → Q' false H1) : tt σ H Q' := by
  have k : tE tt σ H fun v H1 => ∃ b, v = .bl b ∧ Q' b H1 := by
    refine hc H G e σ g _ ?_
    unfold eBr at w
    cases q : c e with
    | stuck => rw [q] at w; exact w
    | exc c fs e' => rw [q] at w; exact w
    | ok r e' =>
      rw [q] at w
      cases r with
      | sl i => exact w.elim
      | ow d => exact w.elim
      | sh d =>
        cases d with
        | bl b =>
          intro H1 G1 v g1 s1 r1
          cases b with
          | true => exact ⟨true, rp_bl r1, h1 H1 G1 e' g1 (w.stp s1)⟩
          | false => exact ⟨false, rp_bl r1, h2 H1 G1 e' g1 (w.stp s1)⟩
        | _ => exact w.elim
  have e : (fun (b : Bool) (H1 : Hp) => ∃ b', V.bl b = V.bl b' ∧ Q' b' H1) = Q' := by
    funext b H1
    exact propext ⟨fun ⟨b', h, q⟩ => by cases h; exact q, fun q => ⟨b, rfl, q⟩⟩
  have k2 : tt σ H (fun (b : Bool) (H1 : Hp) => ∃ b', V.bl b = V.bl b' ∧ Q' b' H1) := k
  rw [e] at k2
  exact k2
def eBl (b : Bool) : En → Rs := eC (.bl b)
theorem et_and {t u : TT} (ha : EvT K cd E t a) (hb : EvT K cd E u b) : EvT K cd E (tAnd t u) (eBr a b (eBl false)) := fun {ox} H G e σ g Q w =>
  ev_br (Q' := fun b H1 => if b = true then u σ H1 (fun b H2 => Q (.bl b) H2) else Q (.bl false) H1) ha g w (fun H1 G1 e1 g1 w1 => by show u σ H1 _; exact hb H1 G1 e1 σ g1 Q w1) (fun H1 G1 e1 g1 w1 => by show Q (.bl false) H1; exact w1 H1 G1 _ g1 .refl (.bl false))
theorem et_or {t u : TT} (ha : EvT K cd E t a) (hb : EvT K cd E u b) : EvT K cd E (tOr t u) (eBr a (eBl true) b) := fun {ox} H G e σ g Q w =>
  ev_br (Q' := fun b H1 => if b = true then Q (.bl true) H1 else u σ H1 (fun b H2 => Q (.bl b) H2)) ha g w (fun H1 G1 e1 g1 w1 => by show Q (.bl true) H1; exact w1 H1 G1 _ g1 .refl (.bl true)) (fun H1 G1 e1 g1 w1 => by show u σ H1 _; exact hb H1 G1 e1 σ g1 Q w1)
theorem et_not {t : TT} (ha : EvT K cd E t a) : EvT K cd E (tNot t) (eBr a (eBl false) (eBl true)) := fun {ox} H G e σ g Q w =>
  ev_br (Q' := fun b H1 => Q (.bl (!b)) H1) ha g w (fun H1 G1 e1 g1 w1 => w1 H1 G1 _ g1 .refl (.bl false)) (fun H1 G1 e1 g1 w1 => w1 H1 G1 _ g1 .refl (.bl true))
theorem ev_if {t : TT} (hc : EvT K cd E t c) (ha : EvD K cd E ta a) (hb : EvD K cd E tb b) : EvD K cd E (tIf t ta tb) (eBr c a b) := fun {ox} H G e σ g Q w =>
  ev_br hc g w (fun H1 G1 e1 g1 w1 => by show ta σ H1 Q; exact ha H1 G1 e1 σ g1 Q w1) (fun H1 G1 e1 g1 w1 => by show tb σ H1 Q; exact hb H1 G1 e1 σ g1 Q w1)
theorem ev_andV (ha : EvD K cd E ta a) (hb : EvD K cd E tb b) : EvD K cd E (tAndV ta tb) (eBr (eTest a) b (eBl false)) := fun {ox} H G e σ g Q w => by
  have k := ev_br (Q' := fun b H1 => if b = true then tb σ H1 Q else Q (.bl false) H1) (ev_testK ha) g w (fun H1 G1 e1 g1 w1 => by show tb σ H1 Q; exact hb H1 G1 e1 σ g1 Q w1) (fun H1 G1 e1 g1 w1 => by show Q (.bl false) H1; exact w1 H1 G1 _ g1 .refl (.bl false))
  exact k
theorem ev_orV (ha : EvD K cd E ta a) (hb : EvD K cd E tb b) : EvD K cd E (tOrV ta tb) (eBr (eTest a) (eBl true) b) := fun {ox} H G e σ g Q w => by
  have k := ev_br (Q' := fun b H1 => if b = true then Q (.bl true) H1 else tb σ H1 Q) (ev_testK ha) g w (fun H1 G1 e1 g1 w1 => by show Q (.bl true) H1; exact w1 H1 G1 _ g1 .refl (.bl true)) (fun H1 G1 e1 g1 w1 => by show tb σ H1 Q; exact hb H1 G1 e1 σ g1 Q w1)
  exact k
theorem ev_notV (ha : EvD K cd E ta a) : EvD K cd E (tNotV ta) (eBr (eTest a) (eBl false) (eBl true)) := fun {ox} H G e σ g Q w => by
  have k := ev_br (Q' := fun b H1 => Q (.bl (!b)) H1) (ev_testK ha) g w (fun H1 G1 e1 g1 w1 => w1 H1 G1 _ g1 .refl (.bl false)) (fun H1 G1 e1 g1 w1 => w1 H1 G1 _ g1 .refl (.bl true))
  exact k
/-- a op1 b op2 c -/
def eChain (op op' : D → D → Option Rv) (a b c : En → Rs) : En → Rs := fun e => (pubR (a e)).bind fun r1 e1 => (pubR (b e1)).bind fun r2 e2 => match (rdv e2 r1).bind fun x => (rdv e2 r2).bind fun y => op x y with
  | some (.sh (.bl true)) => (pubR (c e2)).bind fun r3 e3 => opR e3 ((rdv e3 r2).bind fun y => (rdv e3 r3).bind fun z => op' y z)
  | some (.sh (.bl false)) => .ok (.sh (.bl false)) e2
  | _ => .stuck
theorem ev_chain {r r' : R2} {op op' : D → D → Option Rv} (ho : O2 K cd r op) (ho' : O2 K cd r' op') (ha : EvD K cd E ta a) (hb : EvD K cd E tb b) (hc : EvD K cd E tc c) : EvD K cd E (tChain r r' ta tb tc) (eChain op op' a b c) := fun {ox} H G e σ g Q w =>
  ha.seq g (fun r1 e1 H1 G1 v1 g1 _ p1 w1 => hb.seq g1 (fun r2 e2 H2 G2 v2 g2 s2 p2 w2 => by
    cases q : (rdv e2 r1).bind fun x => (rdv e2 r2).bind fun y => op x y with
    | none => rw [q] at w2; exact w2.elim
    | some z =>
      rw [q] at w2
      obtain ⟨x, hx, hz⟩ := bind_some q
      obtain ⟨y, hy, hz⟩ := bind_some hz
      refine ho H2 G2 x y v1 v2 z g2.sub (g2.rd (p1.mono s2) hx) (g2.rd p2 hy) hz _ fun H3 G3 u gr rz => ?_
      cases z with
      | sl i => exact rz.elim
      | ow d => exact w2.elim
      | sh d =>
        cases d with
        | bl k =>
          have g3 := g2.grow gr
          have w3 := w2.stp (e1 := e2) (σ := σ) (gr.stp)
          refine ⟨k, rp_bl rz, ?_⟩
          cases k with
          | false => show Q (.bl false) H3; exact w3 H3 G3 _ g3 .refl (.bl false)
          | true =>
            show tc σ H3 _
            refine hc.seq g3 (fun r3 e3 H4 G4 v3 g4 s4 p3 w4 => ?_) w3
            obtain ⟨z, hz, w5⟩ := opR_some w4
            obtain ⟨y', hy', hz⟩ := bind_some hz
            obtain ⟨x', hx', hz⟩ := bind_some hz
            exact ho' H4 G4 y' x' v2 v3 z g4.sub (g4.rd ((p2.mono gr.gg).mono s4) hy') (g4.rd p3 hx') hz Q fun H' G' u gr rz => w5.gr g4 gr rz
        | _ => exact w2.elim) w1) w
/-! argument lists -/
inductive As where
  | stuck | ok (rs : List Rv) (e : En) | exc (c : Nat) (fs : List D) (e : En)
def As.bind (r : As) (k : List Rv → En → Rs) : Rs := match r with
  | .stuck => .stuck
  | .ok r e => k r e
  | .exc c fs e => .exc c fs e
def aNil : En → As := fun e => .ok [] e
def aCons (a : En → Rs) (f : En → As) : En → As := fun e => match pubR (a e) with
  | .stuck => .stuck
  | .exc c fs e => .exc c fs e
  | .ok r e1 => match f e1 with
    | .stuck => .stuck
    | .exc c fs e => .exc c fs e
    | .ok rs e2 => .ok (r :: rs) e2
/-- what the arguments hold -/
inductive PdL (K : PySem.W.Frag) (cd : Nat → Cd) (G : Hp) (σ : St) : List Rv → List V → Prop
  | nil : PdL K cd G σ [] []
  | cons {r : Rv} {v : V} {rs : List Rv} {vs : List V} : Pd K cd G σ r v → PdL K cd G σ rs vs → PdL K cd G σ (r :: rs) (v :: vs)
theorem PdL.mono {rs : List Rv} {vs : List V} (h : PdL K cd G σ rs vs) (s : Same G G') : PdL K cd G' σ rs vs := by
  induction h with
  | nil => exact .nil
  | cons a _ ih => exact .cons (a.mono s) ih
def EvA (K : PySem.W.Frag) (cd : Nat → Cd) (E : St → XK) (t : TA) (f : En → As) : Prop := ∀ {ox : Addr → Prop} {H G : Hp} {e : En} {σ : St} {Q : VK} {k : List Rv → En → Rs} {Q' : List V → Hp → Prop}, Gd K cd ox H G e σ →
  (∀ rs e1 H1 G1 vs, Gd K cd ox H1 G1 e1 σ → Same G G1 → PdL K cd G1 σ rs vs → RsW K cd ox E Q H1 G1 σ e1 (k rs e1) → Q' vs H1) → RsW K cd ox E Q H G σ e ((f e).bind k) → t σ H Q'
theorem ea_nil : EvA K cd E tNil aNil := fun {ox H G e σ Q k Q'} g hk w => hk [] e H G [] g (Same.refl _) .nil w
theorem ea_cons {t : TA} {f : En → As} (ha : EvD K cd E ta a) (hf : EvA K cd E t f) : EvA K cd E (tCons ta t) (aCons a f) := fun {ox H G e σ Q k Q'} g hk w =>
  ha.seq (k := fun r e1 => (f e1).bind fun rs e2 => k (r :: rs) e2) g (fun r1 e1 H1 G1 v1 g1 s1 p1 w1 => hf g1 (fun rs e2 H2 G2 vs g2 s2 p2 w2 => hk (r1 :: rs) e2 H2 G2 (v1 :: vs) g2 (s1.trans s2) (.cons (p1.mono s2) p2) w2) w1) (by
    unfold aCons As.bind Rs.bind at *
    cases q : pubR (a e) with
    | stuck => rw [q] at w; exact w
    | exc c fs e' => rw [q] at w; exact w
    | ok r e1 =>
      rw [q] at w
      show RsW K cd ox E Q H G σ e (match f e1 with | .stuck => .stuck | .ok r' e => k (r :: r') e | .exc c fs e => .exc c fs e)
      have w' : RsW K cd ox E Q H G σ e (match (match f e1 with | .stuck => As.stuck | .exc c fs e => .exc c fs e | .ok rs e2 => .ok (r :: rs) e2) with | .stuck => .stuck | .ok r e => k r e | .exc c fs e => .exc c fs e) := w
      cases q2 : f e1 with
      | stuck => rw [q2] at w'; exact w'
      | exc c fs e' => rw [q2] at w'; exact w'
      | ok rs e2 => rw [q2] at w'; exact w')
def rdL (e : En) : List Rv → Option (List D)
  | [] => some []
  | r :: rs => (rdv e r).bind fun d => (rdL e rs).bind fun ds => some (d :: ds)
inductive BvL (K : PySem.W.Frag) (cd : Nat → Cd) (H G : Hp) : List D → List V → Prop
  | nil : BvL K cd H G [] []
  | cons {d : D} {v : V} {ds : List D} {vs : List V} : Bv K cd H G d v → BvL K cd H G ds vs → BvL K cd H G (d :: ds) (v :: vs)
theorem Gd.rdL (g : Gd K cd ox H G e σ) : ∀ {rs : List Rv} {vs : List V} {ds : List D}, PdL K cd G σ rs vs → rdL e rs = some ds → BvL K cd H G ds vs
  | [], _, ds, .nil, h => by cases h; exact .nil
  | r :: rs, _, ds, .cons p ps, h => by
    obtain ⟨d, hd, h⟩ := bind_some h
    obtain ⟨ds', hds, h⟩ := bind_some h
    cases h
    exact .cons (g.rd p hd) (Gd.rdL g ps hds)
/-- a call on values that makes only new things -/
def OL (K : PySem.W.Frag) (cd : Nat → Cd) (r : List V → Hp → VK → Prop) (op : List D → Option Rv) : Prop :=
  ∀ (H G : Hp) (ds : List D) (vs : List V) (z : Rv), Sub G H → BvL K cd H G ds vs → op ds = some z → ∀ Q : VK, (∀ H' G' u, Gr H G H' G' → Rz K cd H H' G' z u → Q u H') → r vs H Q
def eCB (op : List D → Option Rv) (f : En → As) : En → Rs := fun e => (f e).bind fun rs e1 => opR e1 ((rdL e1 rs).bind op)
theorem ev_cb {r : List V → Hp → VK → Prop} {op : List D → Option Rv} {t : TA} {f : En → As} (ho : OL K cd r op) (hf : EvA K cd E t f) : EvD K cd E (tCB r t) (eCB op f) := fun {ox} H G e σ g Q w =>
  hf g (fun rs e1 H1 G1 vs g1 _ p1 w1 => by
    obtain ⟨z, hz, w3⟩ := opR_some w1
    obtain ⟨ds, hx, hz⟩ := bind_some hz
    exact ho H1 G1 ds vs z g1.sub (g1.rdL p1 hx) hz Q fun H' G' u gr rz => w3.gr g1 gr rz) w
/-- a method of a built-in type that only reads: the object first -/
def OM (K : PySem.W.Frag) (cd : Nat → Cd) (T : String) (r : V → List V → Hp → VK → Prop) (op : List D → Option Rv) : Prop :=
  ∀ (H G : Hp) (d : D) (ds : List D) (v : V) (vs : List V) (z : Rv), Sub G H → Bv K cd H G d v → BvL K cd H G ds vs → op (d :: ds) = some z → ∀ Q : VK, (∀ H' G' u, Gr H G H' G' → Rz K cd H H' G' z u → Q u H') → r v vs H Q
/-- what the type asks of the object, at once -/
def TyD (K : PySem.W.Frag) (cd : Nat → Cd) (T : String) (f : D → Bool) : Prop := ∀ (H G : Hp) (d : D) (v : V), Sub G H → Bv K cd H G d v → f d = true → tyV K T v H
def eBM (f : D → Bool) (op : List D → Option Rv) (a : En → Rs) (as : En → As) : En → Rs := fun e => (pubR (a e)).bind fun r e1 => match rdv e1 r with
  | none => .stuck
  | some d => if f d = true then (as e1).bind fun rs e2 => opR e2 ((rdv e2 r).bind fun d => (rdL e2 rs).bind fun ds => op (d :: ds)) else .stuck
theorem ev_bm {T : String} {r : V → List V → Hp → VK → Prop} {op : List D → Option Rv} {f : D → Bool} {t : TA} {as : En → As} (hT : TyD K cd T f) (ho : OM K cd T r op) (ha : EvD K cd E ta a) (hf : EvA K cd E t as) : EvD K cd E (tBM K T r ta t) (eBM f op a as) := fun {ox} H G e σ g Q w =>
  ha.seq g (fun r1 e1 H1 G1 v1 g1 _ p1 w1 => by
    cases q : rdv e1 r1 with
    | none => rw [q] at w1; exact w1.elim
    | some d =>
      rw [q] at w1
      by_cases hd : f d = true
      · have w1' : RsW K cd ox E Q H1 G1 σ e1 (if f d = true then (as e1).bind fun rs e2 => opR e2 ((rdv e2 r1).bind fun d => (rdL e2 rs).bind fun ds => op (d :: ds)) else .stuck) := w1
        rw [if_pos hd] at w1'
        refine ⟨hT H1 G1 d v1 g1.sub (g1.rd p1 q) hd, hf g1 (fun rs e2 H2 G2 vs g2 s2 p2 w2 => ?_) w1'⟩
        obtain ⟨z, hz, w3⟩ := opR_some w2
        obtain ⟨d', hx, hz⟩ := bind_some hz
        obtain ⟨ds, hy, hz⟩ := bind_some hz
        exact ho H2 G2 d' ds v1 vs z g2.sub (g2.rd (p1.mono s2) hx) (g2.rdL p2 hy) hz Q fun H' G' u gr rz => w3.gr g2 gr rz
      · have w1' : RsW K cd ox E Q H1 G1 σ e1 (if f d = true then (as e1).bind fun rs e2 => opR e2 ((rdv e2 r1).bind fun d => (rdL e2 rs).bind fun ds => op (d :: ds)) else .stuck) := w1
        rw [if_neg hd] at w1'
        exact w1'.elim) w
def eBM0 (f : D → Bool) (op : List D → Option Rv) (a : En → Rs) : En → Rs := fun e => (pubR (a e)).bind fun r e1 => match rdv e1 r with
  | none => .stuck
  | some d => if f d = true then opR e1 (op [d]) else .stuck
theorem ev_bm0 {T : String} {r : V → List V → Hp → VK → Prop} {op : List D → Option Rv} {f : D → Bool} (hT : TyD K cd T f) (ho : OM K cd T r op) (ha : EvD K cd E ta a) : EvD K cd E (tBM0 K T r ta) (eBM0 f op a) := fun {ox} H G e σ g Q w =>
  ha.seq g (fun r1 e1 H1 G1 v1 g1 _ p1 w1 => by
    cases q : rdv e1 r1 with
    | none => rw [q] at w1; exact w1.elim
    | some d =>
      rw [q] at w1
      have w1' : RsW K cd ox E Q H1 G1 σ e1 (if f d = true then opR e1 (op [d]) else .stuck) := w1
      by_cases hd : f d = true
      · rw [if_pos hd] at w1'
        refine ⟨hT H1 G1 d v1 g1.sub (g1.rd p1 q) hd, ?_⟩
        obtain ⟨z, hz, w3⟩ := opR_some w1'
        exact ho H1 G1 d [] v1 [] z g1.sub (g1.rd p1 q) .nil hz Q fun H' G' u gr rz => w3.gr g1 gr rz
      · rw [if_neg hd] at w1'
        exact w1'.elim) w
/-! displays -/
/-- shared data, for good: a name's own thing is shared from here on -/
def eTk (a : En → Rs) : En → Rs := fun e => (pubR (a e)).bind fun r e1 => match r with
  | .sl i => (match e1[i]? with
    | some (.sh d) => .ok (.sh d) e1
    | some (.ow d) => .ok (.sh d) (e1.set i (.sh d))
    | _ => .stuck)
  | r => .ok r e1
theorem mn_set {i : Nat} {d : D} {a : Addr} : Mn (e.set i (.sh d)) σ a → Mn e σ a := fun ⟨j, d', h, q⟩ => by
  by_cases hij : i = j
  · subst hij
    by_cases hl : i < e.length
    · rw [List.getElem?_set_self hl] at h; cases h
    · rw [List.getElem?_eq_none (by rw [List.length_set]; omega)] at h; cases h
  · rw [List.getElem?_set_ne hij] at h
    exact ⟨j, d', h, q⟩
theorem Gd.pubSl (g : Gd K cd ox H G e σ) {i : Nat} {d : D} (h : e[i]? = some (Sl.ow d)) :
    ∃ G' v, σ[i]? = some (some v) ∧ Gd K cd ox H G' (e.set i (.sh d)) σ ∧ Stp H G (Mn e σ) H G' (Mn (e.set i (.sh d)) σ) ∧ Rp K cd G' d v := by
  obtain ⟨a, ha, n, o⟩ := g.ow i d h
  have hm : Mn e σ a := ⟨i, d, h, ha⟩
  have hi : i < e.length := (List.getElem?_eq_some_iff.mp h).1
  -- the slot first forgotten
  have get_ne : ∀ j, j ≠ i → (e.set i (.sh d))[j]? = e[j]? := fun j hj => List.getElem?_set_ne (Ne.symm hj)
  have get_i : (e.set i (.sh d))[i]? = some (Sl.sh d) := by rw [List.getElem?_set_self hi]
  obtain ⟨u, hu, mk⟩ := o.at
  have e1 : Same G (upd G a u) := same_upd n
  have r' : Rp K cd (upd G a u) d (.ref a) := mk _ e1 upd_same
  refine ⟨upd G a u, .ref a, ha, ⟨fun b w q => ?_, by rw [List.length_set]; exact g.len, fun j d' hj => ?_, fun j d' hj => ?_, fun j d' hj => ?_, g.old, fun j k d1 d2 b h1 h2 h3 h4 => ?_⟩, ⟨fun _ _ h _ => h, e1, fun b w hb m q => ?_, fun b hb => .inl (mn_set hb), fun _ o h => ⟨o, h⟩⟩, r'⟩
  · by_cases z : b = a
    · subst z; rw [upd_same] at q; cases q; exact .inl hu
    · rw [upd_ne z] at q; exact g.sub b w q
  · by_cases z : j = i
    · subst z
      rw [get_i] at hj; cases hj
      exact ⟨_, ha, r'⟩
    · rw [get_ne j z] at hj
      obtain ⟨v, x, y⟩ := g.sh j d' hj
      exact ⟨v, x, y.mono e1⟩
  · have z : j ≠ i := fun z => by subst z; rw [get_i] at hj; cases hj
    rw [get_ne j z] at hj
    obtain ⟨v, x, y, m, nm, ob⟩ := g.bo j d' hj
    exact ⟨v, x, y.mono (Same.refl _) e1, m, fun q => nm (mn_set q), ob⟩
  · have z : j ≠ i := fun z => by subst z; rw [get_i] at hj; cases hj
    rw [get_ne j z] at hj
    obtain ⟨b, x, y, w⟩ := g.ow j d' hj
    have nb : b ≠ a := fun q => by subst q; exact z (g.inj j i d' d b hj h x ha)
    exact ⟨b, x, by rw [upd_ne nb]; exact y, w.mono (fun _ h => h) e1⟩
  · have z1 : j ≠ i := fun z => by subst z; rw [get_i] at h1; cases h1
    have z2 : k ≠ i := fun z => by subst z; rw [get_i] at h2; cases h2
    rw [get_ne j z1] at h1; rw [get_ne k z2] at h2
    exact g.inj j k d1 d2 b h1 h2 h3 h4
  · have z : b ≠ a := fun z => by subst z; exact m hm
    rw [upd_ne z]; exact q
theorem ev_tk (ha : EvD K cd E ta a) : EvD K cd E ta (eTk a) := by
  intro ox H G e σ g Q w
  refine ha.pub H G e σ g Q ?_
  show RsW K cd ox E Q H G σ e (pubR (a e))
  have w' : RsW K cd ox E Q H G σ e (eTk a e) := w
  unfold eTk at w'
  cases q : pubR (a e) with
  | stuck => rw [q] at w'; exact w'
  | exc c fs e' => rw [q] at w'; exact w'
  | ok r e1 =>
    rw [q] at w'
    cases r with
    | sh d => exact w'
    | ow d => exact w'
    | sl i =>
      intro H1 G1 v g1 s1 p1
      have p1' : σ[i]? = some (some v) := p1
      have w2 : RsW K cd ox E Q H G σ e (match e1[i]? with | some (Sl.sh d) => .ok (.sh d) e1 | some (Sl.ow d) => .ok (.sh d) (e1.set i (.sh d)) | _ => .stuck) := w'
      cases q2 : e1[i]? with
      | none => rw [q2] at w2; exact w2.elim
      | some s =>
        rw [q2] at w2
        cases s with
        | no => exact w2.elim
        | bo d => exact w2.elim
        | sh d =>
          obtain ⟨u, hu, r⟩ := g1.sh i d q2
          rw [p1'] at hu; cases hu
          exact w2 H1 G1 v g1 s1 r
        | ow d =>
          obtain ⟨G2, u, hu, g2, s2, r⟩ := g1.pubSl q2
          rw [p1'] at hu; cases hu
          exact w2 H1 G2 v g2 (s1.trans s2) r
end
end Dv
/-! statements -/
namespace Dv
open PySem PySem.Spec PyProof.Rows L2
open SX (S S_len S_cat)
def Kp (kp : Nat → Bool) (σ σ' : St) : Prop := ∀ i, kp i = true → σ'[i]? = σ[i]?
theorem Kp.refl {kp : Nat → Bool} {σ : St} : Kp kp σ σ := fun _ _ => rfl
theorem Kp.trans {kp : Nat → Bool} {σ σ1 σ2 : St} (a : Kp kp σ σ1) (b : Kp kp σ1 σ2) : Kp kp σ σ2 := fun i h => (b i h).trans (a i h)
def FlW (K : PySem.W.Frag) (cd : Nat → Cd) (ox : Addr → Prop) (E : St → XK) (kp : Nat → Bool) (D : Ends) (H G : Hp) (σ : St) (e : En) : Fl → Prop
  | .stuck => False
  | .nx e' => ∀ H' G' σ', Gd K cd ox H' G' e' σ' → Stp H G (Mn e σ) H' G' (Mn e' σ') → Kp kp σ σ' → D.nx σ' H'
  | .rt r e' => ∀ H' G' σ' v, Gd K cd ox H' G' e' σ' → Stp H G (Mn e σ) H' G' (Mn e' σ') → Kp kp σ σ' → Rw K cd H (Mn e σ) H' G' e' σ' r v → D.rt v H'
  | .bk e' => ∀ H' G' σ', Gd K cd ox H' G' e' σ' → Stp H G (Mn e σ) H' G' (Mn e' σ') → Kp kp σ σ' → D.bk σ' H'
  | .ct e' => ∀ H' G' σ', Gd K cd ox H' G' e' σ' → Stp H G (Mn e σ) H' G' (Mn e' σ') → Kp kp σ σ' → D.ct σ' H'
  | .exc c fs e' => ∀ H' G' σ' od, Gd K cd ox H' G' e' σ' → Stp H G (Mn e σ) H' G' (Mn e' σ') → Kp kp σ σ' → Xw K cd H (Mn e σ) H' G' c fs od → E σ' (.ref (cd c).C) od H'
def ES (K : PySem.W.Frag) (cd : Nat → Cd) (E : St → XK) (kp : Nat → Bool) (t : TS) (f : En → Fl) : Prop := ∀ {ox : Addr → Prop} (H G : Hp) (e : En) (σ : St), Gd K cd ox H G e σ → ∀ D, FlW K cd ox E kp D H G σ e (f e) → t D σ H
section
variable {K : PySem.W.Frag} {cd : Nat → Cd} {ox : Addr → Prop} {E : St → XK} {kp : Nat → Bool} {H G H' G' H1 G1 : Hp} {e e1 : En} {σ σ1 : St} {Q : VK} {Z : Ends} {ta : TE} {t u : TS} {a : En → Rs} {f h : En → Fl} {r : Fl}
theorem Rw.stp {r : Rv} {v : V} {e' : En} {σ' : St} (q : Rw K cd H1 (Mn e1 σ1) H' G' e' σ' r v) (s : Stp H G (Mn e σ) H1 G1 (Mn e1 σ1)) : Rw K cd H (Mn e σ) H' G' e' σ' r v := by
  cases r with
  | sl i => exact q
  | sh d => exact q
  | ow d => obtain ⟨a, h1, h2, h3, h4, h5, h6⟩ := q; exact ⟨a, h1, h2, h3, h4, h5, h6.elim (s.mm a) s.back⟩
theorem Xw.stp {c : Nat} {fs : List D} {od : Option Addr} (q : Xw K cd H1 (Mn e1 σ1) H' G' c fs od) (s : Stp H G (Mn e σ) H1 G1 (Mn e1 σ1)) : Xw K cd H (Mn e σ) H' G' c fs od := by
  rcases q with q | ⟨a, fs', h1, h2, h3⟩
  · exact .inl q
  · exact .inr ⟨a, fs', h1, h2.elim (s.mm a) s.back, h3⟩
theorem FlW.stp (w : FlW K cd ox E kp Z H G σ e r) (s : Stp H G (Mn e σ) H1 G1 (Mn e1 σ1)) (k : Kp kp σ σ1) : FlW K cd ox E kp Z H1 G1 σ1 e1 r := by
  cases r with
  | stuck => exact w
  | nx e' => exact fun H' G' σ' g s' k' => w H' G' σ' g (s.trans s') (k.trans k')
  | bk e' => exact fun H' G' σ' g s' k' => w H' G' σ' g (s.trans s') (k.trans k')
  | ct e' => exact fun H' G' σ' g s' k' => w H' G' σ' g (s.trans s') (k.trans k')
  | rt r e' => exact fun H' G' σ' v g s' k' q => w H' G' σ' v g (s.trans s') (k.trans k') (q.stp s)
  | exc c fs e' => exact fun H' G' σ' od g s' k' q => w H' G' σ' od g (s.trans s') (k.trans k') (q.stp s)
def fSeq (f h : En → Fl) : En → Fl := fun e => match f e with
  | .nx e1 => h e1
  | r => r
theorem es_seq (hf : ES K cd E kp t f) (hh : ES K cd E kp u h) : ES K cd E kp (tSeq t u) (fSeq f h) := by
  intro ox H G e σ g D w
  refine hf H G e σ g { D with nx := u D } ?_
  have w' : FlW K cd ox E kp D H G σ e (match f e with | .nx e1 => h e1 | r => r) := w
  cases q : f e with
  | nx e1 =>
    rw [q] at w'
    exact fun H' G' σ' g' s' k' => hh H' G' e1 σ' g' D (FlW.stp w' s' k')
  | stuck => rw [q] at w'; exact w'
  | bk e' => rw [q] at w'; exact w'
  | ct e' => rw [q] at w'; exact w'
  | rt r e' => rw [q] at w'; exact w'
  | exc c fs e' => rw [q] at w'; exact w'
def fNx : En → Fl := fun e => .nx e
theorem es_next : ES K cd E kp tNext fNx := fun {ox} H G e σ g D w => w H G σ g .refl .refl
def fBk : En → Fl := fun e => .bk e
def fCt : En → Fl := fun e => .ct e
theorem es_break : ES K cd E kp tBreak fBk := fun {ox} H G e σ g D w => w H G σ g .refl .refl
theorem es_cont : ES K cd E kp tCont fCt := fun {ox} H G e σ g D w => w H G σ g .refl .refl
def fNever : En → Fl := fun _ => .stuck
theorem es_never : ES K cd E kp tNever fNever := fun {_} _ _ _ _ _ _ w => w
/-- an expression, then what its answer brings -/
def Rs.fl (r : Rs) (k : Rv → En → Fl) : Fl := match r with
  | .stuck => .stuck
  | .ok r e => k r e
  | .exc c fs e => .exc c fs e
theorem EvD.fl {k : Rv → En → Fl} {Q : VK} (ha : EvD K cd E ta a) (g : Gd K cd ox H G e σ) (w : FlW K cd ox E kp Z H G σ e ((a e).fl k))
    (hk : ∀ r e1 H1 G1 v, Gd K cd ox H1 G1 e1 σ → Stp H G (Mn e σ) H1 G1 (Mn e1 σ) → Rw K cd H (Mn e σ) H1 G1 e1 σ r v → FlW K cd ox E kp Z H G σ e (k r e1) → Q v H1) : ta σ H Q := by
  refine ha H G e σ g Q ?_
  cases q : a e with
  | stuck => rw [q] at w; exact w
  | ok r e1 =>
    rw [q] at w
    exact fun H1 G1 v g1 s1 r1 => hk r e1 H1 G1 v g1 s1 r1 w
  | exc c fs e' =>
    rw [q] at w
    exact fun H1 G1 od g1 s1 x => w H1 G1 σ od g1 s1 .refl x
def fDrop (a : En → Rs) : En → Fl := fun e => (a e).fl fun _ e1 => .nx e1
theorem es_drop (ha : EvD K cd E ta a) : ES K cd E kp (tDrop ta) (fDrop a) := fun {ox} H G e σ g D w =>
  ha.fl g w fun r e1 H1 G1 v g1 s1 _ w1 => w1 H1 G1 σ g1 s1 .refl
/-! a slot is set -/
theorem Gd.setSh (g : Gd K cd ox H G e σ) {i : Nat} {d : D} {v : V} (hi : i < e.length) (r : Rp K cd G d v) : Gd K cd ox H G (e.set i (.sh d)) (σ.set i (some v)) ∧ ∀ a, Mn (e.set i (.sh d)) (σ.set i (some v)) a → Mn e σ a := by
  have hs : i < σ.length := by rw [← g.len]; exact hi
  have en : ∀ j, j ≠ i → (e.set i (.sh d))[j]? = e[j]? := fun j hj => List.getElem?_set_ne (Ne.symm hj)
  have sn : ∀ j, j ≠ i → (σ.set i (some v))[j]? = σ[j]? := fun j hj => List.getElem?_set_ne (Ne.symm hj)
  have ei : (e.set i (.sh d))[i]? = some (Sl.sh d) := List.getElem?_set_self hi
  have si : (σ.set i (some v))[i]? = some (some v) := List.getElem?_set_self hs
  have mn : ∀ a, Mn (e.set i (.sh d)) (σ.set i (some v)) a → Mn e σ a := fun a ⟨j, d', h, q⟩ => by
    have z : j ≠ i := fun z => by subst z; rw [ei] at h; cases h
    rw [en j z] at h; rw [sn j z] at q
    exact ⟨j, d', h, q⟩
  refine ⟨⟨g.sub, by rw [List.length_set, List.length_set]; exact g.len, fun j d' h => ?_, fun j d' h => ?_, fun j d' h => ?_, g.old, fun j k d1 d2 b h1 h2 h3 h4 => ?_⟩, mn⟩
  · by_cases z : j = i
    · subst z; rw [ei] at h; cases h; exact ⟨v, si, r⟩
    · rw [en j z] at h; rw [sn j z]; exact g.sh j d' h
  · have z : j ≠ i := fun z => by subst z; rw [ei] at h; cases h
    rw [en j z] at h; rw [sn j z]
    obtain ⟨b, x, y, m, nm, ob⟩ := g.bo j d' h
    exact ⟨b, x, y, m, fun q => nm (mn b q), ob⟩
  · have z : j ≠ i := fun z => by subst z; rw [ei] at h; cases h
    rw [en j z] at h; rw [sn j z]
    exact g.ow j d' h
  · have z1 : j ≠ i := fun z => by subst z; rw [ei] at h1; cases h1
    have z2 : k ≠ i := fun z => by subst z; rw [ei] at h2; cases h2
    rw [en j z1] at h1; rw [en k z2] at h2; rw [sn j z1] at h3; rw [sn k z2] at h4
    exact g.inj j k d1 d2 b h1 h2 h3 h4
theorem Gd.setOw (g : Gd K cd ox H G e σ) {i : Nat} {d : D} {a : Addr} (hi : i < e.length) (n : G a = none) (o : Ow K cd H G d a) (nm : ¬ Mn e σ a) (nb : ∀ (j : Nat) (d' : D), e[j]? = some (Sl.bo d') → σ[j]? ≠ some (some (V.ref a))) :
    Gd K cd ox H G (e.set i (.ow d)) (σ.set i (some (.ref a))) ∧ ∀ b, Mn (e.set i (.ow d)) (σ.set i (some (.ref a))) b → b = a ∨ Mn e σ b := by
  have hs : i < σ.length := by rw [← g.len]; exact hi
  have en : ∀ j, j ≠ i → (e.set i (.ow d))[j]? = e[j]? := fun j hj => List.getElem?_set_ne (Ne.symm hj)
  have sn : ∀ j, j ≠ i → (σ.set i (some (V.ref a)))[j]? = σ[j]? := fun j hj => List.getElem?_set_ne (Ne.symm hj)
  have ei : (e.set i (.ow d))[i]? = some (Sl.ow d) := List.getElem?_set_self hi
  have si : (σ.set i (some (V.ref a)))[i]? = some (some (V.ref a)) := List.getElem?_set_self hs
  have mn : ∀ b, Mn (e.set i (.ow d)) (σ.set i (some (.ref a))) b → b = a ∨ Mn e σ b := fun b ⟨j, d', h, q⟩ => by
    by_cases z : j = i
    · subst z; rw [si] at q; cases q; exact .inl rfl
    · rw [en j z] at h; rw [sn j z] at q
      exact .inr ⟨j, d', h, q⟩
  refine ⟨⟨g.sub, by rw [List.length_set, List.length_set]; exact g.len, fun j d' h => ?_, fun j d' h => ?_, fun j d' h => ?_, g.old, fun j k d1 d2 b h1 h2 h3 h4 => ?_⟩, mn⟩
  · have z : j ≠ i := fun z => by subst z; rw [ei] at h; cases h
    rw [en j z] at h; rw [sn j z]; exact g.sh j d' h
  · have z : j ≠ i := fun z => by subst z; rw [ei] at h; cases h
    rw [en j z] at h; rw [sn j z]
    obtain ⟨b, x, y, m, nm', ob⟩ := g.bo j d' h
    exact ⟨b, x, y, m, fun q => (mn b q).elim (fun q => nb j d' h (by rw [x, q])) nm', ob⟩
  · by_cases z : j = i
    · subst z; rw [ei] at h; cases h; exact ⟨a, si, n, o⟩
    · rw [en j z] at h; rw [sn j z]; exact g.ow j d' h
  · by_cases z1 : j = i
    · by_cases z2 : k = i
      · rw [z1, z2]
      · subst z1
        rw [si] at h3; cases h3
        rw [en k z2] at h2; rw [sn k z2] at h4
        exact absurd ⟨k, d2, h2, h4⟩ nm
    · by_cases z2 : k = i
      · subst z2
        rw [si] at h4; cases h4
        rw [en j z1] at h1; rw [sn j z1] at h3
        exact absurd ⟨j, d1, h1, h3⟩ nm
      · rw [en j z1] at h1; rw [en k z2] at h2; rw [sn j z1] at h3; rw [sn k z2] at h4
        exact g.inj j k d1 d2 b h1 h2 h3 h4
/-- a slot is forgotten -/
theorem Gd.forget (g : Gd K cd ox H G e σ) {i : Nat} : Gd K cd ox H G (e.set i .no) σ ∧ ∀ a, Mn (e.set i .no) σ a → Mn e σ a := by
  have low : ∀ j s, (e.set i .no)[j]? = some s → s ≠ .no → j ≠ i ∧ e[j]? = some s := fun j s h n => by
    by_cases z : j = i
    · subst z
      by_cases hi : j < e.length
      · rw [List.getElem?_set_self hi] at h; cases h; exact absurd rfl n
      · rw [List.getElem?_eq_none (by rw [List.length_set]; omega)] at h; cases h
    · rw [List.getElem?_set_ne (Ne.symm z)] at h; exact ⟨z, h⟩
  have mn : ∀ a, Mn (e.set i .no) σ a → Mn e σ a := fun a ⟨j, d', h, q⟩ => ⟨j, d', (low j _ h (fun z => nomatch z)).2, q⟩
  refine ⟨⟨g.sub, by rw [List.length_set]; exact g.len, fun j d' h => g.sh j d' (low j _ h (fun z => nomatch z)).2, fun j d' h => ?_, fun j d' h => g.ow j d' (low j _ h (fun z => nomatch z)).2, g.old, fun j k d1 d2 b h1 h2 h3 h4 => g.inj j k d1 d2 b (low j _ h1 (fun z => nomatch z)).2 (low k _ h2 (fun z => nomatch z)).2 h3 h4⟩, mn⟩
  obtain ⟨b, x, y, m, nm, ob⟩ := g.bo j d' (low j _ h (fun z => nomatch z)).2
  exact ⟨b, x, y, m, fun q => nm (mn b q), ob⟩
/-- x = a; a name's own thing is shared from here on -/
def fAsg (i : Nat) (a : En → Rs) : En → Fl := fun e => (a e).fl fun r e1 => if i < e1.length then (match r with
  | .sh d => .nx (e1.set i (.sh d))
  | .ow d => .nx (e1.set i (.ow d))
  | .sl j => (match e1[j]? with
    | some (.sh d) => .nx (e1.set i (.sh d))
    | some (.ow d) => .nx ((e1.set j (.sh d)).set i (.sh d))
    | _ => .stuck)) else .stuck
theorem kp_set {i : Nat} {x : Option V} (hk : kp i = false) : Kp kp σ (σ.set i x) := fun j hj => by
  have z : i ≠ j := fun z => by subst z; rw [hk] at hj; cases hj
  exact List.getElem?_set_ne z
theorem es_asg {i : Nat} (hk : kp i = false) (ha : EvD K cd E ta a) : ES K cd E kp (tAsg ta (gName i)) (fAsg i a) := fun {ox} H G e σ g D w =>
  ha.fl g w fun r e1 H1 G1 v g1 s1 q1 w1 => by
    show D.nx (σ.set i (some v)) H1
    by_cases hi : i < e1.length
    · rw [if_pos hi] at w1
      cases r with
      | sh d =>
        obtain ⟨g2, m2⟩ := g1.setSh hi q1
        exact w1 H1 G1 _ g2 (s1.mono m2) (kp_set hk)
      | ow d =>
        obtain ⟨a, rfl, h2, h3, h4, h5, h6⟩ := q1
        obtain ⟨g2, m2⟩ := g1.setOw hi h2 h3 h4 h5
        refine w1 H1 G1 _ g2 ⟨s1.fr, s1.gg, s1.gn, fun b hb => ?_, s1.al⟩ (kp_set hk)
        rcases m2 b hb with rfl | z
        · exact h6
        · exact s1.mm b z
      | sl j =>
        have q1' : σ[j]? = some (some v) := q1
        have w2 : FlW K cd ox E kp D H G σ e (match e1[j]? with | some (Sl.sh d) => .nx (e1.set i (.sh d)) | some (Sl.ow d) => .nx ((e1.set j (.sh d)).set i (.sh d)) | _ => .stuck) := w1
        cases q2 : e1[j]? with
        | none => rw [q2] at w2; exact w2.elim
        | some s =>
          rw [q2] at w2
          cases s with
          | no => exact w2.elim
          | bo d => exact w2.elim
          | sh d =>
            obtain ⟨u, hu, r⟩ := g1.sh j d q2
            rw [q1'] at hu; cases hu
            obtain ⟨g2, m2⟩ := g1.setSh hi r
            exact w2 H1 G1 _ g2 (s1.mono m2) (kp_set hk)
          | ow d =>
            obtain ⟨G2, u, hu, g2, s2, r⟩ := g1.pubSl q2
            rw [q1'] at hu; cases hu
            obtain ⟨g3, m3⟩ := g2.setSh (i := i) (by rw [List.length_set]; exact hi) r
            exact w2 H1 G2 _ g3 ((s1.trans s2).mono m3) (kp_set hk)
    · rw [if_neg hi] at w1
      exact w1.elim
/-- return a: a name's own thing goes along -/
def fRet (a : En → Rs) : En → Fl := fun e => (a e).fl fun r e1 => match r with
  | .sl j => (match e1[j]? with
    | some (.sh d) => .rt (.sh d) e1
    | some (.ow d) => .rt (.ow d) (e1.set j .no)
    | _ => .stuck)
  | r => .rt r e1
theorem Gd.move (g : Gd K cd ox H G e σ) {j : Nat} {d : D} (h : e[j]? = some (Sl.ow d)) {v : V} (hv : σ[j]? = some (some v)) {M : Addr → Prop} (hm : ∀ a, Mn e σ a → M a ∨ H1 a = none) : Rw K cd H1 M H G (e.set j .no) σ (.ow d) v := by
  obtain ⟨a, ha, n, o⟩ := g.ow j d h
  rw [hv] at ha; cases ha
  refine ⟨a, rfl, n, o, fun ⟨i, d', h', q⟩ => ?_, fun i d' h' q => ?_, hm a ⟨j, d, h, hv⟩⟩
  · by_cases z : i = j
    · subst z
      rw [List.getElem?_set_self (List.getElem?_eq_some_iff.mp h).1] at h'; cases h'
    · rw [List.getElem?_set_ne (Ne.symm z)] at h'
      exact z (g.inj i j d' d a h' h q hv)
  · have z : i ≠ j := fun z => by
      subst z
      rw [List.getElem?_set_self (List.getElem?_eq_some_iff.mp h).1] at h'; cases h'
    rw [List.getElem?_set_ne (Ne.symm z)] at h'
    obtain ⟨b, x, _, _, nm, _⟩ := g.bo i d' h'
    rw [q] at x; cases x
    exact nm ⟨j, d, h, hv⟩
theorem es_ret (ha : EvD K cd E ta a) : ES K cd E kp (tRet ta) (fRet a) := fun {ox} H G e σ g D w =>
  ha.fl g w fun r e1 H1 G1 v g1 s1 q1 w1 => by
    cases r with
    | sh d => exact w1 H1 G1 σ v g1 s1 .refl q1
    | ow d => exact w1 H1 G1 σ v g1 s1 .refl q1
    | sl j =>
      have q1' : σ[j]? = some (some v) := q1
      have w2 : FlW K cd ox E kp D H G σ e (match e1[j]? with | some (Sl.sh d) => .rt (.sh d) e1 | some (Sl.ow d) => .rt (.ow d) (e1.set j .no) | _ => .stuck) := w1
      cases q2 : e1[j]? with
      | none => rw [q2] at w2; exact w2.elim
      | some s =>
        rw [q2] at w2
        cases s with
        | no => exact w2.elim
        | bo d => exact w2.elim
        | sh d =>
          obtain ⟨u, hu, r⟩ := g1.sh j d q2
          rw [q1'] at hu; cases hu
          exact w2 H1 G1 σ v g1 s1 .refl r
        | ow d =>
          obtain ⟨g2, m2⟩ := g1.forget (i := j)
          exact w2 H1 G1 σ v g2 (s1.mono m2) .refl (g1.move q2 q1' s1.mm)
def fRetN : En → Fl := fun e => .rt (.sh .non) e
theorem es_retN : ES K cd E kp tRetN fRetN := fun {ox} H G e σ g D w => w H G σ .non g .refl .refl .non
def fIf (c : En → Rs) (f h : En → Fl) : En → Fl := fun e => match c e with
  | .ok (.sh (.bl true)) e1 => f e1
  | .ok (.sh (.bl false)) e1 => h e1
  | .exc c fs e1 => .exc c fs e1
  | _ => .stuck
theorem br_fl {tt : TT} {c : En → Rs} {Q' : Bool → Hp → Prop} (hc : EvT K cd E tt c) (g : Gd K cd ox H G e σ) (w : FlW K cd ox E kp Z H G σ e (fIf c f h e))
    (h1 : ∀ H1 G1 e1, Gd K cd ox H1 G1 e1 σ → Stp H G (Mn e σ) H1 G1 (Mn e1 σ) → FlW K cd ox E kp Z H1 G1 σ e1 (f e1) → Q' true H1) (h2 : ∀ H1 G1 e1, Gd K cd ox H1 G1 e1 σ → Stp H G (Mn e σ) H1 G1 (Mn e1 σ) → FlW K cd ox E kp Z H1 G1 σ e1 (h e1) → Q' false H1) : tt σ H Q' := by
  have k : tE tt σ H fun v H1 => ∃ b, v = .bl b ∧ Q' b H1 := by
    refine hc H G e σ g _ ?_
    unfold fIf at w
    cases q : c e with
    | stuck => rw [q] at w; exact w
    | exc c fs e' =>
      rw [q] at w
      exact fun H1 G1 od g1 s1 x => w H1 G1 σ od g1 s1 .refl x
    | ok r e' =>
      rw [q] at w
      cases r with
      | sl i => exact w.elim
      | ow d => exact w.elim
      | sh d =>
        cases d with
        | bl b =>
          intro H1 G1 v g1 s1 r1
          cases b with
          | true => exact ⟨true, rp_bl r1, h1 H1 G1 e' g1 s1 (FlW.stp w s1 .refl)⟩
          | false => exact ⟨false, rp_bl r1, h2 H1 G1 e' g1 s1 (FlW.stp w s1 .refl)⟩
        | _ => exact w.elim
  have e : (fun (b : Bool) (H1 : Hp) => ∃ b', V.bl b = V.bl b' ∧ Q' b' H1) = Q' := by
    funext b H1
    exact propext ⟨fun ⟨b', h, q⟩ => by cases h; exact q, fun q => ⟨b, rfl, q⟩⟩
  have k2 : tt σ H (fun (b : Bool) (H1 : Hp) => ∃ b', V.bl b = V.bl b' ∧ Q' b' H1) := k
  rw [e] at k2
  exact k2
theorem es_if {tt : TT} {c : En → Rs} (hc : EvT K cd E tt c) (hf : ES K cd E kp t f) (hh : ES K cd E kp u h) : ES K cd E kp (tIfS tt t u) (fIf c f h) := fun {ox} H G e σ g D w =>
  br_fl (Q' := fun b H1 => if b = true then t D σ H1 else u D σ H1) hc g w (fun H1 G1 e1 g1 _ w1 => by show t D σ H1; exact hf H1 G1 e1 σ g1 D w1) (fun H1 G1 e1 g1 _ w1 => by show u D σ H1; exact hh H1 G1 e1 σ g1 D w1)
/-! while, with fuel -/
def fWhl (c : En → Rs) (f : En → Fl) : Nat → En → Fl
  | 0 => fun _ => .stuck
  | n + 1 => fIf c (fun e => match f e with
    | .nx e1 => fWhl c f n e1
    | .ct e1 => fWhl c f n e1
    | .bk e1 => .nx e1
    | r => r) fNx
theorem es_while {tt : TT} {c : En → Rs} (n : Nat) (hc : EvT K cd E tt c) (hf : ES K cd E kp t f) : ES K cd E kp (tWhile tt t) (fWhl c f n) := by
  intro ox H G e σ g D w
  refine ⟨fun m σ' H' => ∃ G' e', Gd K cd ox H' G' e' σ' ∧ FlW K cd ox E kp D H' G' σ' e' (fWhl c f m e'), ⟨n, G, e, g, w⟩, ?_⟩
  rintro m σ1 H1 ⟨G1, e1, g1, w1⟩
  cases m with
  | zero => exact w1.elim
  | succ m =>
    refine br_fl hc g1 w1 (fun H2 G2 e2 g2 s2 w2 => ?_) (fun H2 G2 e2 g2 s2 w2 => ?_)
    · show ∃ N : St → Hp → Prop, _ ∧ _
      refine ⟨fun σ' H' => ∃ G' e', Gd K cd ox H' G' e' σ' ∧ FlW K cd ox E kp D H' G' σ' e' (fWhl c f m e'), fun σ' H' q => ⟨m, Nat.lt_succ_self m, q⟩, ?_⟩
      refine hf H2 G2 e2 σ1 g2 _ ?_
      have w2' : FlW K cd ox E kp D H2 G2 σ1 e2 (match f e2 with | .nx e1 => fWhl c f m e1 | .ct e1 => fWhl c f m e1 | .bk e1 => .nx e1 | r => r) := w2
      cases q : f e2 with
      | stuck => rw [q] at w2'; exact w2'
      | nx e3 => rw [q] at w2'; exact fun H' G' σ' g' s' k' => ⟨G', e3, g', FlW.stp w2' s' k'⟩
      | ct e3 => rw [q] at w2'; exact fun H' G' σ' g' s' k' => ⟨G', e3, g', FlW.stp w2' s' k'⟩
      | bk e3 => rw [q] at w2'; exact w2'
      | rt r e3 => rw [q] at w2'; exact w2'
      | exc c fs e3 => rw [q] at w2'; exact w2'
    · show D.nx σ1 H2
      exact w2 H2 G2 σ1 g2 .refl .refl
/-! walks -/
abbrev Pins := List (Addr × HO)
def PinOk (P : Pins) (H : Hp) (e : En) (σ : St) : Prop := ∀ p ∈ P, H p.1 = some p.2 ∧ ¬ Mn e σ p.1
theorem PinOk.stp {P : Pins} (p : PinOk P H e σ) (s : Stp H G (Mn e σ) H1 G1 (Mn e1 σ1)) : PinOk P H1 e1 σ1 := fun x hx => by
  obtain ⟨a, b⟩ := p x hx
  refine ⟨s.fr _ _ a b, fun m => ?_⟩
  rcases s.mm _ m with z | z
  · exact b z
  · rw [a] at z; cases z
/-- J walks the items -/
def Wk (K : PySem.W.Frag) (cd : Nat → Cd) (G1 : Hp) (J : It) (P : Pins) (items : List D) : Prop := ∀ i H2 G2, Same G1 G2 → Sub G2 H2 → (∀ p ∈ P, H2 p.1 = some p.2) →
  (items.length ≤ i → J.stop i H2) ∧ (i < items.length → J.go i H2) ∧ (i < items.length → ∀ x H3, J.yld i H2 x H3 → ∃ G3 d, Gr H2 G2 H3 G3 ∧ items[i]? = some d ∧ Rp K cd G3 d x)
inductive Is where
  | stuck | ok (items : List D) (e : En) | exc (c : Nat) (fs : List D) (e : En)
def Is.bind (r : Is) (k : List D → En → Rs) : Rs := match r with
  | .stuck => .stuck
  | .ok r e => k r e
  | .exc c fs e => .exc c fs e
def Is.fl (r : Is) (k : List D → En → Fl) : Fl := match r with
  | .stuck => .stuck
  | .ok r e => k r e
  | .exc c fs e => .exc c fs e
/-- what is walked, told twice: for a comprehension, for a loop -/
structure EvI (K : PySem.W.Frag) (cd : Nat → Cd) (E : St → XK) (wi : TI) (src : En → Is) : Prop where
  r : ∀ {ox : Addr → Prop} {H G : Hp} {e : En} {σ : St} {Q : VK} {k : List D → En → Rs} {R : It → Hp → Prop}, Gd K cd ox H G e σ → RsW K cd ox E Q H G σ e ((src e).bind k) →
    (∀ items e1 H1 G1 J P, Gd K cd ox H1 G1 e1 σ → Stp H G (Mn e σ) H1 G1 (Mn e1 σ) → PinOk P H1 e1 σ → Wk K cd G1 J P items → RsW K cd ox E Q H1 G1 σ e1 (k items e1) → R J H1) → wi σ H R
  s : ∀ {ox : Addr → Prop} {kp : Nat → Bool} {H G : Hp} {e : En} {σ : St} {D : Ends} {k : List Dv.D → En → Fl} {R : It → Hp → Prop}, Gd K cd ox H G e σ → FlW K cd ox E kp D H G σ e ((src e).fl k) →
    (∀ items e1 H1 G1 J P, Gd K cd ox H1 G1 e1 σ → Stp H G (Mn e σ) H1 G1 (Mn e1 σ) → PinOk P H1 e1 σ → Wk K cd G1 J P items → FlW K cd ox E kp D H1 G1 σ e1 (k items e1) → R J H1) → wi σ H R
/-- a target takes an item -/
def TgD (K : PySem.W.Frag) (cd : Nat → Cd) (kp : Nat → Bool) (vs : List Nat) (g : TG) (f : D → En → Option En) : Prop :=
  ∀ {ox : Addr → Prop} {H G : Hp} {e e' : En} {σ : St} {d : D} {v : V} {Q : St → Hp → Prop}, Gd K cd ox H G e σ → Rp K cd G d v → f d e = some e' → (∀ σ', Gd K cd ox H G e' σ' → (∀ a, Mn e' σ' a → Mn e σ a) → Kp kp σ σ' → (∀ j, j ∉ vs → σ'[j]? = σ[j]?) → σ'.length = σ.length → Q σ' H) → g v σ H Q
def tgN (i : Nat) : D → En → Option En := fun d e => if i < e.length then some (e.set i (.sh d)) else none
theorem tg_name {i : Nat} (hk : kp i = false) : TgD K cd kp [i] (gName i) (tgN i) := fun {ox H G e e' σ d v Q} g r h q => by
  unfold tgN at h
  split at h
  · rename_i hi
    cases h
    obtain ⟨g2, m2⟩ := g.setSh hi r
    exact q _ g2 m2 (kp_set hk) (fun j hj => List.getElem?_set_ne (fun z => hj (by rw [z]; exact List.mem_singleton.mpr rfl))) (List.length_set ..)
  · cases h
def TgsD (K : PySem.W.Frag) (cd : Nat → Cd) (kp : Nat → Bool) (vs : List Nat) (g : TGs) (f : List D → En → Option En) : Prop :=
  ∀ {ox : Addr → Prop} {H G : Hp} {e e' : En} {σ : St} {ds : List D} {us : List V} {Q : St → Hp → Prop}, Gd K cd ox H G e σ → RpL K cd G ds us → f ds e = some e' → (∀ σ', Gd K cd ox H G e' σ' → (∀ a, Mn e' σ' a → Mn e σ a) → Kp kp σ σ' → (∀ j, j ∉ vs → σ'[j]? = σ[j]?) → σ'.length = σ.length → Q σ' H) → g us σ H Q
def tgNil : List D → En → Option En := fun ds e => match ds with
  | [] => some e
  | _ => none
theorem tgs_nil : TgsD K cd kp [] gNil tgNil := fun {ox H G e e' σ ds us Q} g r h q => by
  cases r with
  | nil => cases h; exact ⟨rfl, q σ g (fun _ h => h) .refl (fun _ _ => rfl) rfl⟩
  | cons _ _ => cases h
def tgCons (f : D → En → Option En) (h : List D → En → Option En) : List D → En → Option En := fun ds e => match ds with
  | [] => none
  | d :: ds => (f d e).bind fun e1 => h ds e1
theorem tgs_cons {g : TG} {gs : TGs} {f : Dv.D → En → Option En} {h : List Dv.D → En → Option En} {vs ws : List Nat} (hf : TgD K cd kp vs g f) (hh : TgsD K cd kp ws gs h) : TgsD K cd kp (vs ++ ws) (gCons g gs) (tgCons f h) := fun {ox H G e e' σ ds us Q} gd r q k => by
  cases r with
  | nil => cases q
  | cons a b =>
    obtain ⟨e1, h1, h2⟩ := bind_some q
    refine ⟨_, _, rfl, hf gd a h1 fun σ' g' m' k' n' l' => hh g' b h2 fun σ2 g2 m2 k2 n2 l2 => k σ2 g2 (fun a x => m' a (m2 a x)) (k'.trans k2) (fun j hj => ?_) (l2.trans l')⟩
    rw [n2 j (fun z => hj (List.mem_append_right _ z)), n' j (fun z => hj (List.mem_append_left _ z))]
def tgTup (h : List D → En → Option En) : D → En → Option En := fun d e => match d with
  | .tup ds => h ds e
  | _ => none
theorem tg_tup {n : Nat} {gs : TGs} {h : List Dv.D → En → Option En} {vs : List Nat} (hn : ∀ ds e e', h ds e = some e' → ds.length = n) (hh : TgsD K cd kp vs gs h) : TgD K cd kp vs (gTup K n gs) (tgTup h) := fun {ox H G e e' σ d v Q} g r q k => by
  cases r with
  | tup h1 h2 => exact ⟨_, _, rfl, SqT.of (g.sub.tup h1), by rw [h2.len]; exact hn _ _ _ q, hh g h2 q k⟩
  | tupK h1 h2 => exact ⟨_, _, rfl, h1 H, by rw [h2.len]; exact hn _ _ _ q, hh g h2 q k⟩
  | _ => cases q
theorem tgNil_len : ∀ ds e e', tgNil ds e = some e' → ds.length = 0 := fun ds e e' h => by
  cases ds with
  | nil => rfl
  | cons _ _ => cases h
theorem tgCons_len {f : Dv.D → En → Option En} {h : List Dv.D → En → Option En} {n : Nat} (hn : ∀ ds e e', h ds e = some e' → ds.length = n) : ∀ ds e e', tgCons f h ds e = some e' → ds.length = n + 1 := fun ds e e' q => by
  cases ds with
  | nil => cases q
  | cons d ds =>
    obtain ⟨e1, _, h2⟩ := bind_some q
    rw [List.length_cons, hn _ _ _ h2]
def forL (tg : D → En → Option En) (f : En → Fl) : List D → En → Fl
  | [], e => .nx e
  | d :: ds, e => match tg d e with
    | none => .stuck
    | some e1 => match f e1 with
      | .nx e2 => forL tg f ds e2
      | .ct e2 => forL tg f ds e2
      | .bk e2 => .nx e2
      | r => r
def fFor (src : En → Is) (tg : D → En → Option En) (f : En → Fl) : En → Fl := fun e => (src e).fl fun items e1 => forL tg f items e1
theorem for_loop {ox : Addr → Prop} {items : List Dv.D} {J : It} {P : Pins} {g : TG} {vs : List Nat} {tg : Dv.D → En → Option En} {D : Ends} (hg : TgD K cd kp vs g tg) (hf : ES K cd E kp t f) (g1 : Gd K cd ox H1 G1 e1 σ) (p1 : PinOk P H1 e1 σ) (wk : Wk K cd G1 J P items) (w1 : FlW K cd ox E kp D H1 G1 σ e1 (forL tg f items e1)) :
    ∃ W : Nat → Nat → St → Hp → Prop, (∃ m, W 0 m σ H1) ∧ ∀ i m σ H, W i m σ H → (J.stop i H ∧ D.nx σ H) ∨ (J.go i H ∧ ∃ N : St → Hp → Prop, (∀ σ' H', N σ' H' → ∃ m', m' < m ∧ W (i + 1) m' σ' H') ∧ ∀ x H', J.yld i H x H' → g x σ H' fun σ2 H2 => t { D with nx := N, ct := N, bk := D.nx } σ2 H2) := by
  refine ⟨fun i m σ' H' => m = items.length - i ∧ i ≤ items.length ∧ ∃ G' e', Gd K cd ox H' G' e' σ' ∧ Same G1 G' ∧ PinOk P H' e' σ' ∧ FlW K cd ox E kp D H' G' σ' e' (forL tg f (items.drop i) e'), ⟨items.length, rfl, Nat.zero_le _, G1, e1, g1, Same.refl _, p1, w1⟩, ?_⟩
  rintro i m σ2 H2 ⟨rfl, hle, G2, e2, g2, sg2, p2, w2⟩
  obtain ⟨j1, j2, j3⟩ := wk i H2 G2 sg2 g2.sub (fun p hp => (p2 p hp).1)
  by_cases lt : i < items.length
  · refine .inr ⟨j2 lt, fun σ' H' => ∃ G' e', Gd K cd ox H' G' e' σ' ∧ Same G1 G' ∧ PinOk P H' e' σ' ∧ FlW K cd ox E kp D H' G' σ' e' (forL tg f (items.drop (i + 1)) e'),
      fun σ' H' q => ⟨items.length - (i + 1), by omega, rfl, lt, q⟩, fun x H3 y => ?_⟩
    obtain ⟨G3, d, gr, hd, r⟩ := j3 lt x H3 y
    have g3 := g2.grow gr
    have w3 := FlW.stp w2 (e1 := e2) (σ1 := σ2) gr.stp .refl
    have p3 := p2.stp (e1 := e2) (σ1 := σ2) (gr.stp (M := Mn e2 σ2))
    have ed : items.drop i = d :: items.drop (i + 1) := by
      rw [List.drop_eq_getElem_cons lt]
      rw [List.getElem?_eq_getElem lt] at hd
      cases hd; rfl
    rw [ed] at w3
    unfold forL at w3
    cases q : tg d e2 with
    | none => rw [q] at w3; exact w3.elim
    | some e4 =>
      rw [q] at w3
      refine hg g3 r q fun σ4 g4 m4 k4 _ _ => hf H3 G3 e4 σ4 g4 _ ?_
      have s4 : Stp H3 G3 (Mn e2 σ2) H3 G3 (Mn e4 σ4) := Stp.refl.mono m4
      have w4 : FlW K cd ox E kp D H3 G3 σ4 e4 (match f e4 with | .nx e2 => forL tg f (items.drop (i + 1)) e2 | .ct e2 => forL tg f (items.drop (i + 1)) e2 | .bk e2 => .nx e2 | r => r) := FlW.stp w3 s4 k4
      have p4 := p3.stp s4
      have sg4 : Same G1 G3 := sg2.trans gr.gg
      cases q5 : f e4 with
      | stuck => rw [q5] at w4; exact w4
      | nx e5 => rw [q5] at w4; exact fun H' G' σ' g' s' k' => ⟨G', e5, g', sg4.trans s'.gg, p4.stp s', FlW.stp w4 s' k'⟩
      | ct e5 => rw [q5] at w4; exact fun H' G' σ' g' s' k' => ⟨G', e5, g', sg4.trans s'.gg, p4.stp s', FlW.stp w4 s' k'⟩
      | bk e5 => rw [q5] at w4; exact w4
      | rt r e5 => rw [q5] at w4; exact w4
      | exc c fs e5 => rw [q5] at w4; exact w4
  · obtain rfl : i = items.length := by omega
    refine .inl ⟨j1 (Nat.le_refl _), ?_⟩
    rw [List.drop_length] at w2
    exact w2 H2 G2 σ2 g2 .refl .refl
theorem es_for {wi : TI} {src : En → Is} {g : TG} {vs : List Nat} {tg : Dv.D → En → Option En} (hi : EvI K cd E wi src) (hg : TgD K cd kp vs g tg) (hf : ES K cd E kp t f) : ES K cd E kp (tFor wi g t) (fFor src tg f) := by
  intro ox H G e σ gd D w
  exact hi.s gd w fun items e1 H1 G1 J P g1 s1 p1 wk w1 => for_loop hg hf g1 p1 wk w1
end
end Dv
/-! calls of the text's own defs; what is ours changes; displays -/
namespace Dv
open PySem PySem.Spec PyProof.Rows L2
open SX (S S_len S_cat)
section
variable {K : PySem.W.Frag} {cd : Nat → Cd} {ox : Addr → Prop} {E : St → XK} {E' : XK} {kp : Nat → Bool} {H G H' G' H1 G1 : Hp} {e e1 e0 : En} {σ σ1 : St} {Q : VK} {ta : TE} {a : En → Rs} {f : En → Fl}
/-- our thing at a0, the slot i, is another one now; the rest stands -/
theorem Gd.upd1 (g : Gd K cd ox H G e σ) {i : Nat} {d d' : D} {a0 : Addr} {M' : Addr → Prop} (hi : e[i]? = some (Sl.ow d)) (ha : σ[i]? = some (some (V.ref a0))) (s : Stp H G (fun a => a = a0) H' G' M') (sb : Sub G' H') (hn : G' a0 = none) (ho : Ow K cd H' G' d' a0) :
    Gd K cd ox H' G' (e.set i (.ow d')) σ ∧ ∀ a, Mn (e.set i (.ow d')) σ a → Mn e σ a := by
  have hl : i < e.length := (List.getElem?_eq_some_iff.mp hi).1
  have ei : (e.set i (.ow d'))[i]? = some (Sl.ow d') := List.getElem?_set_self hl
  have en : ∀ j, j ≠ i → (e.set i (.ow d'))[j]? = e[j]? := fun j hj => List.getElem?_set_ne (Ne.symm hj)
  have mn : ∀ a, Mn (e.set i (.ow d')) σ a → Mn e σ a := fun a ⟨j, d2, h, q⟩ => by
    by_cases z : j = i
    · subst z; exact ⟨j, d, hi, q⟩
    · rw [en j z] at h; exact ⟨j, d2, h, q⟩
  refine ⟨⟨sb, by rw [List.length_set]; exact g.len, fun j d2 h => ?_, fun j d2 h => ?_, fun j d2 h => ?_, fun a h => (let ⟨o, q⟩ := g.old a h; s.al a o q), fun j k d1 d2 b h1 h2 h3 h4 => ?_⟩, mn⟩
  · have z : j ≠ i := fun z => by subst z; rw [ei] at h; cases h
    rw [en j z] at h
    obtain ⟨v, x, y⟩ := g.sh j d2 h
    exact ⟨v, x, y.mono s.gg⟩
  · have z : j ≠ i := fun z => by subst z; rw [ei] at h; cases h
    rw [en j z] at h
    obtain ⟨b, x, y, m, nm, ob⟩ := g.bo j d2 h
    have nb : b ≠ a0 := fun q => nm ⟨i, d, hi, by rw [q]; exact ha⟩
    exact ⟨b, x, y.step m (fun o q => s.fr b o q nb) s.gg, m, fun q => nm (mn b q), ob⟩
  · by_cases z : j = i
    · subst z; rw [ei] at h; cases h; exact ⟨a0, ha, hn, ho⟩
    · rw [en j z] at h
      obtain ⟨b, x, y, w⟩ := g.ow j d2 h
      have nb : b ≠ a0 := fun q => z (g.inj j i d2 d b h hi x (by rw [q]; exact ha))
      obtain ⟨o, hb, _⟩ := w.at
      exact ⟨b, x, s.gn b o hb nb y, w.mono (fun o q => s.fr b o q nb) s.gg⟩
  · have low : ∀ j d2, (e.set i (.ow d'))[j]? = some (Sl.ow d2) → ∃ d3, e[j]? = some (Sl.ow d3) := fun j d2 h => by
      by_cases z : j = i
      · subst z; exact ⟨d, hi⟩
      · rw [en j z] at h; exact ⟨d2, h⟩
    obtain ⟨d3, h1'⟩ := low j d1 h1
    obtain ⟨d4, h2'⟩ := low k d2 h2
    exact g.inj j k d3 d4 b h1' h2' h3 h4
/-- .. shared now -/
theorem Gd.upd1S (g : Gd K cd ox H G e σ) {i : Nat} {d d' : D} {a0 : Addr} {M' : Addr → Prop} (hi : e[i]? = some (Sl.ow d)) (ha : σ[i]? = some (some (V.ref a0))) (s : Stp H G (fun a => a = a0) H' G' M') (sb : Sub G' H') (hr : Rp K cd G' d' (.ref a0)) :
    Gd K cd ox H' G' (e.set i (.sh d')) σ ∧ ∀ a, Mn (e.set i (.sh d')) σ a → Mn e σ a := by
  have hl : i < e.length := (List.getElem?_eq_some_iff.mp hi).1
  have ei : (e.set i (.sh d'))[i]? = some (Sl.sh d') := List.getElem?_set_self hl
  have en : ∀ j, j ≠ i → (e.set i (.sh d'))[j]? = e[j]? := fun j hj => List.getElem?_set_ne (Ne.symm hj)
  have mn : ∀ a, Mn (e.set i (.sh d')) σ a → Mn e σ a := fun a q => mn_set q
  refine ⟨⟨sb, by rw [List.length_set]; exact g.len, fun j d2 h => ?_, fun j d2 h => ?_, fun j d2 h => ?_, fun a h => (let ⟨o, q⟩ := g.old a h; s.al a o q), fun j k d1 d2 b h1 h2 h3 h4 => ?_⟩, mn⟩
  · by_cases z : j = i
    · subst z; rw [ei] at h; cases h; exact ⟨_, ha, hr⟩
    · rw [en j z] at h
      obtain ⟨v, x, y⟩ := g.sh j d2 h
      exact ⟨v, x, y.mono s.gg⟩
  · have z : j ≠ i := fun z => by subst z; rw [ei] at h; cases h
    rw [en j z] at h
    obtain ⟨b, x, y, m, nm, ob⟩ := g.bo j d2 h
    have nb : b ≠ a0 := fun q => nm ⟨i, d, hi, by rw [q]; exact ha⟩
    exact ⟨b, x, y.step m (fun o q => s.fr b o q nb) s.gg, m, fun q => nm (mn b q), ob⟩
  · have z : j ≠ i := fun z => by subst z; rw [ei] at h; cases h
    rw [en j z] at h
    obtain ⟨b, x, y, w⟩ := g.ow j d2 h
    have nb : b ≠ a0 := fun q => z (g.inj j i d2 d b h hi x (by rw [q]; exact ha))
    obtain ⟨o, hb, _⟩ := w.at
    exact ⟨b, x, s.gn b o hb nb y, w.mono (fun o q => s.fr b o q nb) s.gg⟩
  · have z1 : j ≠ i := fun z => by subst z; rw [ei] at h1; cases h1
    have z2 : k ≠ i := fun z => by subst z; rw [ei] at h2; cases h2
    rw [en j z1] at h1; rw [en k z2] at h2
    exact g.inj j k d1 d2 b h1 h2 h3 h4
theorem al_upd {a0 : Addr} {o' : HO} : ∀ a o, H a = some o → ∃ o2, upd H a0 o' a = some o2 := fun a o h => by
  by_cases z : a = a0
  · exact ⟨o', by rw [z]; exact upd_same⟩
  · exact ⟨o, by rw [upd_ne z]; exact h⟩
/-- a write at our thing -/
theorem stp_write {a0 : Addr} {o' : HO} : Stp H G (fun a => a = a0) (upd H a0 o') G (fun a => a = a0) :=
  ⟨fun a o h m => by rw [upd_ne m]; exact h, Same.refl _, fun _ _ _ _ h => h, fun a h => .inl h, fun a o h => by
    by_cases z : a = a0
    · exact ⟨o', by rw [z]; exact upd_same⟩
    · exact ⟨o, by rw [upd_ne z]; exact h⟩⟩
theorem sub_write (s : Sub G H) {a0 : Addr} {o' : HO} (n : G a0 = none) : Sub G (upd H a0 o') := fun a o h => by
  have z : a ≠ a0 := fun z => by subst z; rw [n] at h; cases h
  rw [upd_ne z]; exact s a o h
/-! what a def promises: by its run over the slots of its arguments -/
def spD (K : PySem.W.Frag) (cd : Nat → Cd) (f : En → Rs) : Sp := fun vs H Q E => ∃ ox G e0, Gd K cd ox H G e0 (vs.map some) ∧ RsW K cd ox (fun _ => E) Q H G (vs.map some) e0 (f e0)
def spD0 (K : PySem.W.Frag) (cd : Nat → Cd) (f : En → Rs) : Sp := fun vs H Q _ => ∃ ox G e0, Gd K cd ox H G e0 (vs.map some) ∧ RsW K cd ox EN Q H G (vs.map some) e0 (f e0)
/-- the arguments' slots behind the call: only what was ours is told -/
def outE : En → En → En
  | [], _ => []
  | _ :: r, [] => .no :: outE r []
  | .ow _ :: r, .ow d :: s => .ow d :: outE r s
  | .ow _ :: r, .sh d :: s => .sh d :: outE r s
  | _ :: r, _ :: s => .no :: outE r s
def okKp (kp : Nat → Bool) : Nat → En → Bool
  | _, [] => true
  | i, .ow _ :: r => kp i && okKp kp (i + 1) r
  | i, _ :: r => okKp kp (i + 1) r
/-- a def with np parameters, n slots more, its body's run f -/
def fnF (np n : Nat) (kp : Nat → Bool) (f : En → Fl) : En → Rs := fun e0 => if e0.length = np ∧ okKp kp 0 e0 = true then (match f (e0 ++ List.replicate n .no) with
  | .rt (.sh d) e' => .ok (.sh d) (outE e0 e')
  | .rt (.ow d) e' => .ok (.ow d) (outE e0 e')
  | .nx e' => .ok (.sh .non) (outE e0 e')
  | .exc c fs e' => .exc c fs (outE e0 e')
  | _ => .stuck) else .stuck
theorem spD_len {np n : Nat} {vs : List V} {Q : VK} (h : spD K cd (fnF np n kp f) vs H Q E') : vs.length = np := by
  obtain ⟨ox, G, e0, g, w⟩ := h
  unfold fnF at w
  split at w
  · rename_i hn
    rw [← hn.1, g.len, List.length_map]
  · exact w.elim
theorem spD0_len {np n : Nat} {vs : List V} {Q : VK} (h : spD0 K cd (fnF np n kp f) vs H Q E') : vs.length = np := by
  obtain ⟨ox, G, e0, g, w⟩ := h
  unfold fnF at w
  split at w
  · rename_i hn
    rw [← hn.1, g.len, List.length_map]
  · exact w.elim
theorem okKp_at : ∀ {e : En} {n i : Nat} {d : D}, okKp kp n e = true → e[i]? = some (Sl.ow d) → kp (n + i) = true
  | [], _, i, _, _, q => by simp at q
  | s :: r, n, 0, d, h, q => by
    simp at q; subst q
    unfold okKp at h
    rw [Bool.and_eq_true] at h
    exact h.1
  | s :: r, n, i + 1, d, h, q => by
    have q' : r[i]? = some (Sl.ow d) := by simpa using q
    have h' : okKp kp (n + 1) r = true := by
      cases s with
      | ow d => unfold okKp at h; rw [Bool.and_eq_true] at h; exact h.2
      | _ => exact h
    have := okKp_at (e := r) (n := n + 1) (i := i) h' q'
    rw [show n + (i + 1) = n + 1 + i by omega]; exact this
theorem outE_at : ∀ {e0 e' : En} {i : Nat} {s : Sl}, (outE e0 e')[i]? = some s → s ≠ .no → e'[i]? = some s ∧ ∃ d, e0[i]? = some (Sl.ow d)
  | [], _, _, _, h, _ => by simp [outE] at h
  | _ :: _, [], 0, _, h, n => by simp [outE] at h; exact absurd h.symm n
  | _ :: r, [], i + 1, s, h, n => by
    have h' : (outE r [])[i]? = some s := by simpa [outE] using h
    obtain ⟨a, _⟩ := outE_at h' n
    simp at a
  | x :: r, y :: t, 0, s, h, n => by
    cases x <;> cases y <;> simp [outE] at h <;> first | (subst h; exact absurd rfl n) | (subst h; exact ⟨rfl, _, rfl⟩)
  | x :: r, y :: t, i + 1, s, h, n => by
    have h' : (outE r t)[i]? = some s := by cases x <;> cases y <;> simpa [outE] using h
    obtain ⟨a, d, b⟩ := outE_at h' n
    exact ⟨by simpa using a, d, by simpa using b⟩
theorem outE_len : ∀ {e0 e' : En}, (outE e0 e').length = e0.length
  | [], _ => rfl
  | _ :: r, [] => by simp [outE, outE_len (e0 := r) (e' := [])]
  | x :: r, y :: t => by
    have := outE_len (e0 := r) (e' := t)
    cases x <;> cases y <;> simpa [outE] using this
/-- the body's run makes the promise true -/
theorem body_okW {np n : Nat} {t : TS} {N : List Str} {vs : List V} (hn : N.length = np + n) (hf : ES K cd (fun _ => E') kp t f) (h : ∃ ox G e0, Gd K cd ox H G e0 (vs.map some) ∧ RsW K cd ox (fun _ => E') Q H G (vs.map some) e0 (fnF np n kp f e0)) : t { nx := fun _ H' => Q .non H', rt := Q } (L2.start N vs) H := by
  obtain ⟨ox, G, e0, g, w⟩ := h
  have w0 := w
  unfold fnF at w
  split at w
  case isFalse => exact w.elim
  rename_i hc
  have hv : vs.length = np := by rw [← hc.1, g.len, List.length_map]
  have hst : L2.start N vs = vs.map some ++ List.replicate n none := by
    unfold L2.start
    rw [hn, hv, Nat.add_sub_cancel_left]
  have le : e0.length = (vs.map some).length := g.len
  -- slots behind the parameters hold nothing
  have lowE : ∀ (j : Nat) (s : Sl), (e0 ++ List.replicate n Sl.no)[j]? = some s → s ≠ .no → e0[j]? = some s := fun j s h m => by
    by_cases z : j < e0.length
    · rw [List.getElem?_append_left z] at h; exact h
    · rw [List.getElem?_append_right (by omega)] at h
      have := List.mem_of_getElem? h
      rw [List.mem_replicate] at this
      exact absurd this.2 m
  have lowS : ∀ (j : Nat), j < e0.length → (L2.start N vs)[j]? = (vs.map some)[j]? := fun j z => by
    rw [hst, List.getElem?_append_left (by rw [← le]; exact z)]
  have ltE : ∀ (j : Nat) (s : Sl), e0[j]? = some s → j < e0.length := fun j s h => (List.getElem?_eq_some_iff.mp h).1
  have mnE : ∀ a, Mn (e0 ++ List.replicate n Sl.no) (L2.start N vs) a ↔ Mn e0 (vs.map some) a := fun a => by
    constructor
    · rintro ⟨j, d, h, q⟩
      have h' := lowE j _ h (fun z => nomatch z)
      rw [lowS j (ltE j _ h')] at q
      exact ⟨j, d, h', q⟩
    · rintro ⟨j, d, h, q⟩
      refine ⟨j, d, by rw [List.getElem?_append_left (ltE j _ h)]; exact h, by rw [lowS j (ltE j _ h)]; exact q⟩
  have g0 : Gd K cd ox H G (e0 ++ List.replicate n Sl.no) (L2.start N vs) := by
    refine ⟨g.sub, by rw [hst, List.length_append, List.length_append, le]; simp, fun j d h => ?_, fun j d h => ?_, fun j d h => ?_, g.old, fun j k d1 d2 b h1 h2 h3 h4 => ?_⟩
    · have h' := lowE j _ h (fun z => nomatch z)
      rw [lowS j (ltE j _ h')]; exact g.sh j d h'
    · have h' := lowE j _ h (fun z => nomatch z)
      rw [lowS j (ltE j _ h')]
      obtain ⟨b, x, y, m, nm, ob⟩ := g.bo j d h'
      exact ⟨b, x, y, m, fun q => nm ((mnE b).mp q), ob⟩
    · have h' := lowE j _ h (fun z => nomatch z)
      rw [lowS j (ltE j _ h')]; exact g.ow j d h'
    · have h1' := lowE j _ h1 (fun z => nomatch z)
      have h2' := lowE k _ h2 (fun z => nomatch z)
      rw [lowS j (ltE j _ h1')] at h3; rw [lowS k (ltE k _ h2')] at h4
      exact g.inj j k d1 d2 b h1' h2' h3 h4
  -- back to the arguments
  have back : ∀ {H' G' : Hp} {e' : En} {σ' : St}, Gd K cd ox H' G' e' σ' → Stp H G (Mn (e0 ++ List.replicate n Sl.no) (L2.start N vs)) H' G' (Mn e' σ') → Kp kp (L2.start N vs) σ' →
      Gd K cd ox H' G' (outE e0 e') (vs.map some) ∧ Stp H G (Mn e0 (vs.map some)) H' G' (Mn (outE e0 e') (vs.map some)) ∧ ∀ a, Mn (outE e0 e') (vs.map some) a → Mn e' σ' a := fun {H' G' e' σ'} g' s' k' => by
    have at' : ∀ (j : Nat) (s : Sl), (outE e0 e')[j]? = some s → s ≠ .no → e'[j]? = some s ∧ (vs.map some)[j]? = σ'[j]? := fun j s h m => by
      obtain ⟨h1, d, h2⟩ := outE_at h m
      have hk := okKp_at hc.2 h2
      rw [Nat.zero_add] at hk
      exact ⟨h1, by rw [k' j hk, lowS j (ltE j _ h2)]⟩
    have mn' : ∀ a, Mn (outE e0 e') (vs.map some) a → Mn e' σ' a := fun a ⟨j, d, h, q⟩ => by
      obtain ⟨h1, h2⟩ := at' j _ h (fun z => nomatch z)
      rw [h2] at q
      exact ⟨j, d, h1, q⟩
    refine ⟨⟨g'.sub, by rw [outE_len]; exact le, fun j d h => ?_, fun j d h => ?_, fun j d h => ?_, g'.old, fun j k d1 d2 b h1 h2 h3 h4 => ?_⟩, ⟨fun a o h m => s'.fr a o h (fun q => m ((mnE a).mp q)), s'.gg, fun a o h m => s'.gn a o h (fun q => m ((mnE a).mp q)), fun a q => (s'.mm a (mn' a q)).imp (mnE a).mp id, s'.al⟩, mn'⟩
    · obtain ⟨h1, h2⟩ := at' j _ h (fun z => nomatch z)
      rw [h2]; exact g'.sh j d h1
    · obtain ⟨h1, h2⟩ := at' j _ h (fun z => nomatch z)
      rw [h2]
      obtain ⟨b, x, y, m, nm, ob⟩ := g'.bo j d h1
      exact ⟨b, x, y, m, fun q => nm (mn' b q), ob⟩
    · obtain ⟨h1, h2⟩ := at' j _ h (fun z => nomatch z)
      rw [h2]; exact g'.ow j d h1
    · obtain ⟨a1, a2⟩ := at' j _ h1 (fun z => nomatch z)
      obtain ⟨b1, b2⟩ := at' k _ h2 (fun z => nomatch z)
      rw [a2] at h3; rw [b2] at h4
      exact g'.inj j k d1 d2 b a1 b1 h3 h4
  refine hf H G _ _ g0 _ ?_
  have w1 : RsW K cd ox (fun _ => E') Q H G (vs.map some) e0 (match f (e0 ++ List.replicate n .no) with
    | .rt (.sh d) e' => .ok (.sh d) (outE e0 e')
    | .rt (.ow d) e' => .ok (.ow d) (outE e0 e')
    | .nx e' => .ok (.sh .non) (outE e0 e')
    | .exc c fs e' => .exc c fs (outE e0 e')
    | _ => .stuck) := w
  cases q : f (e0 ++ List.replicate n .no) with
  | stuck => rw [q] at w1; exact w1
  | bk e' => rw [q] at w1; exact w1.elim
  | ct e' => rw [q] at w1; exact w1.elim
  | nx e' =>
    rw [q] at w1
    intro H' G' σ' g' s' k'
    obtain ⟨g2, s2, _⟩ := back g' s' k'
    exact w1 H' G' .non g2 s2 .non
  | exc c fs e' =>
    rw [q] at w1
    intro H' G' σ' od g' s' k' x
    obtain ⟨g2, s2, _⟩ := back g' s' k'
    refine w1 H' G' od g2 s2 ?_
    rcases x with x | ⟨a, fs', h1, h2, h3⟩
    · exact .inl x
    · exact .inr ⟨a, fs', h1, h2.imp (mnE a).mp id, h3⟩
  | rt r e' =>
    rw [q] at w1
    cases r with
    | sl i => exact w1.elim
    | sh d =>
      intro H' G' σ' v g' s' k' x
      obtain ⟨g2, s2, _⟩ := back g' s' k'
      exact w1 H' G' v g2 s2 x
    | ow d =>
      intro H' G' σ' v g' s' k' x
      obtain ⟨g2, s2, m2⟩ := back g' s' k'
      obtain ⟨a, rfl, h2, h3, h4, h5, h6⟩ := x
      refine w1 H' G' _ g2 s2 ⟨a, rfl, h2, h3, fun z => h4 (m2 a z), fun i d' hb hq => ?_, h6.imp (mnE a).mp id⟩
      obtain ⟨_, _, b, d2⟩ := g2.bo i d' hb
      obtain ⟨h1, d3, h7⟩ := outE_at hb (fun z => nomatch z)
      have hk := okKp_at hc.2 h7
      rw [Nat.zero_add] at hk
      exact h5 i d' h1 (by rw [k' i hk, lowS i (ltE i _ h7)]; exact hq)
theorem body_ok0 {np n : Nat} {t : TS} {N : List Str} {vs : List V} {E1 : XK} (hn : N.length = np + n) (hf : ES K cd EN kp t f) (h : spD0 K cd (fnF np n kp f) vs H Q E1) : t { nx := fun _ H' => Q .non H', rt := Q } (L2.start N vs) H := body_okW hn hf h
theorem body_ok {np n : Nat} {t : TS} {N : List Str} {vs : List V} (hn : N.length = np + n) (hf : ES K cd (fun _ => E') kp t f) (h : spD K cd (fnF np n kp f) vs H Q E') : t { nx := fun _ H' => Q .non H', rt := Q } (L2.start N vs) H := body_okW hn hf h
/-! a call -/
inductive Md where
  | sh | bo | mu
def nrm (d : D) : Sl := if isM d = true then .bo d else .sh d
/-- an argument's slot in the callee -/
def slOf (m : Md) (e : En) (r : Rv) : Option Sl := match m, r with
  | .sh, .sh d => some (.sh d)
  | .bo, .sh d => some (nrm d)
  | .bo, .sl i => (match e[i]? with
    | some (.sh d) => some (nrm d)
    | some (.bo d) => some (.bo d)
    | some (.ow d) => some (.bo d)
    | _ => none)
  | .mu, .sl i => (match e[i]? with
    | some (.ow d) => some (.ow d)
    | _ => none)
  | _, _ => none
def mkE (e : En) : List Md → List Rv → Option En
  | [], [] => some []
  | m :: ms, r :: rs => (slOf m e r).bind fun s => (mkE e ms rs).bind fun e0 => some (s :: e0)
  | _, _ => none
/-- which argument is changed: its place among the arguments, its slot -/
def muOf : Nat → List Md → List Rv → Option (Option (Nat × Nat))
  | _, [], _ => some none
  | n, .mu :: ms, .sl i :: rs => if ms.all (fun m => match m with | .mu => false | _ => true) = true then some (some (n, i)) else none
  | _, .mu :: _, _ => none
  | n, _ :: ms, _ :: rs => muOf (n + 1) ms rs
  | _, _ :: _, [] => none
def putS (e1 e0 : En) (j i : Nat) : Option En := match e0[j]? with
  | some (.ow d) => some (e1.set i (.ow d))
  | some (.sh d) => some (e1.set i (.sh d))
  | _ => none
def backR (e1 : En) : Option (Nat × Nat) → Rs → Rs
  | none, .ok (.sh d) _ => .ok (.sh d) e1
  | none, .ok (.ow d) _ => .ok (.ow d) e1
  | none, .exc c fs _ => .exc c fs e1
  | some (j, i), .ok (.sh d) e0 => (match putS e1 e0 j i with | some e2 => .ok (.sh d) e2 | none => .stuck)
  | some (j, i), .ok (.ow d) e0 => (match putS e1 e0 j i with | some e2 => .ok (.ow d) e2 | none => .stuck)
  | some (j, i), .exc c fs e0 => (match putS e1 e0 j i with | some e2 => .exc c fs e2 | none => .stuck)
  | _, _ => .stuck
/-- the slot that changes goes in but once -/
def okMu (rs : List Rv) : Option (Nat × Nat) → Bool
  | none => true
  | some (j, i) => (rs.eraseIdx j).all (fun r => match r with | .sl k => k != i | _ => true)
def runF (ms : List Md) (f : En → Rs) (rs : List Rv) (e1 : En) : Rs := match mkE e1 ms rs, muOf 0 ms rs with
  | some e0, some m => if okMu rs m = true then backR e1 m (f e0) else .stuck
  | _, _ => .stuck
def eCall (ms : List Md) (f : En → Rs) (as : En → As) : En → Rs := fun e => (as e).bind fun rs e1 => runF ms f rs e1
theorem mkE_at : ∀ {ms : List Md} {rs : List Rv} {e0 : En} {j : Nat} {s : Sl}, mkE e1 ms rs = some e0 → e0[j]? = some s → ∃ m r, ms[j]? = some m ∧ rs[j]? = some r ∧ slOf m e1 r = some s
  | [], [], e0, j, s, h, q => by cases h; simp at q
  | [], _ :: _, _, _, _, h, _ => by cases h
  | _ :: _, [], _, _, _, h, _ => by cases h
  | m :: ms, r :: rs, e0, j, s, h, q => by
    obtain ⟨t, h1, h⟩ := bind_some h
    obtain ⟨e', h2, h⟩ := bind_some h
    cases h
    cases j with
    | zero => simp at q; subst q; exact ⟨m, r, rfl, rfl, h1⟩
    | succ j =>
      obtain ⟨m', r', a, b, c⟩ := mkE_at (j := j) h2 (by simpa using q)
      exact ⟨m', r', by simpa using a, by simpa using b, c⟩
theorem mkE_len : ∀ {ms : List Md} {rs : List Rv} {e0 : En}, mkE e1 ms rs = some e0 → e0.length = rs.length
  | [], [], e0, h => by cases h; rfl
  | [], _ :: _, _, h => by cases h
  | _ :: _, [], _, h => by cases h
  | m :: ms, r :: rs, e0, h => by
    obtain ⟨t, h1, h⟩ := bind_some h
    obtain ⟨e', h2, h⟩ := bind_some h
    cases h
    rw [List.length_cons, List.length_cons, mkE_len h2]
theorem PdL.len {rs : List Rv} {vs : List V} (p : PdL K cd G σ rs vs) : vs.length = rs.length := by
  induction p with
  | nil => rfl
  | cons _ _ ih => rw [List.length_cons, List.length_cons, ih]
theorem PdL.at : ∀ {rs : List Rv} {vs : List V} {j : Nat} {r : Rv}, PdL K cd G σ rs vs → rs[j]? = some r → ∃ v, vs[j]? = some v ∧ Pd K cd G σ r v
  | _, _, _, _, .nil, e => by simp at e
  | _, _, 0, _, .cons a _, e => by simp at e; subst e; exact ⟨_, rfl, a⟩
  | _, _, i + 1, r, .cons _ q, e => by
    obtain ⟨v, h1, h2⟩ := PdL.at (j := i) (r := r) q (by simpa using e)
    exact ⟨v, by simpa using h1, h2⟩
theorem muOf_none : ∀ {ms : List Md} {rs : List Rv} {n : Nat}, muOf n ms rs = some none → ∀ j : Nat, ms[j]? ≠ some .mu
  | [], _, _, _, j => by simp
  | .sh :: ms, r :: rs, n, h, j => by
    have h' : muOf (n + 1) ms rs = some none := h
    cases j with
    | zero => simp
    | succ j => simpa using muOf_none h' j
  | .bo :: ms, r :: rs, n, h, j => by
    have h' : muOf (n + 1) ms rs = some none := h
    cases j with
    | zero => simp
    | succ j => simpa using muOf_none h' j
  | .mu :: ms, .sl i :: rs, n, h, j => by
    unfold muOf at h
    split at h <;> cases h
  | .mu :: ms, .sh _ :: rs, n, h, j => by cases h
  | .mu :: ms, .ow _ :: rs, n, h, j => by cases h
  | .mu :: ms, [], n, h, j => by cases h
  | .sh :: ms, [], n, h, j => by cases h
  | .bo :: ms, [], n, h, j => by cases h
theorem muOf_some : ∀ {ms : List Md} {rs : List Rv} {n j i : Nat}, muOf n ms rs = some (some (j, i)) → n ≤ j ∧ ms[j - n]? = some .mu ∧ rs[j - n]? = some (.sl i) ∧ ∀ k, ms[k]? = some .mu → k = j - n
  | [], _, _, _, _, h => by cases h
  | .sh :: ms, r :: rs, n, j, i, h => by
    have h' : muOf (n + 1) ms rs = some (some (j, i)) := h
    obtain ⟨a, b, c, d⟩ := muOf_some h'
    have e : j - n = (j - (n + 1)) + 1 := by omega
    refine ⟨by omega, by rw [e]; simpa using b, by rw [e]; simpa using c, fun k hk => ?_⟩
    cases k with
    | zero => simp at hk
    | succ k => have := d k (by simpa using hk); omega
  | .bo :: ms, r :: rs, n, j, i, h => by
    have h' : muOf (n + 1) ms rs = some (some (j, i)) := h
    obtain ⟨a, b, c, d⟩ := muOf_some h'
    have e : j - n = (j - (n + 1)) + 1 := by omega
    refine ⟨by omega, by rw [e]; simpa using b, by rw [e]; simpa using c, fun k hk => ?_⟩
    cases k with
    | zero => simp at hk
    | succ k => have := d k (by simpa using hk); omega
  | .mu :: ms, .sl i' :: rs, n, j, i, h => by
    unfold muOf at h
    split at h
    · rename_i hall
      cases h
      refine ⟨Nat.le_refl _, by simp, by simp, fun k hk => ?_⟩
      cases k with
      | zero => omega
      | succ k =>
        have hm : Md.mu ∈ ms := List.mem_of_getElem? (i := k) (by simpa using hk)
        have := List.all_eq_true.mp hall _ hm
        cases this
    · cases h
  | .mu :: ms, .sh _ :: rs, n, _, _, h => by cases h
  | .mu :: ms, .ow _ :: rs, n, _, _, h => by cases h
  | .mu :: ms, [], n, _, _, h => by cases h
  | .sh :: ms, [], n, _, _, h => by cases h
  | .bo :: ms, [], n, _, _, h => by cases h
theorem slOf_sh {m : Md} {r : Rv} {d : D} {v : V} (g : Gd K cd ox H G e1 σ) (p : Pd K cd G σ r v) (h : slOf m e1 r = some (.sh d)) : Rp K cd G d v := by
  have nr : ∀ d', Rp K cd G d' v → some (nrm d') = some (Sl.sh d) → Rp K cd G d v := fun d' r q => by
    unfold nrm at q
    split at q <;> cases q
    exact r
  cases m with
  | sh => cases r with
    | sh d' => cases h; exact p
    | _ => cases h
  | mu => cases r with
    | sl i =>
      unfold slOf at h
      simp only at h
      split at h <;> cases h
    | _ => cases h
  | bo => cases r with
    | sh d' => exact nr d' p h
    | ow d' => cases h
    | sl i =>
      have p' : σ[i]? = some (some v) := p
      unfold slOf at h
      simp only at h
      split at h
      · rename_i d' q
        obtain ⟨u, hu, r⟩ := g.sh i d' q
        rw [p'] at hu; cases hu
        exact nr d' r h
      · cases h
      · cases h
      · cases h
theorem rp_ref {d : D} {v : V} (r : Rp K cd G d v) (m : isM d = true) : ∃ a o, v = .ref a ∧ G a = some o := by
  cases r <;> first | exact ⟨_, _, rfl, by assumption⟩ | exact nomatch m
theorem slOf_bo {m : Md} {r : Rv} {d : D} {v : V} (g : Gd K cd ox H G e1 σ) (p : Pd K cd G σ r v) (h : slOf m e1 r = some (.bo d)) :
    ∃ a, v = .ref a ∧ Bv K cd H G d (.ref a) ∧ isM d = true ∧ ∀ (i : Nat) d', e1[i]? = some (Sl.ow d') → σ[i]? = some (some (.ref a)) → r = .sl i := by
  have nr : ∀ d', Rp K cd G d' v → some (nrm d') = some (Sl.bo d) → ∃ a, v = .ref a ∧ Bv K cd H G d (.ref a) ∧ isM d = true ∧ ∀ (i : Nat) d', e1[i]? = some (Sl.ow d') → σ[i]? = some (some (.ref a)) → r = .sl i := fun d' q z => by
    unfold nrm at z
    split at z <;> cases z
    rename_i hm
    obtain ⟨a, o, rfl, ha⟩ := rp_ref q hm
    refine ⟨a, rfl, Rp.bv g.sub q, hm, fun i d' x y => ?_⟩
    obtain ⟨b, x1, x2, _⟩ := g.ow i d' x
    rw [y] at x1; cases x1
    rw [ha] at x2; cases x2
  cases m with
  | sh => cases r <;> cases h
  | mu => cases r with
    | sl i =>
      unfold slOf at h
      simp only at h
      split at h <;> cases h
    | _ => cases h
  | bo => cases r with
    | sh d' => exact nr d' p h
    | ow d' => cases h
    | sl i =>
      have p' : σ[i]? = some (some v) := p
      unfold slOf at h
      simp only at h
      split at h
      · rename_i d' q
        obtain ⟨u, hu, r⟩ := g.sh i d' q
        rw [p'] at hu; cases hu
        exact nr d' r h
      · rename_i d' q
        cases h
        obtain ⟨b, x, y, z, w, _⟩ := g.bo i d q
        rw [p'] at x; cases x
        exact ⟨b, rfl, y, z, fun k d' x1 x2 => absurd ⟨k, d', x1, x2⟩ w⟩
      · rename_i d' q
        cases h
        obtain ⟨b, x, y, z⟩ := g.ow i d q
        rw [p'] at x; cases x
        refine ⟨b, rfl, z.bv, ?_, fun k d' x1 x2 => by rw [g.inj k i d' d b x1 q x2 p']⟩
        cases d <;> first | rfl | exact z.elim
      · cases h
theorem slOf_ow {m : Md} {r : Rv} {d : D} (h : slOf m e1 r = some (.ow d)) : m = .mu ∧ ∃ i, r = .sl i ∧ e1[i]? = some (Sl.ow d) := by
  cases m with
  | sh => cases r <;> cases h
  | bo => cases r with
    | sh d' => unfold slOf nrm at h; simp only at h; split at h <;> cases h
    | ow d' => cases h
    | sl i =>
      unfold slOf at h
      simp only at h
      split at h
      · unfold nrm at h; split at h <;> cases h
      · cases h
      · cases h
      · cases h
  | mu => cases r with
    | sl i =>
      unfold slOf at h
      simp only at h
      split at h
      · rename_i d' q
        cases h
        exact ⟨rfl, i, rfl, q⟩
      · cases h
    | _ => cases h
/-- the callee's promise, from what the caller's run says -/
theorem run_spW {ms : List Md} {f : En → Rs} {rs : List Rv} {vs : List V} (g : Gd K cd ox H G e1 σ) (p : PdL K cd G σ rs vs) (w : RsW K cd ox E Q H G σ e1 (runF ms f rs e1)) :
    ∃ ox G e0, Gd K cd ox H G e0 (vs.map some) ∧ RsW K cd ox (fun _ => E σ) Q H G (vs.map some) e0 (f e0) := by
  unfold runF at w
  cases q0 : mkE e1 ms rs with
  | none => rw [q0] at w; exact w.elim
  | some e0 =>
    rw [q0] at w
    cases qm : muOf 0 ms rs with
    | none => rw [qm] at w; exact w.elim
    | some m =>
      rw [qm] at w
      have w0 : RsW K cd ox E Q H G σ e1 (if okMu rs m = true then backR e1 m (f e0) else .stuck) := w
      split at w0
      case isFalse => exact w0.elim
      rename_i hun
      have vm : ∀ (j : Nat) (v : V), vs[j]? = some v → (vs.map some)[j]? = some (some v) := fun j v h => by rw [List.getElem?_map, h]; rfl
      -- what is ours in the callee
      have ow0 : ∀ (j : Nat) (d : D), e0[j]? = some (Sl.ow d) → ∃ i a, m = some (j, i) ∧ e1[i]? = some (Sl.ow d) ∧ σ[i]? = some (some (.ref a)) ∧ (vs.map some)[j]? = some (some (.ref a)) ∧ rs[j]? = some (.sl i) := fun j d h => by
        obtain ⟨md, r, h1, h2, h3⟩ := mkE_at q0 h
        obtain ⟨rfl, i, rfl, h4⟩ := slOf_ow h3
        obtain ⟨v, h5, h6⟩ := p.at h2
        obtain ⟨a, h7, _⟩ := g.ow i d h4
        have h6' : σ[i]? = some (some v) := h6
        rw [h7] at h6'; cases h6'
        cases m with
        | none => exact absurd h1 (muOf_none qm j)
        | some ji =>
          obtain ⟨j', i'⟩ := ji
          obtain ⟨_, b, c, u⟩ := muOf_some qm
          have := u j h1
          rw [Nat.sub_zero] at this c
          subst this
          rw [h2] at c; cases c
          exact ⟨i, a, rfl, h4, h7, vm j _ h5, h2⟩
      have mn0 : ∀ a, Mn e0 (vs.map some) a → ∃ j i d, m = some (j, i) ∧ e1[i]? = some (Sl.ow d) ∧ σ[i]? = some (some (.ref a)) ∧ rs[j]? = some (.sl i) ∧ e0[j]? = some (Sl.ow d) ∧ (vs.map some)[j]? = some (some (.ref a)) := fun a ⟨j, d, h, q⟩ => by
        obtain ⟨i, b, h1, h2, h3, h4, h5⟩ := ow0 j d h
        rw [q] at h4; cases h4
        exact ⟨j, i, d, h1, h2, h3, h5, h, q⟩
      have g0 : Gd K cd (fun a => ∃ o, H a = some o) H G e0 (vs.map some) := by
        refine ⟨g.sub, by rw [mkE_len q0, List.length_map, p.len], fun j d h => ?_, fun j d h => ?_, fun j d h => ?_, fun a h => h, fun j k d1 d2 b h1 h2 h3 h4 => ?_⟩
        · obtain ⟨md, r, h1, h2, h3⟩ := mkE_at q0 h
          obtain ⟨v, h5, h6⟩ := p.at h2
          exact ⟨v, vm j v h5, slOf_sh g h6 h3⟩
        · obtain ⟨md, r, h1, h2, h3⟩ := mkE_at q0 h
          obtain ⟨v, h5, h6⟩ := p.at h2
          obtain ⟨a, rfl, h7, h8, h9⟩ := slOf_bo g h6 h3
          refine ⟨a, vm j _ h5, h7, h8, fun q => ?_, h7.there h8⟩
          obtain ⟨j', i, d', e1', e2', e3', e4', e5', e6'⟩ := mn0 a q
          have := h9 i d' e2' e3'
          subst this
          subst e1'
          have jj : j ≠ j' := fun z => by subst z; rw [h] at e5'; cases e5'
          have hun' : (rs.eraseIdx j').all (fun r => match r with | .sl k => k != i | _ => true) = true := hun
          have mem : Rv.sl i ∈ rs.eraseIdx j' := by
            rw [List.mem_eraseIdx_iff_getElem?]
            exact ⟨j, jj, h2⟩
          have := List.all_eq_true.mp hun' _ mem
          simp at this
        · obtain ⟨i, a, h1, h2, h3, h4, _⟩ := ow0 j d h
          obtain ⟨b, x1, x2, x3⟩ := g.ow i d h2
          rw [h3] at x1; cases x1
          exact ⟨a, h4, x2, x3⟩
        · obtain ⟨i1, _, a1, _⟩ := ow0 j d1 h1
          obtain ⟨i2, _, a2, _⟩ := ow0 k d2 h2
          rw [a1] at a2; cases a2; rfl
      refine ⟨(fun a => ∃ o, H a = some o), G, e0, g0, ?_⟩
      cases m with
      | none =>
        have no : ∀ a, ¬ Mn e0 (vs.map some) a := fun a q => by obtain ⟨j, i, d, h, _⟩ := mn0 a q; cases h
        have gr : ∀ {H' G' : Hp} {e' : En}, Gd K cd (fun a => ∃ o, H a = some o) H' G' e' (vs.map some) → Stp H G (Mn e0 (vs.map some)) H' G' (Mn e' (vs.map some)) → Gr H G H' G' := fun g' s' => ⟨fun a o h => s'.fr a o h (no a), s'.gg, g'.sub, fun a o h q => s'.gn a o h (no a) q⟩
        cases qf : f e0 with
        | stuck => rw [qf] at w0; exact w0
        | exc c fs e' =>
          rw [qf] at w0
          intro H' G' od g' s' x
          have gg := gr g' s'
          refine w0 H' G' od (g.grow gg) gg.stp ?_
          rcases x with x | ⟨a, fs', h1, h2, h3⟩
          · exact .inl x
          · exact .inr ⟨a, fs', h1, h2.elim (fun q => absurd q (no a)) .inr, h3⟩
        | ok r e' =>
          rw [qf] at w0
          cases r with
          | sl i => exact w0.elim
          | sh d =>
            intro H' G' v g' s' x
            have gg := gr g' s'
            exact w0 H' G' v (g.grow gg) gg.stp x
          | ow d =>
            intro H' G' v g' s' x
            have gg := gr g' s'
            obtain ⟨a, rfl, h2, h3, h4, h5, h6⟩ := x
            exact RsW.gr (e := e1) g w0 gg ⟨a, rfl, h6.elim (fun q => absurd q (no a)) id, h2, h3⟩
      | some ji =>
        obtain ⟨j, i⟩ := ji
        obtain ⟨_, b1, c1, u1⟩ := muOf_some qm
        rw [Nat.sub_zero] at b1 c1 u1
        have ex : ∃ d0, e0[j]? = some (Sl.ow d0) := by
          have hj : j < e0.length := by rw [mkE_len q0]; exact (List.getElem?_eq_some_iff.mp c1).1
          obtain ⟨s0, hs0⟩ : ∃ s0, e0[j]? = some s0 := ⟨_, List.getElem?_eq_getElem hj⟩
          obtain ⟨md, r, h1, h2, h3⟩ := mkE_at q0 hs0
          rw [b1] at h1; cases h1
          rw [c1] at h2; cases h2
          unfold slOf at h3
          simp only at h3
          split at h3
          · rename_i d' _
            cases h3; exact ⟨d', hs0⟩
          · cases h3
        obtain ⟨d0, hd0⟩ := ex
        obtain ⟨i', a0, z, hi, ha, hv, _⟩ := ow0 j d0 hd0
        cases z
        have m0 : ∀ a, Mn e0 (vs.map some) a ↔ a = a0 := fun a => by
          constructor
          · intro q
            obtain ⟨j', i', d, z, h2, h3, _⟩ := mn0 a q
            cases z
            rw [ha] at h3; cases h3; rfl
          · rintro rfl; exact ⟨j, d0, hd0, hv⟩
        have st : ∀ {H' G' : Hp} {M' : Addr → Prop}, Stp H G (Mn e0 (vs.map some)) H' G' M' → Stp H G (fun a => a = a0) H' G' M' := fun s => ⟨fun a o h m => s.fr a o h (fun q => m ((m0 a).mp q)), s.gg, fun a o h m => s.gn a o h (fun q => m ((m0 a).mp q)), fun a q => (s.mm a q).imp (m0 a).mp id, s.al⟩
        have hmn : Mn e1 σ a0 := ⟨i, d0, hi, ha⟩
        -- the caller's slots behind the call
        have put : ∀ {H' G' : Hp} {e' e2 : En}, Gd K cd (fun a => ∃ o, H a = some o) H' G' e' (vs.map some) → Stp H G (Mn e0 (vs.map some)) H' G' (Mn e' (vs.map some)) → putS e1 e' j i = some e2 →
            Gd K cd ox H' G' e2 σ ∧ Stp H G (Mn e1 σ) H' G' (Mn e2 σ) ∧ (∀ a, Mn e2 σ a → Mn e1 σ a) ∧ (Mn e2 σ a0 → Mn e' (vs.map some) a0) ∧ (∀ (k : Nat) (d' : D), e2[k]? = some (Sl.bo d') → e1[k]? = some (Sl.bo d')) := fun {H' G' e' e2} g' s' hp => by
          have s2 := st s'
          have stp : ∀ M2 : Addr → Prop, (∀ a, M2 a → Mn e1 σ a) → Stp H G (Mn e1 σ) H' G' M2 := fun M2 h => ⟨fun a o ho m => s2.fr a o ho (fun z => m (by rw [z]; exact hmn)), s2.gg, fun a o ho m => s2.gn a o ho (fun z => m (by rw [z]; exact hmn)), fun a q => .inl (h a q), s2.al⟩
          have bo : ∀ (s : Sl), (∀ d, s ≠ .bo d) → ∀ (k : Nat) (d' : D), (e1.set i s)[k]? = some (Sl.bo d') → e1[k]? = some (Sl.bo d') := fun s hs k d' h => by
            by_cases z : k = i
            · subst z
              rw [List.getElem?_set_self (List.getElem?_eq_some_iff.mp hi).1] at h
              cases h; exact absurd rfl (hs d')
            · rw [List.getElem?_set_ne (Ne.symm z)] at h; exact h
          unfold putS at hp
          split at hp
          · rename_i d' q
            cases hp
            obtain ⟨b, x1, x2, x3⟩ := g'.ow j d' q
            rw [hv] at x1; cases x1
            obtain ⟨g2, mm⟩ := g.upd1 hi ha s2 g'.sub x2 x3
            exact ⟨g2, stp _ mm, mm, fun _ => ⟨j, d', q, hv⟩, bo _ (fun _ z => nomatch z)⟩
          · rename_i d' q
            cases hp
            obtain ⟨v, x1, x2⟩ := g'.sh j d' q
            rw [hv] at x1; cases x1
            obtain ⟨g2, mm⟩ := g.upd1S hi ha s2 g'.sub x2
            refine ⟨g2, stp _ mm, mm, fun ⟨k, d2, h, y⟩ => ?_, bo _ (fun _ z => nomatch z)⟩
            exfalso
            have z : k ≠ i := fun z => by
              subst z
              rw [List.getElem?_set_self (List.getElem?_eq_some_iff.mp hi).1] at h; cases h
            rw [List.getElem?_set_ne (Ne.symm z)] at h
            exact z (g.inj k i d2 d0 a0 h hi y ha)
          · cases hp
        cases qf : f e0 with
        | stuck => rw [qf] at w0; exact w0
        | exc c fs e' =>
          rw [qf] at w0
          have w1 : RsW K cd ox E Q H G σ e1 (match putS e1 e' j i with | some e2 => .exc c fs e2 | none => .stuck) := w0
          cases qp : putS e1 e' j i with
          | none => rw [qp] at w1; exact w1.elim
          | some e2 =>
            rw [qp] at w1
            intro H' G' od g' s' x
            obtain ⟨g2, s2, mm, _⟩ := put g' s' qp
            refine w1 H' G' od g2 s2 ?_
            rcases x with x | ⟨a, fs', h1, h2, h3⟩
            · exact .inl x
            · exact .inr ⟨a, fs', h1, h2.imp (fun q => by rw [(m0 a).mp q]; exact hmn) id, h3⟩
        | ok r e' =>
          rw [qf] at w0
          cases r with
          | sl i => exact w0.elim
          | sh d =>
            have w1 : RsW K cd ox E Q H G σ e1 (match putS e1 e' j i with | some e2 => .ok (.sh d) e2 | none => .stuck) := w0
            cases qp : putS e1 e' j i with
            | none => rw [qp] at w1; exact w1.elim
            | some e2 =>
              rw [qp] at w1
              intro H' G' v g' s' x
              obtain ⟨g2, s2, mm, _⟩ := put g' s' qp
              exact w1 H' G' v g2 s2 x
          | ow d =>
            have w1 : RsW K cd ox E Q H G σ e1 (match putS e1 e' j i with | some e2 => .ok (.ow d) e2 | none => .stuck) := w0
            cases qp : putS e1 e' j i with
            | none => rw [qp] at w1; exact w1.elim
            | some e2 =>
              rw [qp] at w1
              intro H' G' v g' s' x
              obtain ⟨g2, s2, mm, am, bo⟩ := put g' s' qp
              obtain ⟨a, rfl, h2, h3, h4, h5, h6⟩ := x
              have there : ∀ b, Mn e1 σ b → ∃ o, H b = some o := fun b ⟨k, d', x1, x2⟩ => by
                obtain ⟨b', y1, y2, y3⟩ := g.ow k d' x1
                rw [x2] at y1; cases y1
                obtain ⟨o, ho, _⟩ := y3.at
                exact ⟨o, ho⟩
              refine w1 H' G' _ g2 s2 ⟨a, rfl, h2, h3, fun q => ?_, fun k d' hb hq => ?_, h6.imp (fun q => by rw [(m0 a).mp q]; exact hmn) id⟩
              · rcases h6 with h6 | h6
                · have := (m0 a).mp h6
                  subst this
                  exact h4 (am q)
                · obtain ⟨o, ho⟩ := there a (mm a q)
                  rw [h6] at ho; cases ho
              · obtain ⟨b, y1, y2, y3, y4, _⟩ := g.bo k d' (bo k d' hb)
                rw [hq] at y1; cases y1
                rcases h6 with h6 | h6
                · have := (m0 a).mp h6
                  subst this
                  exact y4 hmn
                · obtain ⟨o, ho⟩ := y2.there y3
                  rw [h6] at ho; cases ho
theorem ev_call {ms : List Md} {f : En → Rs} {as : En → As} {t : TA} (ha : EvA K cd (fun _ => E') t as) : EvD K cd (fun _ => E') (tCall (spD K cd f) [] E' t) (eCall ms f as) := fun {ox} H G e σ g Q w =>
  ha g (fun rs e1 H1 G1 vs g1 _ p1 w1 => by
    show spD K cd f (vs ++ []) H1 Q E'
    rw [List.append_nil]
    exact run_spW g1 p1 w1) w
theorem ev_callS {ms : List Md} {f : En → Rs} {as : En → As} {t : TA} (ha : EvA K cd E t as) : EvD K cd E (tCallS (spD K cd f) E t) (eCall ms f as) := fun {ox} H G e σ g Q w =>
  ha g (fun rs e1 H1 G1 vs g1 _ p1 w1 => run_spW g1 p1 w1) w
/-- of a callee that lets nothing out -/
def noX : Rs → Rs
  | .exc _ _ _ => .stuck
  | r => r
theorem RsW.noX {f : En → Rs} (w : RsW K cd ox E Q H G σ e (noX (f e))) : RsW K cd ox EN Q H G σ e (f e) := by
  unfold Dv.noX at w
  cases q : f e with
  | stuck => rw [q] at w; exact w
  | ok r e' => rw [q] at w; exact w
  | exc c fs e' => rw [q] at w; exact w.elim
theorem ev_call0 {ms : List Md} {f : En → Rs} {as : En → As} {t : TA} {E1 : XK} (ha : EvA K cd E t as) : EvD K cd E (tCall (spD0 K cd f) [] E1 t) (eCall ms (fun e => noX (f e)) as) := fun {ox} H G e σ g Q w =>
  ha g (fun rs e1 H1 G1 vs g1 _ p1 w1 => by
    show spD0 K cd f (vs ++ []) H1 Q E1
    rw [List.append_nil]
    obtain ⟨ox', G', e', g', w'⟩ := run_spW g1 p1 w1
    exact ⟨ox', G', e', g', w'.noX⟩) w
end
end Dv
/-! operations on data -/
namespace Dv
open PySem PySem.Spec PyProof.Rows L2
open SX (S S_len S_cat)
/-- the longest list, text -/
def lim : Nat := 1000000
theorem lim_ok {n : Nat} (h : n ≤ lim) : n ≤ sizeLine := Nat.le_trans h (by decide)
theorem lim_lt {n : Nat} (h : n < lim) : n < sizeLine := Nat.lt_of_lt_of_le h (by decide)
section
variable {K : PySem.W.Frag} {cd : Nat → Cd} {ox : Addr → Prop} {E : St → XK} {H G H' G' : Hp} {e : En} {σ : St} {Q : VK} {X : Cx}
theorem if_some {α : Type} {c : Prop} [Decidable c] {x : Option α} {z : α} (h : (if c then x else none) = some z) : c ∧ x = some z := by
  by_cases hc : c
  · rw [if_pos hc] at h; exact ⟨hc, h⟩
  · rw [if_neg hc] at h; cases h
/-- a new object at a free place, ours for now -/
theorem newO {o : HO} {d : D} (s : Sub G H) (q : ∀ H' G' u, Gr H G H' G' → Rz K cd H H' G' (.ow d) u → Q u H') {p : Addr} (hp : H p = none) (mk : ∀ H', H' p = some o → Ow K cd H' G d p) : Q (.ref p) (upd H p o) :=
  q _ G _ (.new s hp) ⟨p, rfl, hp, s.some hp, mk _ upd_same⟩
/-- .. shared at once -/
theorem newSh {o : HO} {d : D} (s : Sub G H) (q : ∀ H' G' u, Gr H G H' G' → Rz K cd H H' G' (.sh d) u → Q u H') {p : Addr} (hp : H p = none) (mk : ∀ G', Same G G' → G' p = some o → Rp K cd G' d (.ref p)) : Q (.ref p) (upd H p o) :=
  q _ _ _ (.newS s hp) (mk _ (same_upd (s.some hp)) upd_same)
/-! + -/
def rAddA (K : PySem.W.Frag) : R2 := fun x y H Q => rI0 (fun i j => .int (i + j)) x y H Q ∨ Pt.rCatS x y H Q ∨ rCat x y H Q ∨ rCatA K x y H Q
theorem op_addA : OpR X (binaryOp .Add) (rAddA X.K) := op_add.or (Pt.op_catS.or (op_cat.or op_catA))
def dAdd : D → D → Option Rv
  | .int i, .int j => some (.sh (.int (i + j)))
  | .str a, .str b => if a.length + b.length ≤ lim then some (.sh (.str (a ++ b))) else none
  | .lst a, .lst b => if a.length + b.length ≤ lim then some (.ow (.lst (a ++ b))) else none
  | .tup a, .tup b => if a.length + b.length ≤ lim then some (.sh (.tup (a ++ b))) else none
  | _, _ => none
/-- a tuple that is shared or constant -/
theorem o2_add : O2 K cd (rAddA K) dAdd := by
  intro H G x y v w z s bx yb h Q q
  cases x with
  | int i => cases y with
    | int j =>
      cases h
      exact .inl ⟨i, j, bv_int bx, bv_int yb, Rz.sh s (.int _) q⟩
    | _ => cases h
  | str a => cases y with
    | str b =>
      obtain ⟨h1, h⟩ := if_some h
      cases h
      exact .inr (.inl ⟨a, b, bv_str bx, bv_str yb, h1, Rz.sh s (.str _) q⟩)
    | _ => cases h
  | lst a => cases y with
    | lst b =>
      obtain ⟨h1, h⟩ := if_some h
      cases h
      obtain ⟨p, us, rfl, e1, r1⟩ := bx
      obtain ⟨p2, ws, rfl, e2, r2⟩ := yb
      refine .inr (.inr (.inl ⟨p, p2, us, ws, rfl, rfl, e1, e2, by rw [r1.len, r2.len]; exact lim_ok h1, fun p3 hp => newO s q hp fun H' e => ⟨_, e, r1.app r2⟩⟩))
    | _ => cases h
  | tup a => cases y with
    | tup b =>
      obtain ⟨h1, h⟩ := if_some h
      cases h
      obtain ⟨p, us, rfl, e1, r1, g1⟩ := bx
      obtain ⟨p2, ws, rfl, e2, r2, g2⟩ := yb
      refine .inr (.inr (.inr ⟨p, p2, us, ws, rfl, rfl, e1, e2, by rw [r1.len, r2.len]; exact lim_ok h1, fun z => ?_, fun _ z => ?_, fun _ _ p3 hp => newSh s q hp fun G' gs e => .tup e ((r1.app r2).mono gs)⟩))
      · subst z
        cases r1
        exact q H G _ (.refl s) g2
      · subst z
        cases r2
        rw [List.append_nil] at q
        exact q H G _ (.refl s) g1
    | _ => cases h
  | _ => cases h
/-! numbers -/
theorem op_addI : True := trivial
def dI2 (f : Int → Int → Int) (c : Int → Int → Bool) : D → D → Option Rv
  | .int i, .int j => if c i j = true then some (.sh (.int (f i j))) else none
  | _, _ => none
theorem o2_I0 {f : Int → Int → Int} : O2 K cd (rI0 fun i j => .int (f i j)) (dI2 f fun _ _ => true) := by
  intro H G x y v w z s bx yb h Q q
  cases x with
  | int i => cases y with
    | int j =>
      unfold dI2 at h
      obtain ⟨_, h⟩ := if_some h
      cases h
      exact ⟨i, j, bv_int bx, bv_int yb, Rz.sh s (.int _) q⟩
    | _ => cases h
  | _ => cases h
theorem o2_I {f : Int → Int → Int} {C : Int → Int → Prop} {c : Int → Int → Bool} (hc : ∀ i j, c i j = true → C i j) : O2 K cd (rI C fun i j => .int (f i j)) (dI2 f c) := by
  intro H G x y v w z s bx yb h Q q
  cases x with
  | int i => cases y with
    | int j =>
      unfold dI2 at h
      obtain ⟨h1, h⟩ := if_some h
      cases h
      exact ⟨i, j, bv_int bx, bv_int yb, hc i j h1, Rz.sh s (.int _) q⟩
    | _ => cases h
  | _ => cases h
def cMul (i j : Int) : Bool := decide (i.natAbs.log2 + j.natAbs.log2 < 1000000)
def cDiv (_ j : Int) : Bool := decide (0 < j) && decide (j.natAbs.log2 < 9000)
def cMod (_ j : Int) : Bool := decide (0 < j)
def cPow (i j : Int) : Bool := decide (0 ≤ j) && decide (j ≤ 1000000) && decide (i.natAbs < 2 ^ 64)
abbrev dSub := dI2 (fun i j => i - j) fun _ _ => true
abbrev dMul := dI2 (fun i j => i * j) cMul
abbrev dFdiv := dI2 (fun i j => i / j) cDiv
abbrev dMod := dI2 (fun i j => i % j) cMod
abbrev dPow := dI2 (fun i j => i ^ j.toNat) cPow
theorem o2_sub : O2 K cd (rI0 fun i j => .int (i - j)) dSub := o2_I0
theorem o2_mul : O2 K cd (rI CMulW fun i j => .int (i * j)) dMul := o2_I fun i j h => (by unfold cMul at h; exact of_decide_eq_true h : i.natAbs.log2 + j.natAbs.log2 < 1000000)
theorem o2_fdiv : O2 K cd (rI CDivW fun i j => .int (i / j)) dFdiv := o2_I fun i j h => by
  unfold cDiv at h; rw [Bool.and_eq_true] at h
  exact ⟨of_decide_eq_true h.1, of_decide_eq_true h.2⟩
theorem o2_mod : O2 K cd (rI (fun _ j => 0 < j) fun i j => .int (i % j)) dMod := o2_I fun i j h => (by unfold cMod at h; exact of_decide_eq_true h : (0 : Int) < j)
theorem o2_pow : O2 K cd (rI CPow fun i j => .int (i ^ j.toNat)) dPow := o2_I fun i j h => by
  unfold cPow at h; rw [Bool.and_eq_true, Bool.and_eq_true] at h
  exact ⟨of_decide_eq_true h.1.1, of_decide_eq_true h.1.2, of_decide_eq_true h.2⟩
def dNeg : D → Option Rv
  | .int i => some (.sh (.int (-i)))
  | _ => none
theorem o1_neg : O1 K cd (rU fun i => .int (-i)) dNeg := by
  intro H G x v z s bx h Q q
  cases x with
  | int i => cases h; exact ⟨i, bv_int bx, Rz.sh s (.int _) q⟩
  | _ => cases h
/-! order: ints, texts -/
def rCmpA (p : Int → Int → Bool) (ps : List Nat → List Nat → Bool) : R2 := fun x y H Q => rI0 (fun i j => .bl (p i j)) x y H Q ∨ ∃ a b : List Nat, x = .str (S a) ∧ y = .str (S b) ∧ Q (.bl (ps a b)) H
def dCmp (p : Int → Int → Bool) (ps : List Nat → List Nat → Bool) : D → D → Option Rv
  | .int i, .int j => some (.sh (.bl (p i j)))
  | .str a, .str b => some (.sh (.bl (ps a b)))
  | _, _ => none
theorem o2_cmp {p : Int → Int → Bool} {ps : List Nat → List Nat → Bool} : O2 K cd (rCmpA p ps) (dCmp p ps) := by
  intro H G x y v w z s bx yb h Q q
  cases x with
  | int i => cases y with
    | int j => cases h; exact .inl ⟨i, j, bv_int bx, bv_int yb, Rz.sh s (.bl _) q⟩
    | _ => cases h
  | str a => cases y with
    | str b => cases h; exact .inr ⟨a, b, bv_str bx, bv_str yb, Rz.sh s (.bl _) q⟩
    | _ => cases h
  | _ => cases h
end
end Dv
/-! more operations: order, len, items, in, slices, copies, displays, what is ours changes -/
namespace Dv
open PySem PySem.Spec PyProof.Rows L2
open SX (S S_len S_cat)
section
variable {X : Cx}
theorem S_cps (a : List Nat) : (S a).cps.toList = a := rfl
theorem op_ltA : OpR X (compareOp .Lt) (rCmpA (fun i j => decide (i < j)) fun a b => decide (a < b)) := op_lt.or fun pins s σ H x y v u Q I rx ry ⟨a, b, h1, h2, q⟩ => op_lt_str pins s σ H x y v u Q I rx ry ⟨S a, S b, h1, h2, q⟩
theorem op_leA : OpR X (compareOp .LtE) (rCmpA (fun i j => decide (i ≤ j)) fun a b => !decide (b < a)) := op_le.or fun pins s σ H x y v u Q I rx ry ⟨a, b, h1, h2, q⟩ => op_le_str pins s σ H x y v u Q I rx ry ⟨S a, S b, h1, h2, q⟩
theorem op_gtA : OpR X (compareOp .Gt) (rCmpA (fun i j => decide (j < i)) fun a b => decide (b < a)) := op_gt.or fun pins s σ H x y v u Q I rx ry ⟨a, b, h1, h2, q⟩ => op_gt_str pins s σ H x y v u Q I rx ry ⟨S a, S b, h1, h2, q⟩
theorem op_geA : OpR X (compareOp .GtE) (rCmpA (fun i j => decide (j ≤ i)) fun a b => !decide (a < b)) := op_ge.or fun pins s σ H x y v u Q I rx ry ⟨a, b, h1, h2, q⟩ => op_ge_str pins s σ H x y v u Q I rx ry ⟨S a, S b, h1, h2, q⟩
/-- d[k] of a dict -/
def rDG : R2 := fun x y H Q => ∃ a v, x = .ref a ∧ DGet H a y (some v) ∧ Q v H
theorem ix_dictR (hu : X.A.units + 1 < cLine) : IxR X rDG := by
  intro value slice pins s σ H x y v u Q I rx ry h hs
  obtain ⟨a, z, rfl, g, q⟩ := h
  cases rx
  have hT := dict_typeIs I g
  have hl : typeLookup (.type "dict") "__getitem__" = pure (some (.builtin "dict.__getitem__")) := PySem.F.slot_dict_getitem.lookup
  have h₂ : wpAny (model X.prog X.w) X.A (getItem (.ref a) u) (EP X pins σ Q) X.xe s := d_getItem hu I g ry fun w' s3 I3 rw' => ⟨z, H, I3, rw', q⟩
  unfold subscriptTail
  refine wpAny_bind ?_
  rw [getitemInPython_of_ne hT.not_modules]
  refine wpAny_bind (wpAny_specialOf hT hl ?_)
  have fin : wpAny (model X.prog X.w) X.A (subscripted slice false (.ref a) u) (fun r s₃ => wpAny (model X.prog X.w) X.A (letTemporaryGo value (.ref a) r >>= fun _ => pure r) (EP X pins σ Q) X.xe s₃) X.xe s := by
    rw [hs]
    exact wpAny_operating (wpAny_mono h₂ (fun r s₃ h₃ => wpAny_bind (wpAny_letTemporaryGo (wpAny_pure h₃))) fun _ _ x => x)
  first
    | exact wpAny_pure (wpAny_bind fin)
    | exact wpAny_bind (wpAny_pure (wpAny_bind fin))
    | exact wpAny_bind fin
/-- x[i] of a list, a tuple, a text, a dict -/
def rIxA (K : PySem.W.Frag) : R2 := fun x y H Q => rIxL K x y H Q ∨ rIxT K x y H Q ∨ Pt.rIxSL x y H Q ∨ rDG x y H Q
theorem ix_any (hu : X.A.units + 1 < cLine) : IxR X (rIxA X.K) := ix_list.or (ix_tup.or (Pt.ix_S.or (ix_dictR hu)))
/-- x in l, in a dict -/
def rInA (K : PySem.W.Frag) (neg : Bool) : R2 := fun x y H Q => rIn K neg x y H Q ∨ ∃ a o, y = .ref a ∧ DGet H a x o ∧ Q (.bl (if neg then !o.isSome else o.isSome)) H
theorem op_inA (hu : X.A.units + 1 < cLine) : OpR X (compareOp .In) (rInA X.K false) := op_in_seq.or fun pins s σ H x y v u Q I rx ry ⟨a, o, h, g, q⟩ => by
  subst h
  cases ry
  exact d_in hu I g rx fun s3 I3 => ⟨.bl o.isSome, H, I3, rfl, q⟩
theorem op_niA (hu : X.A.units + 1 < cLine) : OpR X (compareOp .NotIn) (rInA X.K true) := op_notIn_seq.or fun pins s σ H x y v u Q I rx ry ⟨a, o, h, g, q⟩ => by
  subst h
  cases ry
  exact d_notIn hu I g rx fun s3 I3 => ⟨.bl (!o.isSome), H, I3, rfl, q⟩
/-- len of a list, a tuple, a text, a dict -/
def rLenA (K : PySem.W.Frag) : List V → Hp → VK → Prop := fun xs H Q => (∃ p ys, xs = [.ref p] ∧ (SqL K H p ys ∨ SqT K H p ys) ∧ Q (.int ys.length) H) ∨ (∃ l : List Nat, xs = [.str (S l)] ∧ l.length ≤ 1000000 ∧ Q (.int l.length) H) ∨ ∃ a kvs, xs = [V.ref a] ∧ Rd H a (.dK kvs) ∧ Q (.int kvs.length) H
theorem call_lenA : CallR X (.builtin "len") (rLenA X.K) := call_len_seq.or (Pt.call_lenS.or fun pins s σ H xs us Q I r ⟨a, kvs, h, ha, q⟩ => by
  subst h
  obtain ⟨u, rfl, ru⟩ := vals1 r
  cases ru
  exact d_len I ha fun t s' I' => ⟨.int kvs.length, H, I', ⟨t, rfl⟩, q⟩)
def rListA (K : PySem.W.Frag) : List V → Hp → VK → Prop := fun xs H Q => (∃ p ys, xs = [.ref p] ∧ (SqL K H p ys ∨ SqT K H p ys) ∧ ∀ l, H l = none → Q (.ref l) (upd H l (.lst ys))) ∨
  ∃ (a : Addr) (kvs : List (Key × V)), xs = [.ref a] ∧ Rd H a (.dK kvs) ∧ ∀ p, H p = none → Q (.ref p) (upd H p (.lst (kvs.map fun kv => kV kv.1)))
theorem call_listA (hc : X.calm = true) : CallR X (.type "list") (rListA X.K) := call_list_of.or (call_listD hc)
def rDictA (K : PySem.W.Frag) : List V → Hp → VK → Prop := fun xs H Q => (∃ (a : Addr) (kvs : List (Key × V)), xs = [.ref a] ∧ Rd H a (.dK kvs) ∧ ∀ p, H p = none → Q (.ref p) (upd H p (.dK kvs))) ∨
  ∃ (a : Addr) (ps : List Addr) (kvs : List (Key × V)), xs = [.ref a] ∧ SqL K H a (ps.map V.ref) ∧ Paired (fun p kv => SqT K H p [kV kv.1, kv.2]) ps kvs ∧ ∀ p, H p = none → Q (.ref p) (upd H p (.dK (mergeK [] kvs)))
theorem call_dictA (hc : X.calm = true) : CallR X (.type "dict") (rDictA X.K) := call_dictD.or (call_dictP hc)
def rSortA (K : PySem.W.Frag) : List V → Hp → VK → Prop := fun xs H Q => rSortedS K xs H Q ∨ ∃ (a : Addr) (kvs : List (Key × V)) (ks : List Str), xs = [.ref a] ∧ Rd H a (.dK kvs) ∧ kvs.map (·.1) = ks.map Sum.inr ∧ ks.length < 64 ∧
    ∀ ys p, ys.Perm ks → sortedS ys = true → H p = none → Q (.ref p) (upd H p (.lst (ys.map V.str)))
theorem call_sortA (hc : X.calm = true) : CallR X (.builtin "sorted") (rSortA X.K) := cr_sortedS.or (call_sortedD hc)
def rSlA2 (K : PySem.W.Frag) : V → Option Int → Option Int → Hp → VK → Prop := fun x lo hi H Q => rSlL K x lo hi H Q ∨ rSlA K x lo hi H Q ∨ Pt.rSlToS x lo hi H Q ∨ Pt.rSlFromS x lo hi H Q
theorem sl_any : SlR X (rSlA2 X.K) := sl_list.or (sl_tupA.or (Pt.sl_to.or Pt.sl_from))
def rTupA (K : PySem.W.Frag) : List V → Hp → VK → Prop := fun xs H Q => ∃ p ys, xs = [.ref p] ∧ ((SqL K H p ys ∧ ∀ l, H l = none → Q (.ref l) (upd H l (.tup ys))) ∨ (SqT K H p ys ∧ Q (.ref p) H))
end
section
variable {K : PySem.W.Frag} {cd : Nat → Cd} {ox : Addr → Prop} {E : St → XK} {H G H' G' : Hp} {e : En} {σ : St} {Q : VK} {ta tb tc : TE} {a b c : En → Rs}
theorem bvl1 {d : D} {vs : List V} (h : BvL K cd H G [d] vs) : ∃ v, vs = [v] ∧ Bv K cd H G d v := by
  cases h with
  | cons p q => cases q; exact ⟨_, rfl, p⟩
theorem bvl2 {d d' : D} {vs : List V} (h : BvL K cd H G [d, d'] vs) : ∃ v w, vs = [v, w] ∧ Bv K cd H G d v ∧ Bv K cd H G d' w := by
  cases h with
  | cons p q => cases q with
    | cons p' q' => cases q'; exact ⟨_, _, rfl, p, p'⟩
theorem bv_lst {ds : List D} {v : V} (h : Bv K cd H G (.lst ds) v) : ∃ a vs, v = .ref a ∧ H a = some (.lst vs) ∧ RpL K cd G ds vs := h
theorem bv_tup {ds : List D} {v : V} (h : Bv K cd H G (.tup ds) v) : ∃ a vs, v = .ref a ∧ SqT K H a vs ∧ RpL K cd G ds vs ∧ Rp K cd G (.tup ds) v := h
theorem bv_dct {ds : List (D × D)} {v : V} (h : Bv K cd H G (.dct ds) v) : ∃ a kvs, v = .ref a ∧ Rd H a (.dK kvs) ∧ RpK K cd G ds kvs := h
theorem bv_obj {c : Nat} {ds : List D} {v : V} (h : Bv K cd H G (.obj c ds) v) : ∃ a dx fs, v = .ref a ∧ H a = some (.ins (cd c).C dx fs) ∧ RpF K cd G (cd c).fl ds fs := h
/-! is None -/
def isNon : D → Bool
  | .non => true
  | _ => false
def dIsN : D → D → Option Rv := fun x y => if isNon y = true then some (.sh (.bl (isNon x))) else none
def dNotN : D → D → Option Rv := fun x y => if isNon y = true then some (.sh (.bl (!isNon x))) else none
theorem bv_isNon {x : D} {v : V} (h : Bv K cd H G x v) : decide (v = .non) = isNon x := by
  cases x with
  | non => cases h; rfl
  | bl b => cases h; rfl
  | int b => cases h; rfl
  | str b => cases h; rfl
  | ty b => cases h; rfl
  | cls b => cases h; rfl
  | tup ds => obtain ⟨_, _, rfl, _⟩ := h; rfl
  | lst ds => obtain ⟨_, _, rfl, _⟩ := h; rfl
  | dct ds => obtain ⟨_, _, rfl, _⟩ := h; rfl
  | obj c ds => obtain ⟨_, _, _, rfl, _⟩ := h; rfl
theorem o2_isN : O2 K cd (fun x y H Q => y = .non ∧ Q (.bl (decide (x = .non))) H) dIsN := by
  intro H G x y v w z s bx yb h Q q
  obtain ⟨h1, h⟩ := if_some h
  cases h
  have hy := bv_isNon yb
  rw [h1] at hy
  exact ⟨of_decide_eq_true hy, by rw [bv_isNon bx]; exact Rz.sh s (.bl _) q⟩
theorem o2_notN : O2 K cd (fun x y H Q => y = .non ∧ Q (.bl (!decide (x = .non))) H) dNotN := by
  intro H G x y v w z s bx yb h Q q
  obtain ⟨h1, h⟩ := if_some h
  cases h
  have hy := bv_isNon yb
  rw [h1] at hy
  exact ⟨of_decide_eq_true hy, by rw [bv_isNon bx]; exact Rz.sh s (.bl _) q⟩
/-! len -/
def dLen : List D → Option Rv
  | [.lst ds] => some (.sh (.int ds.length))
  | [.tup ds] => some (.sh (.int ds.length))
  | [.dct ds] => some (.sh (.int ds.length))
  | [.str l] => if l.length ≤ lim then some (.sh (.int l.length)) else none
  | _ => none
theorem RpK.len : ∀ {ds : List (D × D)} {vs : List (Key × V)}, RpK K cd G ds vs → vs.length = ds.length
  | _, _, .nil => rfl
  | _, _, .cons _ _ r => by rw [List.length_cons, List.length_cons, RpK.len r]
theorem ol_len : OL K cd (rLenA K) dLen := by
  intro H G ds vs z s b h Q q
  match ds, h with
  | [.lst xs], h =>
    cases h
    obtain ⟨v, rfl, bv⟩ := bvl1 b
    obtain ⟨p, us, rfl, e, r⟩ := bv
    exact .inl ⟨p, us, rfl, .inl (SqL.of e), by rw [r.len]; exact Rz.sh s (.int _) q⟩
  | [.tup xs], h =>
    cases h
    obtain ⟨v, rfl, bv⟩ := bvl1 b
    obtain ⟨p, us, rfl, e, r, _⟩ := bv
    exact .inl ⟨p, us, rfl, .inr e, by rw [r.len]; exact Rz.sh s (.int _) q⟩
  | [.dct xs], h =>
    cases h
    obtain ⟨v, rfl, bv⟩ := bvl1 b
    obtain ⟨p, us, rfl, e, r⟩ := bv
    exact .inr (.inr ⟨p, us, rfl, e, by rw [r.len]; exact Rz.sh s (.int _) q⟩)
  | [.str l], h =>
    obtain ⟨h1, h⟩ := if_some h
    cases h
    obtain ⟨v, rfl, bv⟩ := bvl1 b
    exact .inr (.inl ⟨l, by rw [bv_str bv], h1, Rz.sh s (.int _) q⟩)
/-! items -/
/-- a dict's value at a key: keys are ints and texts -/
def eqK : D → D → Bool
  | .int i, .int j => decide (i = j)
  | .str a, .str b => decide (a = b)
  | _, _ => false
def getD (kvs : List (D × D)) (k : D) : Option D := (kvs.find? fun kv => eqK kv.1 k).map (·.2)
theorem eqK_key {p k : D} {a b : Key} (h1 : keyD p = some a) (h2 : keyD k = some b) : eqK p k = decide (a = b) := by
  cases p <;> cases k <;> first | (cases h1; done) | (cases h2; done) | skip
  · cases h1; cases h2
    exact decide_eq_decide.mpr ⟨fun h => by rw [h], fun h => Sum.inl.inj h⟩
  · cases h1; cases h2
    exact (decide_eq_false (fun h => nomatch h)).symm
  · cases h1; cases h2
    exact (decide_eq_false (fun h => nomatch h)).symm
  · cases h1; cases h2
    exact decide_eq_decide.mpr ⟨fun h => by rw [h], fun h => SX.S_inj (Sum.inr.inj h)⟩
theorem RpK.get {k : D} {kk : Key} (hk : keyD k = some kk) : ∀ {ds : List (D × D)} {kvs : List (Key × V)}, RpK K cd G ds kvs → (getD ds k = none ∧ valV kvs kk = none) ∨ ∃ d v, getD ds k = some d ∧ valV kvs kk = some v ∧ Rp K cd G d v
  | _, _, .nil => .inl ⟨rfl, rfl⟩
  | (p, d) :: ds, (a, v) :: kvs, .cons h1 r t => by
    have ih := RpK.get hk t
    have e := eqK_key h1 hk
    by_cases z : a = kk
    · rw [decide_eq_true z] at e
      refine .inr ⟨d, v, ?_, ?_, r⟩
      · unfold getD; rw [List.find?_cons, e]; rfl
      · exact valV_pos z
    · rw [decide_eq_false z] at e
      have g : getD ((p, d) :: ds) k = getD ds k := by unfold getD; rw [List.find?_cons, e]
      rw [g, valV_neg z]
      exact ih
theorem keyD_kV {k : D} {v : V} (h : Bv K cd H G k v) {kk : Key} (hk : keyD k = some kk) : v = kV kk := by
  cases k <;> first | (cases hk; done) | skip
  · cases hk; exact bv_int h
  · cases hk; exact bv_str h
theorem DGet.rd {H : Hp} {a : Addr} {kvs : List (Key × V)} {k : Key} (e : Rd H a (.dK kvs)) : DGet H a (kV k) (valV kvs k) := .inl ⟨kvs, k, e, rfl, rfl⟩
def dIx : D → D → Option Rv
  | .lst ds, .int i => (atI ds i).map .sh
  | .tup ds, .int i => (atI ds i).map .sh
  | .str l, .int i => if l.length ≤ lim then (atI l i).map fun c => .sh (.str [c]) else none
  | .dct kvs, k => if (keyD k).isSome = true then (getD kvs k).map .sh else none
  | _, _ => none
theorem map_some {α β : Type} {o : Option α} {f : α → β} {z : β} (h : o.map f = some z) : ∃ x, o = some x ∧ f x = z := by
  cases o with
  | none => cases h
  | some x => cases h; exact ⟨x, rfl, rfl⟩
theorem RpL.atI {ds : List D} {vs : List V} {i : Int} {d : D} (r : RpL K cd G ds vs) (h : L2.atI ds i = some d) : ∃ v, L2.atI vs i = some v ∧ Rp K cd G d v := by
  unfold L2.atI at *
  rw [r.len]
  obtain ⟨j, hj, h⟩ := bind_some h
  rw [hj]
  exact r.at h
theorem o2_ix : O2 K cd (rIxA K) dIx := by
  intro H G x y v w z s bx yb h Q q
  cases x with
  | lst ds => cases y with
    | int i =>
      obtain ⟨d, hd, rfl⟩ := map_some h
      obtain ⟨p, us, rfl, e, r⟩ := bx
      obtain ⟨u, hu, ru⟩ := r.atI hd
      exact .inl ⟨p, us, i, u, rfl, bv_int yb, SqL.of e, hu, Rz.sh s ru q⟩
    | _ => cases h
  | tup ds => cases y with
    | int i =>
      obtain ⟨d, hd, rfl⟩ := map_some h
      obtain ⟨p, us, rfl, e, r, _⟩ := bx
      obtain ⟨u, hu, ru⟩ := r.atI hd
      exact .inr (.inl ⟨p, us, i, u, rfl, bv_int yb, e, hu, Rz.sh s ru q⟩)
    | _ => cases h
  | str l => cases y with
    | int i =>
      obtain ⟨h1, h⟩ := if_some h
      obtain ⟨c, hc, rfl⟩ := map_some h
      exact .inr (.inr (.inl ⟨l, i, c, bv_str bx, bv_int yb, h1, hc, Rz.sh s (.str _) q⟩))
    | _ => cases h
  | dct kvs =>
    have h' : (if (keyD y).isSome = true then (getD kvs y).map Rv.sh else none) = some z := by cases y <;> exact h
    obtain ⟨h1, h2⟩ := if_some h'
    obtain ⟨d, hd, rfl⟩ := map_some h2
    obtain ⟨kk, hk⟩ := Option.isSome_iff_exists.mp h1
    obtain ⟨p, us, rfl, e, r⟩ := bx
    rcases r.get hk with ⟨g1, _⟩ | ⟨d', u, g1, g2, g3⟩
    · rw [hd] at g1; cases g1
    · rw [hd] at g1; cases g1
      refine .inr (.inr (.inr ⟨p, u, rfl, ?_, Rz.sh s g3 q⟩))
      rw [keyD_kV yb hk, ← g2]
      exact DGet.rd e
  | _ => cases h
/-! in -/
/-- == of flat data as Python has it -/
def eqF : D → D → Bool
  | .non, .non => true
  | .bl a, .bl b => a == b
  | .bl a, .int b => (if a then 1 else 0) == b
  | .int a, .bl b => a == (if b then 1 else 0)
  | .int a, .int b => a == b
  | .str a, .str b => decide (a = b)
  | _, _ => false
def flatD : D → Bool
  | .non => true
  | .bl _ => true
  | .int _ => true
  | .str _ => true
  | _ => false
theorem rp_flat {d : D} {v : V} (r : Rp K cd G d v) (h : flatD d = true) : flatV v = true := by cases r <;> first | rfl | cases h
theorem rp_eqF {d e : D} {v w : V} (r : Rp K cd G d v) (r' : Rp K cd G e w) (h : flatD d = true) (h' : flatD e = true) : eqV v w = eqF d e := by
  cases r <;> first | (cases h; done) | skip
  all_goals (cases r' <;> first | (cases h'; done) | rfl | skip)
  rename_i a b
  show (S a == S b) = decide (a = b)
  rw [SX.S_beq_eq]
theorem bv_rp {d : D} {v : V} (h : Bv K cd H G d v) (f : flatD d = true) : Rp K cd G d v := by cases d <;> first | exact h | cases f
theorem RpL.inF {x : D} {v : V} (rx : Rp K cd G x v) (fx : flatD x = true) : ∀ {ds : List D} {vs : List V}, RpL K cd G ds vs → ds.all flatD = true → vs.all flatV = true ∧ inV v vs = ds.any (fun y => eqF y x)
  | _, _, .nil, _ => ⟨rfl, rfl⟩
  | d :: ds, u :: us, .cons r t, h => by
    rw [List.all_cons, Bool.and_eq_true] at h
    obtain ⟨i1, i2⟩ := RpL.inF rx fx t h.2
    refine ⟨by rw [List.all_cons, rp_flat r h.1, i1]; rfl, ?_⟩
    unfold inV at *
    rw [List.any_cons, List.any_cons, i2, rp_eqF r rx h.1 fx]
def dIn (neg : Bool) : D → D → Option Rv
  | x, .lst ds => if (flatD x && ds.all flatD) = true then some (.sh (.bl (if neg then !ds.any (fun y => eqF y x) else ds.any (fun y => eqF y x)))) else none
  | x, .tup ds => if (flatD x && ds.all flatD) = true then some (.sh (.bl (if neg then !ds.any (fun y => eqF y x) else ds.any (fun y => eqF y x)))) else none
  | x, .dct kvs => if (keyD x).isSome = true then some (.sh (.bl (if neg then !(getD kvs x).isSome else (getD kvs x).isSome))) else none
  | _, _ => none
theorem o2_in {neg : Bool} : O2 K cd (rInA K neg) (dIn neg) := by
  intro H G x y v w z s bx yb h Q q
  cases y with
  | lst ds =>
    obtain ⟨h1, h⟩ := if_some h
    cases h
    rw [Bool.and_eq_true] at h1
    obtain ⟨p, us, rfl, e, r⟩ := yb
    have rx := bv_rp bx h1.1
    obtain ⟨i1, i2⟩ := r.inF rx h1.1 h1.2
    exact .inl ⟨p, us, rfl, .inl (SqL.of e), rp_flat rx h1.1, i1, by rw [i2]; exact Rz.sh s (.bl _) q⟩
  | tup ds =>
    obtain ⟨h1, h⟩ := if_some h
    cases h
    rw [Bool.and_eq_true] at h1
    obtain ⟨p, us, rfl, e, r, _⟩ := yb
    have rx := bv_rp bx h1.1
    obtain ⟨i1, i2⟩ := r.inF rx h1.1 h1.2
    exact .inl ⟨p, us, rfl, .inr e, rp_flat rx h1.1, i1, by rw [i2]; exact Rz.sh s (.bl _) q⟩
  | dct kvs =>
    obtain ⟨h1, h⟩ := if_some h
    cases h
    obtain ⟨kk, hk⟩ := Option.isSome_iff_exists.mp h1
    obtain ⟨p, us, rfl, e, r⟩ := yb
    refine .inr ⟨p, valV us kk, rfl, by rw [keyD_kV bx hk]; exact DGet.rd e, ?_⟩
    rcases r.get hk with ⟨g1, g2⟩ | ⟨d', u, g1, g2, g3⟩
    · rw [g2]; rw [g1] at q; exact Rz.sh s (.bl _) q
    · rw [g2]; rw [g1] at q; exact Rz.sh s (.bl _) q
  | _ => cases h
/-! slices -/
def cutD {α : Type} (xs : List α) (lo hi : Option Int) : List α := (xs.drop (HT.sIx xs.length 0 lo)).take (HT.sIx xs.length xs.length hi - HT.sIx xs.length 0 lo)
theorem RpL.cut {ds : List D} {vs : List V} (r : RpL K cd G ds vs) (lo hi : Option Int) : RpL K cd G (cutD ds lo hi) (cutV vs lo hi) := by
  unfold cutD cutV
  rw [r.len]
  exact (r.drop _).take _
def dSl (x : D) (lo hi : Option Int) : Option Rv := match x with
  | .lst ds => some (.ow (.lst (cutD ds lo hi)))
  | .tup ds => some (.sh (.tup (cutD ds lo hi)))
  | .str l => if l.length ≤ lim then (match lo, hi with
    | none, some i => if 0 ≤ i then some (.sh (.str (l.take i.toNat))) else none
    | some i, none => if 0 ≤ i then some (.sh (.str (l.drop i.toNat))) else none
    | _, _ => none) else none
  | _ => none
theorem cutD_all {α : Type} {xs : List α} {lo hi : Option Int} (h : HT.sIx xs.length 0 lo = 0 ∧ HT.sIx xs.length xs.length hi = xs.length) : cutD xs lo hi = xs := by
  unfold cutD
  rw [h.1, h.2, List.drop_zero, Nat.sub_zero, List.take_length]
theorem os_any : ∀ {H G : Hp} {x : D} {v : V} {z : Rv} {lo hi : Option Int}, Sub G H → Bv K cd H G x v → dSl x lo hi = some z → ∀ Q : VK, (∀ H' G' u, Gr H G H' G' → Rz K cd H H' G' z u → Q u H') → rSlA2 K v lo hi H Q := by
  intro H G x v z lo hi s bx h Q q
  cases x with
  | lst ds =>
    cases h
    obtain ⟨p, us, rfl, e, r⟩ := bx
    exact .inl ⟨p, us, rfl, SqL.of e, fun p3 hp => newO s q hp fun H' e => ⟨_, e, r.cut lo hi⟩⟩
  | tup ds =>
    cases h
    obtain ⟨p, us, rfl, e, r, g⟩ := bx
    refine .inr (.inl ⟨p, us, rfl, e, fun h => ?_, fun _ p3 hp => newSh s q hp fun G' gs e => .tup e ((r.cut lo hi).mono gs)⟩)
    rw [r.len] at h
    rw [cutD_all h] at q
    exact q H G _ (.refl s) g
  | str l =>
    have h' : (if l.length ≤ lim then (match lo, hi with
      | none, some i => if 0 ≤ i then some (Rv.sh (.str (l.take i.toNat))) else none
      | some i, none => if 0 ≤ i then some (Rv.sh (.str (l.drop i.toNat))) else none
      | _, _ => none) else none) = some z := h
    obtain ⟨h1, h2⟩ := if_some h'
    cases lo with
    | none => cases hi with
      | none => cases h2
      | some i =>
        obtain ⟨h3, h4⟩ := if_some h2
        cases h4
        exact .inr (.inr (.inl ⟨l, i, bv_str bx, rfl, rfl, h3, h1, Rz.sh s (.str _) q⟩))
    | some i => cases hi with
      | some j => cases h2
      | none =>
        obtain ⟨h3, h4⟩ := if_some h2
        cases h4
        exact .inr (.inr (.inr ⟨l, i, bv_str bx, rfl, rfl, h3, h1, Rz.sh s (.str _) q⟩))
  | _ => cases h
/-- a slice's part -/
inductive EvP (K : PySem.W.Frag) (cd : Nat → Cd) (E : St → XK) : TO → Option (En → Rs) → Prop
  | none : EvP K cd E tNoPart none
  | some {ta : TE} {a : En → Rs} : EvD K cd E ta a → EvP K cd E (tPart ta) (some a)
def intO (e : En) (r : Rv) : Option Int := match rdv e r with
  | some (.int i) => some i
  | _ => none
def ePart (p : Option (En → Rs)) (e : En) (k : Option Int → En → Rs) : Rs := match p with
  | none => k none e
  | some a => (pubR (a e)).bind fun r e1 => match intO e1 r with
    | some i => k (some i) e1
    | none => .stuck
def eSl (a : En → Rs) (lo hi : Option (En → Rs)) : En → Rs := fun e => (pubR (a e)).bind fun r e1 => ePart lo e1 fun l e2 => ePart hi e2 fun h e3 => opR e3 ((rdv e3 r).bind fun x => dSl x l h)
theorem intO_v {r : Rv} {v : V} {i : Int} (g : Gd K cd ox H G e σ) (p : Pd K cd G σ r v) (h : intO e r = some i) : v = .int i := by
  unfold intO at h
  cases q : rdv e r with
  | none => rw [q] at h; cases h
  | some d =>
    rw [q] at h
    cases d <;> cases h
    exact bv_int (g.rd p q)
theorem ev_part {to : TO} {p : Option (En → Rs)} (hp : EvP K cd E to p) {k : Option Int → En → Rs} {Q' : Option Int → Hp → Prop} (g : Gd K cd ox H G e σ) (w : RsW K cd ox E Q H G σ e (ePart p e k))
    (hk : ∀ o e1 H1 G1, Gd K cd ox H1 G1 e1 σ → Same G G1 → RsW K cd ox E Q H1 G1 σ e1 (k o e1) → Q' o H1) : to σ H Q' := by
  cases hp with
  | none => exact hk none e H G g (Same.refl _) w
  | some ha =>
    refine ha.seq (k := fun r e1 => match intO e1 r with | some i => k (some i) e1 | none => .stuck) g (fun r e1 H1 G1 v g1 s1 p1 w1 => ?_) w
    cases q : intO e1 r with
    | none => rw [q] at w1; exact w1.elim
    | some i =>
      rw [q] at w1
      exact ⟨i, intO_v g1 p1 q, hk (some i) e1 H1 G1 g1 s1 w1⟩
theorem ev_sl {lo hi : Option (En → Rs)} {tl th : TO} (ha : EvD K cd E ta a) (hl : EvP K cd E tl lo) (hh : EvP K cd E th hi) : EvD K cd E (tSl (rSlA2 K) ta tl th) (eSl a lo hi) := fun {ox} H G e σ g Q w =>
  ha.seq g (fun r e1 H1 G1 v g1 _ p1 w1 => ev_part hl g1 w1 fun l e2 H2 G2 g2 s2 w2 => ev_part hh g2 w2 fun h e3 H3 G3 g3 s3 w3 => by
    obtain ⟨z, hz, w4⟩ := opR_some w3
    obtain ⟨x, hx, hz⟩ := bind_some hz
    exact os_any g3.sub (g3.rd ((p1.mono s2).mono s3) hx) hz Q fun H' G' u gr rz => w4.gr g3 gr rz) w
/-! displays -/
/-- all shared -/
def shL : List Rv → Option (List D)
  | [] => some []
  | .sh d :: rs => (shL rs).bind fun ds => some (d :: ds)
  | _ => none
theorem shL_rp : ∀ {rs : List Rv} {vs : List V} {ds : List D}, PdL K cd G σ rs vs → shL rs = some ds → RpL K cd G ds vs
  | [], _, _, .nil, h => by cases h; exact .nil
  | .sh d :: rs, _, _, .cons p q, h => by
    obtain ⟨ds, h1, h2⟩ := bind_some h
    cases h2
    exact .cons p (shL_rp q h1)
  | .sl _ :: _, _, _, _, h => by cases h
  | .ow _ :: _, _, _, _, h => by cases h
/-- the items shared for good -/
def aTk (a : En → Rs) (f : En → As) : En → As := aCons (eTk a) f
def eLst (f : En → As) : En → Rs := fun e => (f e).bind fun rs e1 => opR e1 ((shL rs).bind fun ds => if ds.length ≤ lim then some (.ow (.lst ds)) else none)
def eTup (f : En → As) : En → Rs := fun e => (f e).bind fun rs e1 => opR e1 ((shL rs).bind fun ds => if ds.length ≤ lim then some (.sh (.tup ds)) else none)
theorem ev_lst {t : TA} {f : En → As} (hf : EvA K cd E t f) : EvD K cd E (tLst t) (eLst f) := fun {ox} H G e σ g Q w =>
  hf g (fun rs e1 H1 G1 vs g1 _ p1 w1 => by
    obtain ⟨z, hz, w3⟩ := opR_some w1
    obtain ⟨ds, hx, hz⟩ := bind_some hz
    obtain ⟨h1, hz⟩ := if_some hz
    cases hz
    have r := shL_rp p1 hx
    exact ⟨by rw [r.len]; exact lim_ok h1, fun p hp => newO g1.sub (fun H' G' u gr rz => w3.gr g1 gr rz) hp fun H' e => ⟨_, e, r⟩⟩) w
theorem ev_tup {t : TA} {f : En → As} (hf : EvA K cd E t f) : EvD K cd E (tTup t) (eTup f) := fun {ox} H G e σ g Q w =>
  hf g (fun rs e1 H1 G1 vs g1 _ p1 w1 => by
    obtain ⟨z, hz, w3⟩ := opR_some w1
    obtain ⟨ds, hx, hz⟩ := bind_some hz
    obtain ⟨h1, hz⟩ := if_some hz
    cases hz
    have r := shL_rp p1 hx
    exact ⟨by rw [r.len]; exact lim_ok h1, fun p hp => newSh g1.sub (fun H' G' u gr rz => w3.gr g1 gr rz) hp fun G' gs e => .tup e (r.mono gs)⟩) w
def eDct0 : En → Rs := fun e => .ok (.ow (.dct [])) e
theorem ev_dct0 : EvD K cd E tDNewK eDct0 := fun {ox} H G e σ g Q w p hp => newO g.sub (fun H' G' u gr rz => RsW.gr g w gr rz) hp fun H' e => ⟨_, e, .nil⟩
/-! copies -/
def dList : List D → Option Rv
  | [.lst ds] => some (.ow (.lst ds))
  | [.tup ds] => some (.ow (.lst ds))
  | [.dct kvs] => some (.ow (.lst (kvs.map (·.1))))
  | _ => none
theorem RpK.keys : ∀ {ds : List (D × D)} {kvs : List (Key × V)}, RpK K cd G ds kvs → RpL K cd G (ds.map (·.1)) (kvs.map fun kv => kV kv.1)
  | _, _, .nil => .nil
  | (q, d) :: ds, (k, v) :: kvs, .cons h _ t => by
    refine .cons ?_ (RpK.keys t)
    show Rp K cd G q (kV k)
    cases q <;> cases h
    · exact .int _
    · exact .str _
theorem ol_list : OL K cd (rListA K) dList := by
  intro H G ds vs z s b h Q q
  match ds, h with
  | [.lst xs], h =>
    cases h
    obtain ⟨v, rfl, bv⟩ := bvl1 b
    obtain ⟨p, us, rfl, e, r⟩ := bv
    exact .inl ⟨p, us, rfl, .inl (SqL.of e), fun p3 hp => newO s q hp fun H' e => ⟨_, e, r⟩⟩
  | [.tup xs], h =>
    cases h
    obtain ⟨v, rfl, bv⟩ := bvl1 b
    obtain ⟨p, us, rfl, e, r, _⟩ := bv
    exact .inl ⟨p, us, rfl, .inr e, fun p3 hp => newO s q hp fun H' e => ⟨_, e, r⟩⟩
  | [.dct xs], h =>
    cases h
    obtain ⟨v, rfl, bv⟩ := bvl1 b
    obtain ⟨p, us, rfl, e, r⟩ := bv
    exact .inr ⟨p, us, rfl, e, fun p3 hp => newO s q hp fun H' e => ⟨_, e, r.keys⟩⟩
def dTup : List D → Option Rv
  | [.lst ds] => some (.sh (.tup ds))
  | [.tup ds] => some (.sh (.tup ds))
  | _ => none
theorem ol_tup : OL K cd (rTupA K) dTup := by
  intro H G ds vs z s b h Q q
  match ds, h with
  | [.lst xs], h =>
    cases h
    obtain ⟨v, rfl, bv⟩ := bvl1 b
    obtain ⟨p, us, rfl, e, r⟩ := bv
    exact ⟨p, us, rfl, .inl ⟨SqL.of e, fun p3 hp => newSh s q hp fun G' gs e => .tup e (r.mono gs)⟩⟩
  | [.tup xs], h =>
    cases h
    obtain ⟨v, rfl, bv⟩ := bvl1 b
    obtain ⟨p, us, rfl, e, r, g⟩ := bv
    exact ⟨p, us, rfl, .inr ⟨e, q H G _ (.refl s) g⟩⟩
/-- d[k] = v in a dict's data: in its place, or at the end -/
def putD (kvs : List (D × D)) (k v : D) : List (D × D) := if (kvs.any fun kv => eqK kv.1 k) = true then kvs.map (fun kv => if eqK kv.1 k = true then (kv.1, v) else kv) else kvs ++ [(k, v)]
theorem RpK.any {k : D} {kk : Key} (hk : keyD k = some kk) : ∀ {ds : List (D × D)} {kvs : List (Key × V)}, RpK K cd G ds kvs → (ds.any fun kv => eqK kv.1 k) = kvs.any fun kv => decide (kv.1 = kk)
  | _, _, .nil => rfl
  | (q, d) :: ds, (a, v) :: kvs, .cons h _ t => by rw [List.any_cons, List.any_cons, RpK.any hk t, eqK_key h hk]
theorem RpK.app : ∀ {ds es : List (D × D)} {vs us : List (Key × V)}, RpK K cd G ds vs → RpK K cd G es us → RpK K cd G (ds ++ es) (vs ++ us)
  | _, _, _, _, .nil, s => s
  | _, _, _, _, .cons h a r, s => .cons h a (RpK.app r s)
theorem RpK.mapput {k d : D} {kk : Key} {v : V} (hk : keyD k = some kk) (r : Rp K cd G d v) : ∀ {ds : List (D × D)} {kvs : List (Key × V)}, RpK K cd G ds kvs → RpK K cd G (ds.map fun kv => if eqK kv.1 k = true then (kv.1, d) else kv) (kvs.map fun kv => if kv.1 = kk then (kv.1, v) else kv)
  | _, _, .nil => .nil
  | (q, d') :: ds, (a, v') :: kvs, .cons h' r' t => by
    have ih := RpK.mapput hk r t
    rw [List.map_cons, List.map_cons]
    have e := eqK_key h' hk
    by_cases y : a = kk
    · rw [decide_eq_true y] at e
      rw [if_pos e, if_pos y]
      exact .cons h' r ih
    · rw [decide_eq_false y] at e
      rw [if_neg (by rw [e]; exact Bool.false_ne_true), if_neg y]
      exact .cons h' r' ih
theorem RpK.put {k d : D} {kk : Key} {v : V} (hk : keyD k = some kk) (r : Rp K cd G d v) {ds : List (D × D)} {kvs : List (Key × V)} (h : RpK K cd G ds kvs) : RpK K cd G (putD ds k d) (putK kvs kk v) := by
  unfold putD putK
  rw [h.any hk]
  by_cases z : (kvs.any fun kv => decide (kv.1 = kk)) = true
  · rw [if_pos z, if_pos z]
    exact h.mapput hk r
  · rw [if_neg z, if_neg z]
    exact h.app (.cons hk r .nil)
def mergeD (kvs : List (D × D)) : List (D × D) → List (D × D)
  | [] => kvs
  | (k, v) :: r => mergeD (putD kvs k v) r
/-- a list of pairs -/
def pairsD : List D → Option (List (D × D))
  | [] => some []
  | .tup [k, v] :: r => if (keyD k).isSome = true then (pairsD r).bind fun ps => some ((k, v) :: ps) else none
  | _ => none
theorem pairs_rp (s : Sub G H) : ∀ {ds : List D} {vs : List V} {ps : List (D × D)}, RpL K cd G ds vs → pairsD ds = some ps → ∃ (as : List Addr) (kvs : List (Key × V)), vs = as.map V.ref ∧ Paired (fun p kv => SqT K H p [kV kv.1, kv.2]) as kvs ∧ RpK K cd G ps kvs
  | _, _, _, .nil, h => by cases h; exact ⟨[], [], rfl, .nil, .nil⟩
  | .tup [k, v] :: ds, _, _, .cons a t, h => by
    have h' : (if (keyD k).isSome = true then (pairsD ds).bind fun ps => some ((k, v) :: ps) else none) = some _ := h
    obtain ⟨h1, h2⟩ := if_some h'
    obtain ⟨ps, h3, h4⟩ := bind_some h2
    cases h4
    obtain ⟨kk, hk⟩ := Option.isSome_iff_exists.mp h1
    obtain ⟨as, kvs, e1, e2, e3⟩ := pairs_rp s t h3
    obtain ⟨p, us, e4, e5, e6, _⟩ := bv_tup (Rp.bv s a)
    subst e4
    cases e6 with
    | cons r1 e7 => cases e7 with
      | cons r2 e8 =>
        cases e8
        rename_i u1 u2
        have e9 : u1 = kV kk := keyD_kV (H := H) (Rp.bv s r1) hk
        subst e9
        exact ⟨p :: as, (kk, u2) :: kvs, by rw [e1]; rfl, .cons e5 e2, .cons hk r2 e3⟩
  | .non :: _, _, _, _, h => by cases h
  | .bl _ :: _, _, _, _, h => by cases h
  | .int _ :: _, _, _, _, h => by cases h
  | .str _ :: _, _, _, _, h => by cases h
  | .ty _ :: _, _, _, _, h => by cases h
  | .cls _ :: _, _, _, _, h => by cases h
  | .lst _ :: _, _, _, _, h => by cases h
  | .dct _ :: _, _, _, _, h => by cases h
  | .obj _ _ :: _, _, _, _, h => by cases h
  | .tup [] :: _, _, _, _, h => by cases h
  | .tup [_] :: _, _, _, _, h => by cases h
  | .tup (_ :: _ :: _ :: _) :: _, _, _, _, h => by cases h
theorem RpK.merge {ps : List (D × D)} {more : List (Key × V)} (h : RpK K cd G ps more) : ∀ {ds : List (D × D)} {kvs : List (Key × V)}, RpK K cd G ds kvs → RpK K cd G (mergeD ds ps) (mergeK kvs more) := by
  induction ps generalizing more with
  | nil => cases h; exact fun r => r
  | cons p ps ih =>
    cases h with
    | cons hk r t => exact fun r0 => ih t (r0.put hk r)
def dDict : List D → Option Rv
  | [.dct kvs] => some (.ow (.dct kvs))
  | [.lst ds] => (pairsD ds).map fun ps => .ow (.dct (mergeD [] ps))
  | _ => none
theorem ol_dict : OL K cd (rDictA K) dDict := by
  intro H G ds vs z s b h Q q
  match ds, h with
  | [.dct xs], h =>
    cases h
    obtain ⟨v, rfl, bv⟩ := bvl1 b
    obtain ⟨p, us, rfl, e, r⟩ := bv
    exact .inl ⟨p, us, rfl, e, fun p3 hp => newO s q hp fun H' e => ⟨_, e, r⟩⟩
  | [.lst xs], h =>
    obtain ⟨ps, h1, rfl⟩ := map_some h
    obtain ⟨v, rfl, bv⟩ := bvl1 b
    obtain ⟨p, us, rfl, e, r⟩ := bv
    obtain ⟨as, kvs, rfl, e2, e3⟩ := pairs_rp s r h1
    exact .inr ⟨p, as, kvs, rfl, SqL.of e, e2, fun p3 hp => newO s q hp fun H' e => ⟨_, e, e3.merge .nil⟩⟩
/-! what is ours changes -/
def eApp (i : Nat) (a : En → Rs) : En → Rs := fun e => match e[i]? with
  | some (.ow (.lst _)) => (eTk a e).bind fun r e1 => (match r, e1[i]? with
    | .sh d, some (.ow (.lst xs)) => if xs.length < lim then .ok (.sh .non) (e1.set i (.ow (.lst (xs ++ [d])))) else .stuck
    | _, _ => .stuck)
  | _ => .stuck
theorem pubR_tk (a : En → Rs) (e : En) : pubR (eTk a e) = eTk a e := by
  unfold eTk
  cases q : pubR (a e) with
  | stuck => rfl
  | exc _ _ _ => rfl
  | ok r e1 =>
    cases r with
    | sh d => rfl
    | ow d =>
      cases q2 : a e with
      | stuck => rw [q2] at q; cases q
      | exc _ _ _ => rw [q2] at q; cases q
      | ok r2 e2 => rw [q2] at q; cases r2 <;> cases q
    | sl i =>
      show pubR (match e1[i]? with | some (Sl.sh d) => .ok (.sh d) e1 | some (Sl.ow d) => .ok (.sh d) (e1.set i (.sh d)) | _ => .stuck) = _
      cases q3 : e1[i]? with
      | none => simp only [Rs.bind, q3]; rfl
      | some s => cases s <;> (simp only [Rs.bind, q3]; rfl)
theorem ev_app {i : Nat} (ha : EvD K cd E ta a) : EvD K cd E (tBM K "list" rAppend (tVar i) (tCons ta tNil)) (eApp i a) := by
  intro ox H G e σ g Q w
  unfold eApp at w
  cases q : e[i]? with
  | none => rw [q] at w; exact w.elim
  | some sl =>
    rw [q] at w
    cases sl with
    | ow d =>
      cases d with
      | lst xs0 =>
        obtain ⟨p, hp, _, vs0, hv0, _⟩ := g.ow i _ q
        refine ⟨.ref p, hp, .inl ⟨rfl, vs0, SqL.of hv0⟩, ?_⟩
        have w' : RsW K cd ox E Q H G σ e ((pubR (eTk a e)).bind fun r e1 => (match r, e1[i]? with
          | .sh d, some (.ow (.lst xs)) => if xs.length < lim then .ok (.sh .non) (e1.set i (.ow (.lst (xs ++ [d])))) else .stuck
          | _, _ => .stuck)) := by rw [pubR_tk]; exact w
        refine EvD.seq (ev_tk ha) g (fun r e1 H1 G1 v g1 s1 p1 w1 => ?_) w'
        cases r with
        | sl _ => exact w1.elim
        | ow _ => exact w1.elim
        | sh d =>
          cases q1 : e1[i]? with
          | none => simp only [q1] at w1; exact w1.elim
          | some sl1 =>
            cases sl1 with
            | ow d1 =>
              cases d1 with
              | lst xs =>
                have w2 : RsW K cd ox E Q H1 G1 σ e1 (if xs.length < lim then .ok (.sh .non) (e1.set i (.ow (.lst (xs ++ [d])))) else .stuck) := by simpa only [q1] using w1
                by_cases hl : xs.length < lim
                · rw [if_pos hl] at w2
                  obtain ⟨p', hp', n, vs, hv, rv⟩ := g1.ow i _ q1
                  rw [hp] at hp'; cases hp'
                  obtain ⟨g2, m2⟩ := g1.upd1 (d' := .lst (xs ++ [d])) q1 hp (stp_write (a0 := p) (o' := .lst (vs ++ [v]))) (sub_write g1.sub n) n ⟨_, upd_same, rv.app (.cons p1 .nil)⟩
                  have hm : Mn e1 σ p := ⟨i, _, q1, hp⟩
                  refine ⟨p, vs, v, rfl, rfl, hv, by rw [rv.len]; exact lim_lt hl, w2 _ G1 .non g2 ⟨fun b o ho m => ?_, Same.refl _, fun _ _ _ _ h => h, fun b hb => .inl (m2 b hb), al_upd⟩ .non⟩
                  rw [upd_ne (fun z => m (by rw [z]; exact hm))]; exact ho
                · rw [if_neg hl] at w2; exact w2.elim
              | _ => simp only [q1] at w1; exact w1.elim
            | _ => simp only [q1] at w1; exact w1.elim
      | _ => exact w.elim
    | _ => exact w.elim
/-- d[k] = v; d a name of ours -/
def fPut (i : Nat) (a b : En → Rs) : En → Fl := fun e => (eTk b e).fl fun rv e1 => (match e1[i]? with
  | some (.ow (.dct _)) => (pubR (a e1)).fl fun rk e2 => (match rv, e2[i]?, rdv e2 rk with
    | .sh d, some (.ow (.dct kvs)), some k => if ((keyD k).isSome && decide (kvs.length < lim)) = true then .nx (e2.set i (.ow (.dct (putD kvs k d)))) else .stuck
    | _, _, _ => .stuck)
  | _ => .stuck)
theorem es_put {kp : Nat → Bool} {i : Nat} (ha : EvD K cd E ta a) (hb : EvD K cd E tb b) : ES K cd E kp (sDPut (tVar i) ta tb) (fPut i a b) := fun {ox} H G e σ g Z w =>
  EvD.fl (ev_tk hb) g w fun rv e1 H1 G1 v g1 s1 r1 w1 => by
    cases q1 : e1[i]? with
    | none => simp only [q1] at w1; exact w1.elim
    | some sl1 =>
      cases sl1 with
      | ow d1 =>
        cases d1 with
        | dct kv0 =>
          simp only [q1] at w1
          obtain ⟨p, hp, _⟩ := g1.ow i _ q1
          refine ⟨.ref p, hp, ?_⟩
          refine EvD.fl (EvD.pub ha) g1 (FlW.stp w1 s1 .refl) fun rk e2 H2 G2 y g2 s2 r2 w2 => ?_
          cases rv with
          | sl _ => exact w2.elim
          | ow _ => exact w2.elim
          | sh d =>
            cases q2 : e2[i]? with
            | none => simp only [q2] at w2; exact w2.elim
            | some sl2 =>
              cases sl2 with
              | ow d2 =>
                cases d2 with
                | dct kvs =>
                  cases q3 : rdv e2 rk with
                  | none => simp only [q2, q3] at w2; exact w2.elim
                  | some k =>
                    simp only [q2, q3] at w2
                    by_cases hc : ((keyD k).isSome && decide (kvs.length < lim)) = true
                    · rw [if_pos hc] at w2
                      rw [Bool.and_eq_true, decide_eq_true_eq] at hc
                      obtain ⟨kk, hk⟩ := Option.isSome_iff_exists.mp hc.1
                      obtain ⟨p', hp', n, us, hv, ru⟩ := g2.ow i _ q2
                      rw [hp] at hp'; cases hp'
                      have pk : Pd K cd G2 σ rk y := by
                        cases rk with
                        | sl _ => exact r2
                        | sh _ => exact r2
                        | ow _ => cases q3
                      have ey := keyD_kV (g2.rd pk q3) hk
                      have rd : Rp K cd G2 d v := Rp.mono s2.gg r1
                      obtain ⟨g3, m3⟩ := g2.upd1 (d' := .dct (putD kvs k d)) q2 hp (stp_write (a0 := p) (o' := .dK (putK us kk v))) (sub_write g2.sub n) n ⟨_, upd_same, ru.put hk rd⟩
                      have hm : Mn e2 σ p := ⟨i, _, q2, hp⟩
                      refine ⟨p, upd H2 p (.dK (putK us kk v)), rfl, by rw [ey]; exact DPut.k hv (by rw [ru.len]; exact lim_lt hc.2), w2 _ G2 σ g3 (s2.trans ⟨fun b o ho m => ?_, Same.refl _, fun _ _ _ _ h => h, fun b hb => .inl (m3 b hb), al_upd⟩) .refl⟩
                      rw [upd_ne (fun z => m (by rw [z]; exact hm))]; exact ho
                    · rw [if_neg hc] at w2; exact w2.elim
                | _ => simp only [q2] at w2; exact w2.elim
              | _ => simp only [q2] at w2; exact w2.elim
        | _ => simp only [q1] at w1; exact w1.elim
      | _ => simp only [q1] at w1; exact w1.elim
end
end Dv
/-! walks, comprehensions, fields, methods, new objects -/
namespace Dv
open PySem PySem.Spec PyProof.Rows L2
open SX (S S_len S_cat)
section
variable {K : PySem.W.Frag} {cd : Nat → Cd} {ox : Addr → Prop} {E : St → XK} {kp : Nat → Bool} {H G H' G' : Hp} {e : En} {σ : St} {Q : VK} {ta tb tc te : TE} {a b c : En → Rs} {f : En → Fl}
/-- as eTk; what is lent to us stays so -/
def eTb (a : En → Rs) : En → Rs := fun e => (pubR (a e)).bind fun r e1 => match r with
  | .sl i => (match e1[i]? with
    | some (.sh d) => .ok (.sh d) e1
    | some (.bo _) => .ok (.sl i) e1
    | some (.ow d) => .ok (.sh d) (e1.set i (.sh d))
    | _ => .stuck)
  | r => .ok r e1
theorem ev_tb (ha : EvD K cd E ta a) : EvD K cd E ta (eTb a) := by
  intro ox H G e σ g Q w
  refine ha.pub H G e σ g Q ?_
  show RsW K cd ox E Q H G σ e (pubR (a e))
  have w' : RsW K cd ox E Q H G σ e (eTb a e) := w
  unfold eTb at w'
  cases q : pubR (a e) with
  | stuck => rw [q] at w'; exact w'
  | exc c fs e' => rw [q] at w'; exact w'
  | ok r e1 =>
    rw [q] at w'
    cases r with
    | sh d => exact w'
    | ow d => exact w'
    | sl i =>
      intro H1 G1 v g1 s1 p1
      have p1' : σ[i]? = some (some v) := p1
      have w2 : RsW K cd ox E Q H G σ e (match e1[i]? with | some (Sl.sh d) => .ok (.sh d) e1 | some (Sl.bo _) => .ok (.sl i) e1 | some (Sl.ow d) => .ok (.sh d) (e1.set i (.sh d)) | _ => .stuck) := w'
      cases q2 : e1[i]? with
      | none => rw [q2] at w2; exact w2.elim
      | some s =>
        rw [q2] at w2
        cases s with
        | no => exact w2.elim
        | bo d => exact w2 H1 G1 v g1 s1 p1'
        | sh d =>
          obtain ⟨u, hu, r⟩ := g1.sh i d q2
          rw [p1'] at hu; cases hu
          exact w2 H1 G1 v g1 s1 r
        | ow d =>
          obtain ⟨G2, u, hu, g2, s2, r⟩ := g1.pubSl q2
          rw [p1'] at hu; cases hu
          exact w2 H1 G2 v g2 (s1.trans s2) r
theorem pubR_pub (r : Rs) : pubR (pubR r) = pubR r := by
  cases r with
  | ok r e => cases r <;> rfl
  | _ => rfl
theorem pubR_tb (a : En → Rs) (e : En) : pubR (eTb a e) = eTb a e := by
  unfold eTb
  cases q : pubR (a e) with
  | stuck => rfl
  | exc _ _ _ => rfl
  | ok r e1 =>
    cases r with
    | sh d => rfl
    | ow d =>
      have z := pubR_pub (a e)
      rw [q] at z
      cases z
    | sl i =>
      show pubR (match e1[i]? with | some (Sl.sh d) => .ok (.sh d) e1 | some (Sl.bo _) => .ok (.sl i) e1 | some (Sl.ow d) => .ok (.sh d) (e1.set i (.sh d)) | _ => .stuck) = _
      cases q3 : e1[i]? with
      | none => simp only [Rs.bind, q3]; rfl
      | some s => cases s <;> (simp only [Rs.bind, q3]; rfl)
/-- an operand that is a name is shared or lent, never ours -/
def PdN (e : En) : Rv → Prop
  | .sl i => ∃ d, e[i]? = some (Sl.bo d)
  | _ => True
theorem tb_sl {e e1 : En} {r : Rv} (h : eTb a e = .ok r e1) : PdN e1 r := by
  unfold eTb at h
  cases q : pubR (a e) with
  | stuck => rw [q] at h; cases h
  | exc _ _ _ => rw [q] at h; cases h
  | ok r1 e2 =>
    rw [q] at h
    cases r1 with
    | sh d => cases h; exact True.intro
    | ow d => cases h; exact True.intro
    | sl i =>
      have h' : (match e2[i]? with | some (Sl.sh d) => Rs.ok (.sh d) e2 | some (Sl.bo _) => .ok (.sl i) e2 | some (Sl.ow d) => .ok (.sh d) (e2.set i (.sh d)) | _ => .stuck) = .ok r e1 := h
      split at h'
      · cases h'; exact True.intro
      · rename_i d q2; cases h'; exact ⟨d, q2⟩
      · cases h'; exact True.intro
      · cases h'
/-- what may be pinned: data with a first layer of its own, not ours -/
theorem Gd.pinA (g : Gd K cd ox H G e σ) {r : Rv} {v : V} {d : D} {p : Addr} (pd : Pd K cd G σ r v) (h : rdv e r = some d) (hn : PdN e r) (m : isM d = true) (hv : v = .ref p) : ¬ Mn e σ p := by
  subst hv
  rintro ⟨j, d', h1, h2⟩
  obtain ⟨b, x1, x2, x3⟩ := g.ow j d' h1
  rw [h2] at x1; cases x1
  cases r with
  | ow _ => cases h
  | sh d0 =>
    cases h
    have pd' : Rp K cd G d (.ref p) := pd
    obtain ⟨a', o, e1, e2⟩ := rp_ref pd' m
    cases e1
    rw [x2] at e2; cases e2
  | sl i =>
    obtain ⟨d0, hd0⟩ := hn
    obtain ⟨b, y1, y2, y3, y4, _⟩ := g.bo i d0 hd0
    have pd' : σ[i]? = some (some (V.ref p)) := pd
    rw [pd'] at y1; cases y1
    exact y4 ⟨j, d', h1, h2⟩
/-! what is walked -/
def seqD : D → Option (List D)
  | .lst ds => some ds
  | .tup ds => some ds
  | _ => none
def iSeq (a : En → Rs) : En → Is := fun e => match eTb a e with
  | .ok r e1 => (match (rdv e1 r).bind seqD with
    | some ds => .ok ds e1
    | none => .stuck)
  | .exc c fs e1 => .exc c fs e1
  | .stuck => .stuck
theorem RpL.wkL {P : Pins} {p : Addr} {vs : List V} {ds : List D} (hp : (p, .lst vs) ∈ P) (r : RpL K cd G ds vs) : Wk K cd G (Itl K p) P ds := fun i H2 G2 sg sb pin => by
  have hq : SqL K H2 p vs := SqL.of (pin _ hp)
  refine ⟨fun z => ⟨vs, hq, by rw [r.len]; exact z⟩, fun z => ⟨vs, vs[i]'(by rw [r.len]; exact z), hq, List.getElem?_eq_getElem _⟩, fun _ x H3 ⟨e1, e2⟩ => ?_⟩
  subst e1
  obtain ⟨d, hd, rd⟩ := r.atV (e2 vs hq)
  exact ⟨G2, d, .refl sb, hd, rd.mono sg⟩
theorem RpL.wkT {P : Pins} {p : Addr} {vs : List V} {ds : List D} (hp : ∀ H2 G2, Same G G2 → Sub G2 H2 → SqT K H2 p vs) (r : RpL K cd G ds vs) : Wk K cd G (Itt K p) P ds := fun i H2 G2 sg sb pin => by
  have hq : SqT K H2 p vs := hp H2 G2 sg sb
  refine ⟨fun z => ⟨vs, hq, by rw [r.len]; exact z⟩, fun z => ⟨vs, vs[i]'(by rw [r.len]; exact z), hq, List.getElem?_eq_getElem _⟩, fun _ x H3 ⟨e1, e2⟩ => ?_⟩
  subst e1
  obtain ⟨d, hd, rd⟩ := r.atV (e2 vs hq)
  exact ⟨G2, d, .refl sb, hd, rd.mono sg⟩
/-- a list or a tuple at hand -/
theorem Gd.seqW (g : Gd K cd ox H G e σ) {r : Rv} {v : V} {d : D} {ds : List D} (pd : Pd K cd G σ r v) (h : rdv e r = some d) (hn : PdN e r) (hs : seqD d = some ds) :
    ∃ p vs, v = .ref p ∧ ((SqL K H p vs ∧ ∃ P, PinOk P H e σ ∧ Wk K cd G (Itl K p) P ds) ∨ (SqT K H p vs ∧ ∃ P, PinOk P H e σ ∧ Wk K cd G (Itt K p) P ds)) := by
  have bv := g.rd pd h
  cases d with
  | lst xs =>
    cases hs
    obtain ⟨p, vs, rfl, hp, rl⟩ := bv
    refine ⟨p, vs, rfl, .inl ⟨SqL.of hp, [(p, .lst vs)], fun q hq => ?_, rl.wkL (List.mem_singleton.mpr rfl)⟩⟩
    rw [List.mem_singleton.mp hq]
    exact ⟨hp, g.pinA pd h hn rfl rfl⟩
  | tup xs =>
    cases hs
    obtain ⟨p, vs, rfl, hp, rl, rp⟩ := bv
    cases rp with
    | tup h1 h2 => exact ⟨p, _, rfl, .inr ⟨SqT.of (g.sub.tup h1), [], fun q hq => (by cases hq), h2.wkT fun H2 G2 sg sb => SqT.of (sb.tup (sg _ _ h1))⟩⟩
    | tupK h1 h2 => exact ⟨p, _, rfl, .inr ⟨h1 H, [], fun q hq => (by cases hq), h2.wkT fun H2 G2 sg sb => h1 H2⟩⟩
  | _ => cases hs
theorem ei_seq (ha : EvD K cd E ta a) : EvI K cd E (iSeqA K ta) (iSeq a) where
  r := fun {ox H G e σ Q k R} g w hk => by
    refine ev_tb ha H G e σ g (fun x H1 => ∃ a xs, x = .ref a ∧ ((SqL K H1 a xs ∧ R (Itl K a) H1) ∨ (SqT K H1 a xs ∧ R (Itt K a) H1))) ?_
    unfold iSeq at w
    cases q : eTb a e with
    | stuck => rw [q] at w; exact w
    | exc c fs e' => rw [q] at w; exact w
    | ok r e1 =>
      rw [q] at w
      intro H1 G1 v g1 s1 p1
      have w1 : RsW K cd ox E Q H G σ e (Is.bind (match (rdv e1 r).bind seqD with | some ds => .ok ds e1 | none => .stuck) k) := w
      cases q2 : (rdv e1 r).bind seqD with
      | none => rw [q2] at w1; exact w1.elim
      | some ds =>
        rw [q2] at w1
        obtain ⟨d, hd, hs⟩ := bind_some q2
        have pd : Pd K cd G1 σ r v := by
          cases r with
          | sl _ => exact p1
          | sh _ => exact p1
          | ow _ => cases hd
        obtain ⟨p, vs, rfl, hh⟩ := g1.seqW pd hd (tb_sl q) hs
        refine ⟨p, vs, rfl, ?_⟩
        rcases hh with ⟨h1, P, h2, h3⟩ | ⟨h1, P, h2, h3⟩
        · exact .inl ⟨h1, hk ds e1 H1 G1 _ P g1 s1 h2 h3 (RsW.stp w1 s1)⟩
        · exact .inr ⟨h1, hk ds e1 H1 G1 _ P g1 s1 h2 h3 (RsW.stp w1 s1)⟩
  s := fun {ox kp H G e σ Z k R} g w hk => by
    refine ev_tb ha H G e σ g (fun x H1 => ∃ a xs, x = .ref a ∧ ((SqL K H1 a xs ∧ R (Itl K a) H1) ∨ (SqT K H1 a xs ∧ R (Itt K a) H1))) ?_
    unfold iSeq at w
    cases q : eTb a e with
    | stuck => rw [q] at w; exact w
    | exc c fs e' =>
      rw [q] at w
      exact fun H1 G1 od g1 s1 x => w H1 G1 σ od g1 s1 .refl x
    | ok r e1 =>
      rw [q] at w
      intro H1 G1 v g1 s1 p1
      have w1 : FlW K cd ox E kp Z H G σ e (Is.fl (match (rdv e1 r).bind seqD with | some ds => .ok ds e1 | none => .stuck) k) := w
      cases q2 : (rdv e1 r).bind seqD with
      | none => rw [q2] at w1; exact w1.elim
      | some ds =>
        rw [q2] at w1
        obtain ⟨d, hd, hs⟩ := bind_some q2
        have pd : Pd K cd G1 σ r v := by
          cases r with
          | sl _ => exact p1
          | sh _ => exact p1
          | ow _ => cases hd
        obtain ⟨p, vs, rfl, hh⟩ := g1.seqW pd hd (tb_sl q) hs
        refine ⟨p, vs, rfl, ?_⟩
        rcases hh with ⟨h1, P, h2, h3⟩ | ⟨h1, P, h2, h3⟩
        · exact .inl ⟨h1, hk ds e1 H1 G1 _ P g1 s1 h2 h3 (FlW.stp w1 s1 .refl)⟩
        · exact .inr ⟨h1, hk ds e1 H1 G1 _ P g1 s1 h2 h3 (FlW.stp w1 s1 .refl)⟩
/-- lo, lo + 1, .. -/
def rngD (lo : Int) (n : Nat) : List D := (List.range n).map fun (k : Nat) => .int (lo + (k : Int))
theorem rngD_len (lo : Int) (n : Nat) : (rngD lo n).length = n := by unfold rngD; rw [List.length_map, List.length_range]
theorem wk_rng {lo : Int} {n : Nat} {P : Pins} : Wk K cd G (Itr lo n) P (rngD lo n) := fun i H2 G2 sg sb pin => by
  have hl := rngD_len lo n
  refine ⟨fun z => by rw [hl] at z; exact z, fun z => by rw [hl] at z; exact z, fun z x H3 ⟨e1, e2⟩ => ?_⟩
  subst e1; subst e2
  rw [hl] at z
  refine ⟨G2, .int (lo + i), .refl sb, ?_, .int _⟩
  unfold rngD
  rw [List.getElem?_map, List.getElem?_range z]
  rfl
def okI (i : Int) : Bool := decide (i.natAbs < 2 ^ 62)
theorem okI_ {i : Int} (h : okI i = true) : -(2 ^ 62) ≤ i ∧ i < 2 ^ 62 := by
  have h1 : i.natAbs < 2 ^ 62 := of_decide_eq_true h
  omega
def rngA1 : List D → Option (List D)
  | [.int j] => if okI j = true then some (rngD 0 j.toNat) else none
  | _ => none
def rngA2 : List D → Option (List D)
  | [.int i, .int j] => if (okI i && okI j) = true then some (rngD i (j - i).toNat) else none
  | _ => none
def iRng (rng : List D → Option (List D)) (f : En → As) : En → Is := fun e => match f e with
  | .ok rs e1 => (match (rdL e1 rs).bind rng with
    | some ds => .ok ds e1
    | none => .stuck)
  | .exc c fs e1 => .exc c fs e1
  | .stuck => .stuck
/-- argument lists ahead of a statement's rest -/
def As.fl (r : As) (k : List Rv → En → Fl) : Fl := match r with
  | .stuck => .stuck
  | .ok r e => k r e
  | .exc c fs e => .exc c fs e
/-- argument lists, with steps told -/
structure EvB (K : PySem.W.Frag) (cd : Nat → Cd) (E : St → XK) (t : TA) (f : En → As) : Prop where
  r : ∀ {ox : Addr → Prop} {H G : Hp} {e : En} {σ : St} {Q : VK} {k : List Rv → En → Rs} {Q' : List V → Hp → Prop}, Gd K cd ox H G e σ → RsW K cd ox E Q H G σ e ((f e).bind k) →
    (∀ rs e1 H1 G1 vs, Gd K cd ox H1 G1 e1 σ → Stp H G (Mn e σ) H1 G1 (Mn e1 σ) → PdL K cd G1 σ rs vs → RsW K cd ox E Q H1 G1 σ e1 (k rs e1) → Q' vs H1) → t σ H Q'
  s : ∀ {ox : Addr → Prop} {kp : Nat → Bool} {H G : Hp} {e : En} {σ : St} {Z : Ends} {k : List Rv → En → Fl} {Q' : List V → Hp → Prop}, Gd K cd ox H G e σ → FlW K cd ox E kp Z H G σ e ((f e).fl k) →
    (∀ rs e1 H1 G1 vs, Gd K cd ox H1 G1 e1 σ → Stp H G (Mn e σ) H1 G1 (Mn e1 σ) → PdL K cd G1 σ rs vs → FlW K cd ox E kp Z H1 G1 σ e1 (k rs e1) → Q' vs H1) → t σ H Q'
theorem eb_nil : EvB K cd E tNil aNil := ⟨fun {ox H G e σ Q k Q'} g w hk => hk [] e H G [] g .refl .nil w, fun {ox kp H G e σ Z k Q'} g w hk => hk [] e H G [] g .refl .nil w⟩
theorem eb_cons {t : TA} {as : En → As} (ha : EvD K cd E ta a) (hf : EvB K cd E t as) : EvB K cd E (tCons ta t) (aCons a as) where
  r := fun {ox H G e σ Q k Q'} g w hk => by
    refine ha.pub H G e σ g (fun x H1 => t σ H1 fun xs H2 => Q' (x :: xs) H2) ?_
    show RsW K cd ox E _ H G σ e (pubR (a e))
    unfold aCons at w
    cases q : pubR (a e) with
    | stuck => rw [q] at w; exact w
    | exc c fs e' => rw [q] at w; exact w
    | ok r e1 =>
      rw [q] at w
      intro H1 G1 v g1 s1 p1
      have pd : Pd K cd G1 σ r v := by
        cases r with
        | sl _ => exact p1
        | sh _ => exact p1
        | ow _ =>
          have z := pubR_pub (a e)
          rw [q] at z; cases z
      have w1 : RsW K cd ox E Q H1 G1 σ e1 ((match as e1 with | .stuck => As.stuck | .exc c fs e => .exc c fs e | .ok rs e2 => .ok (r :: rs) e2).bind k) := RsW.stp w s1
      refine hf.r (k := fun rs e2 => k (r :: rs) e2) g1 ?_ (fun rs e2 H2 G2 vs g2 s2 p2 w2 => hk (r :: rs) e2 H2 G2 (v :: vs) g2 (s1.trans s2) (.cons (pd.mono s2.gg) p2) w2)
      cases q2 : as e1 with
      | stuck => rw [q2] at w1; exact w1
      | exc c fs e' => rw [q2] at w1; exact w1
      | ok rs e2 => rw [q2] at w1; exact w1
  s := fun {ox kp H G e σ Z k Q'} g w hk => by
    refine ha.pub H G e σ g (fun x H1 => t σ H1 fun xs H2 => Q' (x :: xs) H2) ?_
    show RsW K cd ox E _ H G σ e (pubR (a e))
    unfold aCons at w
    cases q : pubR (a e) with
    | stuck => rw [q] at w; exact w
    | exc c fs e' =>
      rw [q] at w
      exact fun H1 G1 od g1 s1 x => w H1 G1 σ od g1 s1 .refl x
    | ok r e1 =>
      rw [q] at w
      intro H1 G1 v g1 s1 p1
      have pd : Pd K cd G1 σ r v := by
        cases r with
        | sl _ => exact p1
        | sh _ => exact p1
        | ow _ =>
          have z := pubR_pub (a e)
          rw [q] at z; cases z
      have w1 : FlW K cd ox E kp Z H1 G1 σ e1 ((match as e1 with | .stuck => As.stuck | .exc c fs e => .exc c fs e | .ok rs e2 => .ok (r :: rs) e2).fl k) := FlW.stp w s1 .refl
      refine hf.s (k := fun rs e2 => k (r :: rs) e2) g1 ?_ (fun rs e2 H2 G2 vs g2 s2 p2 w2 => hk (r :: rs) e2 H2 G2 (v :: vs) g2 (s1.trans s2) (.cons (pd.mono s2.gg) p2) w2)
      cases q2 : as e1 with
      | stuck => rw [q2] at w1; exact w1
      | exc c fs e' => rw [q2] at w1; exact w1
      | ok rs e2 => rw [q2] at w1; exact w1
theorem is_some {o : Option (List D)} {k : List D → En → Rs} (w : RsW K cd ox E Q H G σ e (Is.bind (match o with | some ds => .ok ds e | none => .stuck) k)) : ∃ ds, o = some ds ∧ RsW K cd ox E Q H G σ e (k ds e) := by
  cases o with
  | none => exact w.elim
  | some ds => exact ⟨ds, rfl, w⟩
theorem is_someF {o : Option (List D)} {Z : Ends} {k : List D → En → Fl} (w : FlW K cd ox E kp Z H G σ e (Is.fl (match o with | some ds => .ok ds e | none => .stuck) k)) : ∃ ds, o = some ds ∧ FlW K cd ox E kp Z H G σ e (k ds e) := by
  cases o with
  | none => exact w.elim
  | some ds => exact ⟨ds, rfl, w⟩
theorem iRng_r {rng : List D → Option (List D)} {f : En → As} {k : List D → En → Rs} {e : En} : (iRng rng f e).bind k = (f e).bind fun rs e1 => Is.bind (match (rdL e1 rs).bind rng with | some ds => .ok ds e1 | none => .stuck) k := by
  unfold iRng
  cases f e <;> rfl
theorem iRng_s {rng : List D → Option (List D)} {f : En → As} {k : List D → En → Fl} {e : En} : (iRng rng f e).fl k = (f e).fl fun rs e1 => Is.fl (match (rdL e1 rs).bind rng with | some ds => .ok ds e1 | none => .stuck) k := by
  unfold iRng
  cases f e <;> rfl
theorem rngA1_v {ds ls : List D} {vs : List V} (b : BvL K cd H G ds vs) (h : rngA1 ds = some ls) : ∃ j : Int, vs = [.int j] ∧ -(2 ^ 62) ≤ j ∧ j < 2 ^ 62 ∧ ls = rngD 0 j.toNat := by
  match ds, h with
  | [.int j], h =>
    obtain ⟨h1, h⟩ := if_some h
    cases h
    obtain ⟨v, rfl, bv⟩ := bvl1 b
    have := okI_ h1
    exact ⟨j, by rw [bv_int bv], this.1, this.2, rfl⟩
theorem rngA2_v {ds ls : List D} {vs : List V} (b : BvL K cd H G ds vs) (h : rngA2 ds = some ls) : ∃ i j : Int, vs = [.int i, .int j] ∧ (-(2 ^ 62) ≤ i ∧ i < 2 ^ 62 ∧ -(2 ^ 62) ≤ j ∧ j < 2 ^ 62) ∧ ls = rngD i (j - i).toNat := by
  match ds, h with
  | [.int i, .int j], h =>
    obtain ⟨h1, h⟩ := if_some h
    cases h
    rw [Bool.and_eq_true] at h1
    obtain ⟨v, w, rfl, bv, bw⟩ := bvl2 b
    have a := okI_ h1.1
    have c := okI_ h1.2
    exact ⟨i, j, by rw [bv_int bv, bv_int bw], ⟨a.1, a.2, c.1, c.2⟩, rfl⟩
theorem ei_rng1 {t : TA} {f : En → As} (hf : EvB K cd E t f) : EvI K cd E (iRng1 t) (iRng rngA1 f) where
  r := fun {ox H G e σ Q k R} g w hk => by
    rw [iRng_r] at w
    refine hf.r g w fun rs e1 H1 G1 vs g1 s1 p1 w1 => ?_
    obtain ⟨ls, hz, w2⟩ := is_some w1
    obtain ⟨ds, hd, hz⟩ := bind_some hz
    obtain ⟨j, h1, h2, h3, h4⟩ := rngA1_v (g1.rdL p1 hd) hz
    exact ⟨j, h1, h2, h3, hk ls e1 H1 G1 _ [] g1 s1 (fun q hq => by cases hq) (by rw [h4]; exact wk_rng) w2⟩
  s := fun {ox kp H G e σ Z k R} g w hk => by
    rw [iRng_s] at w
    refine hf.s g w fun rs e1 H1 G1 vs g1 s1 p1 w1 => ?_
    obtain ⟨ls, hz, w2⟩ := is_someF w1
    obtain ⟨ds, hd, hz⟩ := bind_some hz
    obtain ⟨j, h1, h2, h3, h4⟩ := rngA1_v (g1.rdL p1 hd) hz
    exact ⟨j, h1, h2, h3, hk ls e1 H1 G1 _ [] g1 s1 (fun q hq => by cases hq) (by rw [h4]; exact wk_rng) w2⟩
theorem ei_rng2 {t : TA} {f : En → As} (hf : EvB K cd E t f) : EvI K cd E (iRng2 t) (iRng rngA2 f) where
  r := fun {ox H G e σ Q k R} g w hk => by
    rw [iRng_r] at w
    refine hf.r g w fun rs e1 H1 G1 vs g1 s1 p1 w1 => ?_
    obtain ⟨ls, hz, w2⟩ := is_some w1
    obtain ⟨ds, hd, hz⟩ := bind_some hz
    obtain ⟨i, j, h1, h2, h4⟩ := rngA2_v (g1.rdL p1 hd) hz
    exact ⟨i, j, h1, h2, hk ls e1 H1 G1 _ [] g1 s1 (fun q hq => by cases hq) (by rw [h4]; exact wk_rng) w2⟩
  s := fun {ox kp H G e σ Z k R} g w hk => by
    rw [iRng_s] at w
    refine hf.s g w fun rs e1 H1 G1 vs g1 s1 p1 w1 => ?_
    obtain ⟨ls, hz, w2⟩ := is_someF w1
    obtain ⟨ds, hd, hz⟩ := bind_some hz
    obtain ⟨i, j, h1, h2, h4⟩ := rngA2_v (g1.rdL p1 hd) hz
    exact ⟨i, j, h1, h2, hk ls e1 H1 G1 _ [] g1 s1 (fun q hq => by cases hq) (by rw [h4]; exact wk_rng) w2⟩
end
end Dv
/-! comprehensions -/
namespace Dv
open PySem PySem.Spec PyProof.Rows L2
open SX (S S_len S_cat)
section
variable {K : PySem.W.Frag} {cd : Nat → Cd} {ox : Addr → Prop} {E : St → XK} {kp : Nat → Bool} {H G H' G' : Hp} {e : En} {σ : St} {Q : VK} {ta tb tc te tk : TE} {a b c : En → Rs} {f : En → Fl}
def wipeE (e : En) : List Nat → En
  | [] => e
  | v :: vs => (wipeE e vs).set v .no
theorem wipeE_len : ∀ vs : List Nat, (wipeE e vs).length = e.length
  | [] => rfl
  | v :: vs => by unfold wipeE; rw [List.length_set, wipeE_len vs]
theorem wipeE_at {s : Sl} {i : Nat} (n : s ≠ .no) : ∀ {vs : List Nat}, (wipeE e vs)[i]? = some s → e[i]? = some s ∧ i ∉ vs
  | [], h => ⟨h, by simp⟩
  | v :: vs, h => by
    unfold wipeE at h
    by_cases hi : v = i
    · subst hi
      by_cases hv : v < (wipeE e vs).length
      · rw [List.getElem?_set_self hv] at h; cases h; exact absurd rfl n
      · rw [List.getElem?_eq_none (by rw [List.length_set]; omega)] at h; cases h
    · rw [List.getElem?_set_ne hi] at h
      obtain ⟨h1, h2⟩ := wipeE_at n h
      exact ⟨h1, by simp only [List.mem_cons, not_or]; exact ⟨fun e => hi e.symm, h2⟩⟩
theorem wipe_get {i : Nat} : ∀ {vs : List Nat}, i ∉ vs → (wipe σ vs)[i]? = σ[i]?
  | [], _ => rfl
  | v :: vs, h => by
    unfold wipe
    simp only [List.mem_cons, not_or] at h
    rw [List.getElem?_set_ne (fun z => h.1 z.symm), wipe_get h.2]
/-- slots that hold nothing -/
def Wiped (vs : List Nat) (e : En) : Prop := ∀ (i : Nat) (s : Sl), i ∈ vs → e[i]? = some s → s = .no
theorem wiped_wipe (vs : List Nat) : Wiped vs (wipeE e vs) := fun i s hi h => by
  by_cases n : s = .no
  · exact n
  · exact absurd hi (wipeE_at n h).2
/-- the names' values may be others where the slots hold nothing -/
theorem Gd.other (g : Gd K cd ox H G e σ) {vs : List Nat} {e' : En} {σ' : St} (hl : σ'.length = e'.length) (hs : ∀ i, i ∉ vs → σ'[i]? = σ[i]?) (he : ∀ (i : Nat) (s : Sl), s ≠ .no → e'[i]? = some s → e[i]? = some s ∧ i ∉ vs) :
    Gd K cd ox H G e' σ' ∧ ∀ a, Mn e' σ' a → Mn e σ a := by
  have low : ∀ (i : Nat) (s : Sl), e'[i]? = some s → s ≠ .no → e[i]? = some s ∧ σ'[i]? = σ[i]? := fun i s h n => by
    obtain ⟨h1, h2⟩ := he i s n h
    exact ⟨h1, hs i h2⟩
  have mn : ∀ a, Mn e' σ' a → Mn e σ a := fun a ⟨j, d, h, q⟩ => by
    obtain ⟨h1, h2⟩ := low j _ h (fun z => nomatch z)
    rw [h2] at q
    exact ⟨j, d, h1, q⟩
  refine ⟨⟨g.sub, hl.symm, fun j d h => ?_, fun j d h => ?_, fun j d h => ?_, g.old, fun j k d1 d2 b h1 h2 h3 h4 => ?_⟩, mn⟩
  · obtain ⟨h1, h2⟩ := low j _ h (fun z => nomatch z)
    rw [h2]; exact g.sh j d h1
  · obtain ⟨h1, h2⟩ := low j _ h (fun z => nomatch z)
    rw [h2]
    obtain ⟨b, x, y, m, nm, ob⟩ := g.bo j d h1
    exact ⟨b, x, y, m, fun q => nm (mn b q), ob⟩
  · obtain ⟨h1, h2⟩ := low j _ h (fun z => nomatch z)
    rw [h2]; exact g.ow j d h1
  · obtain ⟨a1, a2⟩ := low j _ h1 (fun z => nomatch z)
    obtain ⟨b1, b2⟩ := low k _ h2 (fun z => nomatch z)
    rw [a2] at h3; rw [b2] at h4
    exact g.inj j k d1 d2 b a1 b1 h3 h4
/-- what a comprehension's turns keep: D the object that is made, which holds what R says -/
structure CoI (K : PySem.W.Frag) (cd : Nat → Cd) (ox : Addr → Prop) (H1 G1 : Hp) (M1 : Addr → Prop) (σ : St) (vs : List Nat) (P : Pins) (D : Addr) (R : Hp → HO → Prop) (H' G' : Hp) (e' : En) : Prop where
  g : Gd K cd ox H' G' e' (wipe σ vs)
  st : Stp H1 G1 M1 H' G' (Mn e' (wipe σ vs))
  pin : PinOk P H' e' (wipe σ vs)
  d : ∃ o, H' D = some o ∧ R G' o
  n : G' D = none
  nm : ¬ Mn e' (wipe σ vs) D
  no : ¬ ox D
  wp : Wiped vs e'
variable {H1 G1 : Hp} {M1 : Addr → Prop} {vs : List Nat} {P : Pins} {Dd : Addr} {R : Hp → HO → Prop}
theorem CoI.start {e1 : En} {o : HO} (g : Gd K cd ox H1 G1 e1 σ) (p : PinOk P H1 e1 σ) (hD : H1 Dd = none) (hr : R G1 o) : CoI K cd ox H1 G1 (Mn e1 σ) σ vs P Dd R (upd H1 Dd o) G1 (wipeE e1 vs) := by
  obtain ⟨g2, m2⟩ := g.other (vs := vs) (e' := wipeE e1 vs) (σ' := wipe σ vs) (by rw [wipe_length, wipeE_len, g.len]) (fun i h => wipe_get h) (fun i s n h => wipeE_at n h)
  have gr : Gr H1 G1 (upd H1 Dd o) G1 := .new g.sub hD
  refine ⟨g2.grow gr, gr.stp.mono m2, fun q hq => ?_, ⟨o, upd_same, hr⟩, g.sub.some hD, fun ⟨j, d, h, q⟩ => ?_, fun h => ?_, wiped_wipe vs⟩
  · obtain ⟨x, y⟩ := p q hq
    exact ⟨by rw [upd_ne (ne_of_none x hD)]; exact x, fun z => y (m2 _ z)⟩
  · obtain ⟨b, x1, x2, x3⟩ := g2.ow j d h
    rw [q] at x1; cases x1
    obtain ⟨u, ho, _⟩ := x3.at
    rw [hD] at ho; cases ho
  · obtain ⟨u, hu⟩ := g.old Dd h
    rw [hD] at hu; cases hu
/-- a turn's way: new things, the target, then a step -/
theorem CoI.turn (c : CoI K cd ox H1 G1 M1 σ vs P Dd R H G e) (hR : ∀ G G' o, Same G G' → R G o → R G' o) {H3 G3 : Hp} {e4 e5 : En} {σ4 : St} (gr : Gr H G H3 G3) (m4 : ∀ a, Mn e4 σ4 a → Mn e (wipe σ vs) a) (k4 : ∀ j, j ∉ vs → σ4[j]? = (wipe σ vs)[j]?) (l4 : σ4.length = (wipe σ vs).length)
    {H5 G5 : Hp} (g5 : Gd K cd ox H5 G5 e5 σ4) (s5 : Stp H3 G3 (Mn e4 σ4) H5 G5 (Mn e5 σ4)) : CoI K cd ox H1 G1 M1 σ vs P Dd R H5 G5 (wipeE e5 vs) := by
  obtain ⟨g6, m6⟩ := g5.other (vs := vs) (e' := wipeE e5 vs) (σ' := wipe σ vs) (by rw [wipeE_len, g5.len, l4]) (fun i h => (k4 i h).symm) (fun i s n h => wipeE_at n h)
  have sA : Stp H G (Mn e (wipe σ vs)) H5 G5 (Mn e5 σ4) := ((gr.stp (M := Mn e (wipe σ vs))).mono m4).trans s5
  have sB : Stp H G (Mn e (wipe σ vs)) H5 G5 (Mn (wipeE e5 vs) (wipe σ vs)) := sA.mono m6
  obtain ⟨o, hd, hr⟩ := c.d
  refine ⟨g6, c.st.trans sB, c.pin.stp sB, ⟨o, sB.fr _ _ hd c.nm, hR _ _ _ sB.gg hr⟩, sB.gn _ _ hd c.nm c.n, fun z => ?_, c.no, wiped_wipe vs⟩
  rcases sB.mm _ z with z | z
  · exact c.nm z
  · rw [hd] at z; cases z
/-- the made object is written -/
theorem CoI.write {R' : Hp → HO → Prop} (c : CoI K cd ox H1 G1 M1 σ vs P Dd R H G e) {o : HO} (hp : ∀ p ∈ P, p.1 ≠ Dd) (hr : R' G o) (hf : ∀ b u, H1 b = some u → b ≠ Dd) : CoI K cd ox H1 G1 M1 σ vs P Dd R' (upd H Dd o) G e := by
  have nb : ∀ a, Mn e (wipe σ vs) a → a ≠ Dd := fun a z y => c.nm (by rw [← y]; exact z)
  refine ⟨⟨sub_write c.g.sub c.n, c.g.len, c.g.sh, fun j d h => ?_, fun j d h => ?_, fun a h => ?_, c.g.inj⟩, ⟨fun a u h m => ?_, c.st.gg, c.st.gn, c.st.mm, fun a u h => ?_⟩, fun p hq => ?_, ⟨o, upd_same, hr⟩, c.n, c.nm, c.no, c.wp⟩
  · obtain ⟨b, x, y, m, nm, ob⟩ := c.g.bo j d h
    have z : b ≠ Dd := fun z => c.no (by rw [← z]; exact ob)
    exact ⟨b, x, y.step m (fun o q => by rw [upd_ne z]; exact q) (Same.refl _), m, nm, ob⟩
  · obtain ⟨b, x, y, w⟩ := c.g.ow j d h
    have z := nb b ⟨j, d, h, x⟩
    exact ⟨b, x, y, w.mono (fun o q => by rw [upd_ne z]; exact q) (Same.refl _)⟩
  · obtain ⟨u, hu⟩ := c.g.old a h
    exact al_upd a u hu
  · rw [upd_ne (hf a u h)]; exact c.st.fr a u h m
  · obtain ⟨u', hu⟩ := c.st.al a u h
    exact al_upd a u' hu
  · obtain ⟨x, y⟩ := c.pin p hq
    exact ⟨by rw [upd_ne (hp p hq)]; exact x, y⟩
/-- at the end, back in the def's own names -/
theorem CoI.back (c : CoI K cd ox H1 G1 M1 σ vs P Dd R H G e) (hl : σ.length = e.length) : Gd K cd ox H G e σ ∧ Stp H1 G1 M1 H G (Mn e σ) ∧ ¬ Mn e σ Dd ∧ ∀ (i : Nat) (d' : D), e[i]? = some (Sl.bo d') → σ[i]? ≠ some (some (V.ref Dd)) := by
  obtain ⟨g, m⟩ := c.g.other (vs := vs) (e' := e) (σ' := σ) hl (fun i h => (wipe_get h).symm) (fun i s n h => ⟨h, fun hi => n (c.wp i s hi h)⟩)
  refine ⟨g, c.st.mono m, fun z => c.nm (m _ z), fun i d' h q => ?_⟩
  obtain ⟨b, x, _, _, _, ob⟩ := g.bo i d' h
  rw [q] at x; cases x
  exact c.no ob
/-- [elt for tg in items if test]: acc so far -/
def lcL (tg : D → En → Option En) (test elt : En → Rs) (vs : List Nat) : List D → En → List D → Rs
  | [], e, acc => .ok (.ow (.lst acc)) e
  | d :: ds, e, acc => match tg d e with
    | none => .stuck
    | some e1 => match test e1 with
      | .ok (.sh (.bl true)) e2 => (match eTk elt e2 with
        | .ok (.sh y) e3 => if acc.length < lim then lcL tg test elt vs ds (wipeE e3 vs) (acc ++ [y]) else .stuck
        | _ => .stuck)
      | .ok (.sh (.bl false)) e2 => lcL tg test elt vs ds (wipeE e2 vs) acc
      | _ => .stuck
def eLc (src : En → Is) (tg : D → En → Option En) (test elt : En → Rs) (vs : List Nat) : En → Rs := fun e => (src e).bind fun items e1 => lcL tg test elt vs items (wipeE e1 vs) []
theorem et_yes : EvT K cd E tYes (eBl true) := fun {ox} H G e σ g Q w => w H G _ g .refl (.bl true)
theorem tE_if {tt : TT} {Q' : Bool → Hp → Prop} (k : tE tt σ H fun v H5 => ∃ b, v = .bl b ∧ Q' b H5) : tt σ H Q' := by
  have e : (fun (b : Bool) (H1 : Hp) => ∃ b', V.bl b = V.bl b' ∧ Q' b' H1) = Q' := by
    funext b H1
    exact propext ⟨fun ⟨b', h, q⟩ => by cases h; exact q, fun q => ⟨b, rfl, q⟩⟩
  have k2 : tt σ H (fun (b : Bool) (H1 : Hp) => ∃ b', V.bl b = V.bl b' ∧ Q' b' H1) := k
  rw [e] at k2
  exact k2
def RLst (K : PySem.W.Frag) (cd : Nat → Cd) (acc : List D) : Hp → HO → Prop := fun G o => ∃ vacc, o = .lst vacc ∧ RpL K cd G acc vacc
theorem RLst.mono {acc : List D} : ∀ G G' o, Same G G' → RLst K cd acc G o → RLst K cd acc G' o := fun _ _ _ s ⟨v, h, r⟩ => ⟨v, h, r.mono s⟩
theorem wipe_eq {σ4 : St} (l4 : σ4.length = (wipe σ vs).length) (k4 : ∀ j, j ∉ vs → σ4[j]? = (wipe σ vs)[j]?) : wipe σ4 vs = wipe σ vs := by
  have wl : (wipe σ vs).length = σ.length := wipe_length σ vs
  refine List.ext_getElem? fun j => ?_
  by_cases z : j ∈ vs
  · have nn : ∀ (τ : St), τ.length = σ.length → (wipe τ vs)[j]? = if j < σ.length then some none else none := fun τ hl => by
      by_cases hj : j < σ.length
      · rw [if_pos hj]
        cases q : (wipe τ vs)[j]? with
        | none => rw [List.getElem?_eq_none_iff, wipe_length] at q; omega
        | some o =>
          cases o with
          | none => rfl
          | some v => exact absurd z (wipe_some q).2
      · rw [if_neg hj]
        exact List.getElem?_eq_none (by rw [wipe_length]; omega)
    rw [nn σ4 (by rw [l4, wl]), nn σ rfl]
  · rw [wipe_get z, k4 j z]
/-- the turns of [elt for tg in .. if test]; nothing leaves the element's run -/
theorem lc_loop {items : List D} {J : It} {e1 : En} {g : TG} {ws : List Nat} {tg : D → En → Option En} {tt : TT} {test elt : En → Rs} (hg : TgD K cd (fun _ => false) ws g tg) (hsub : ∀ i, i ∈ ws → i ∈ vs) (ht : EvT K cd EN tt test) (he : EvD K cd EN te elt)
    (g1 : Gd K cd ox H1 G1 e1 σ) (p1 : PinOk P H1 e1 σ) (wk : Wk K cd G1 J P items) (w1 : RsW K cd ox E Q H1 G1 σ e1 (lcL tg test elt vs items (wipeE e1 vs) [])) (hD : H1 Dd = none) :
    ∃ W : Nat → Nat → Hp → Prop, (∃ m, W 0 m (upd H1 Dd (.lst []))) ∧ ∀ i m H, W i m H →
      (J.stop i H ∧ Q (.ref Dd) H) ∨ (J.go i H ∧ ∃ Nx : Hp → Prop, (∀ H', Nx H' → ∃ m', m' < m ∧ W (i + 1) m' H') ∧ ∀ x H', J.yld i H x H' → g x (wipe σ vs) H' fun σ2 H2 => wipe σ2 vs = wipe σ vs ∧ tt σ2 H2 fun b H3 =>
        if b = true then te σ2 H3 fun y H4 => ∃ acc, H4 Dd = some (.lst acc) ∧ acc.length < sizeLine ∧ Nx (upd H4 Dd (.lst (acc ++ [y]))) else Nx H3) := by
  have hf : ∀ b u, H1 b = some u → b ≠ Dd := fun b u h => ne_of_none h hD
  have hpn : ∀ p ∈ P, p.1 ≠ Dd := fun p hp => hf _ _ (p1 p hp).1
  refine ⟨fun i m H' => m = items.length - i ∧ i ≤ items.length ∧ ∃ G' e' acc, CoI K cd ox H1 G1 (Mn e1 σ) σ vs P Dd (RLst K cd acc) H' G' e' ∧ RsW K cd ox E Q H1 G1 σ e1 (lcL tg test elt vs (items.drop i) e' acc),
    ⟨items.length, rfl, Nat.zero_le _, G1, wipeE e1 vs, [], .start g1 p1 hD ⟨[], rfl, .nil⟩, w1⟩, ?_⟩
  rintro i m H2 ⟨rfl, hle, G2, e2, acc, c2, w2⟩
  have hse : Same G1 G2 := c2.st.gg
  obtain ⟨j1, j2, j3⟩ := wk i H2 G2 hse c2.g.sub (fun p hp => (c2.pin p hp).1)
  by_cases lt : i < items.length
  · refine .inr ⟨j2 lt, fun H' => ∃ G' e' acc, CoI K cd ox H1 G1 (Mn e1 σ) σ vs P Dd (RLst K cd acc) H' G' e' ∧ RsW K cd ox E Q H1 G1 σ e1 (lcL tg test elt vs (items.drop (i + 1)) e' acc),
      fun H' q => ⟨items.length - (i + 1), by omega, rfl, lt, q⟩, fun x H3 y => ?_⟩
    obtain ⟨G3, d, gr, hd, r⟩ := j3 lt x H3 y
    have ed : items.drop i = d :: items.drop (i + 1) := by
      rw [List.drop_eq_getElem_cons lt]
      rw [List.getElem?_eq_getElem lt] at hd
      cases hd; rfl
    rw [ed] at w2
    unfold lcL at w2
    cases q : tg d e2 with
    | none => rw [q] at w2; exact w2.elim
    | some e4 =>
      rw [q] at w2
      refine hg (c2.g.grow gr) r q fun σ4 g4 m4 _ k4' l4 => ?_
      have k4 : ∀ j, j ∉ vs → σ4[j]? = (wipe σ vs)[j]? := fun j h => k4' j (fun z => h (hsub j z))
      refine ⟨wipe_eq l4 k4, tE_if ?_⟩
      refine ht H3 G3 e4 σ4 g4 _ ?_
      have w4 : RsW K cd ox E Q H1 G1 σ e1 (match test e4 with
        | .ok (.sh (.bl true)) e2 => (match eTk elt e2 with
          | .ok (.sh y) e3 => if acc.length < lim then lcL tg test elt vs (items.drop (i + 1)) (wipeE e3 vs) (acc ++ [y]) else .stuck
          | _ => .stuck)
        | .ok (.sh (.bl false)) e2 => lcL tg test elt vs (items.drop (i + 1)) (wipeE e2 vs) acc
        | _ => .stuck) := w2
      cases qt : test e4 with
      | stuck => rw [qt] at w4; exact w4
      | exc c fs e' => rw [qt] at w4; exact w4.elim
      | ok rr e5 =>
        rw [qt] at w4
        cases rr with
        | sl _ => exact w4.elim
        | ow _ => exact w4.elim
        | sh db =>
          cases db with
          | bl b =>
            intro H5 G5 v g5 s5 rb
            refine ⟨b, rp_bl rb, ?_⟩
            cases b with
            | false =>
              rw [if_neg Bool.false_ne_true]
              exact ⟨G5, wipeE e5 vs, acc, c2.turn RLst.mono gr m4 k4 l4 g5 s5, w4⟩
            | true =>
              rw [if_pos rfl]
              refine ev_tk he H5 G5 e5 σ4 g5 _ ?_
              have w5 : RsW K cd ox E Q H1 G1 σ e1 (match eTk elt e5 with
                | .ok (.sh y) e3 => if acc.length < lim then lcL tg test elt vs (items.drop (i + 1)) (wipeE e3 vs) (acc ++ [y]) else .stuck
                | _ => .stuck) := w4
              cases qe : eTk elt e5 with
              | stuck => rw [qe] at w5; exact w5
              | exc c fs e' => rw [qe] at w5; exact w5.elim
              | ok rr e6 =>
                rw [qe] at w5
                cases rr with
                | sl _ => exact w5.elim
                | ow _ => exact w5.elim
                | sh y =>
                  intro H6 G6 v6 g6 s6 r6
                  have r6' : Rp K cd G6 y v6 := r6
                  have w6 : RsW K cd ox E Q H1 G1 σ e1 (if acc.length < lim then lcL tg test elt vs (items.drop (i + 1)) (wipeE e6 vs) (acc ++ [y]) else .stuck) := w5
                  by_cases hl : acc.length < lim
                  · rw [if_pos hl] at w6
                    have c6 := c2.turn RLst.mono gr m4 k4 l4 g6 (s5.trans s6)
                    obtain ⟨o, ho, vacc, rfl, racc⟩ := c6.d
                    exact ⟨vacc, ho, by rw [racc.len]; exact lim_lt hl, G6, wipeE e6 vs, acc ++ [y], c6.write hpn ⟨_, rfl, racc.app (.cons r6' .nil)⟩ hf, w6⟩
                  · rw [if_neg hl] at w6; exact w6.elim
          | _ => exact w4.elim
  · obtain rfl : i = items.length := by omega
    refine .inl ⟨j1 (Nat.le_refl _), ?_⟩
    rw [List.drop_length] at w2
    have hl : σ.length = e2.length := by rw [c2.g.len, wipe_length]
    obtain ⟨gb, sb, nm, nb⟩ := c2.back hl
    obtain ⟨o, ho, vacc, rfl, racc⟩ := c2.d
    exact w2 H2 G2 _ gb sb ⟨Dd, rfl, c2.n, ⟨vacc, ho, racc⟩, nm, nb, .inr hD⟩
theorem ev_lc {wi : TI} {src : En → Is} {g : TG} {ws : List Nat} {tg : D → En → Option En} {tt : TT} {test elt : En → Rs} (hi : EvI K cd E wi src) (hg : TgD K cd (fun _ => false) ws g tg) (hsub : ∀ i, i ∈ ws → i ∈ vs) (ht : EvT K cd EN tt test) (he : EvD K cd EN te elt) :
    EvD K cd E (tLc wi g tt te vs) (eLc src tg test elt vs) := by
  intro ox H G e σ gd Q w
  exact hi.r gd w fun items e1 H1 G1 J P g1 s1 p1 wk w1 Dd hD => lc_loop hg hsub ht he g1 p1 wk w1 hD
/-- {k: v for tg in items if test} -/
def dcL (tg : D → En → Option En) (test ek ev : En → Rs) (vs : List Nat) : List D → En → List (D × D) → Rs
  | [], e, acc => .ok (.ow (.dct acc)) e
  | d :: ds, e, acc => match tg d e with
    | none => .stuck
    | some e1 => match test e1 with
      | .ok (.sh (.bl true)) e2 => (match eTk ek e2 with
        | .ok (.sh k) e3 => (match eTk ev e3 with
          | .ok (.sh y) e4 => if ((keyD k).isSome && decide (acc.length < lim)) = true then dcL tg test ek ev vs ds (wipeE e4 vs) (putD acc k y) else .stuck
          | _ => .stuck)
        | _ => .stuck)
      | .ok (.sh (.bl false)) e2 => dcL tg test ek ev vs ds (wipeE e2 vs) acc
      | _ => .stuck
def eDc (src : En → Is) (tg : D → En → Option En) (test ek ev : En → Rs) (vs : List Nat) : En → Rs := fun e => (src e).bind fun items e1 => dcL tg test ek ev vs items (wipeE e1 vs) []
def RDct (K : PySem.W.Frag) (cd : Nat → Cd) (acc : List (D × D)) : Hp → HO → Prop := fun G o => ∃ vacc, o = .dK vacc ∧ RpK K cd G acc vacc
theorem RDct.mono {acc : List (D × D)} : ∀ G G' o, Same G G' → RDct K cd acc G o → RDct K cd acc G' o := fun _ _ _ s ⟨v, h, r⟩ => ⟨v, h, r.mono s⟩
theorem dc_loop {items : List D} {J : It} {e1 : En} {g : TG} {ws : List Nat} {tg : D → En → Option En} {tt : TT} {test ek ev : En → Rs} (hg : TgD K cd (fun _ => false) ws g tg) (hsub : ∀ i, i ∈ ws → i ∈ vs) (ht : EvT K cd EN tt test) (hk : EvD K cd EN tk ek) (he : EvD K cd EN te ev)
    (g1 : Gd K cd ox H1 G1 e1 σ) (p1 : PinOk P H1 e1 σ) (wk : Wk K cd G1 J P items) (w1 : RsW K cd ox E Q H1 G1 σ e1 (dcL tg test ek ev vs items (wipeE e1 vs) [])) (hD : H1 Dd = none) :
    ∃ W : Nat → Nat → Hp → Prop, (∃ m, W 0 m (upd H1 Dd (.dK []))) ∧ ∀ i m H, W i m H →
      (J.stop i H ∧ Q (.ref Dd) H) ∨ (J.go i H ∧ ∃ Nx : Hp → Prop, (∀ H', Nx H' → ∃ m', m' < m ∧ W (i + 1) m' H') ∧ ∀ x H', J.yld i H x H' → g x (wipe σ vs) H' fun σ2 H2 => wipe σ2 vs = wipe σ vs ∧ tt σ2 H2 fun b H3 =>
        if b = true then tk σ2 H3 fun y H4 => te σ2 H4 fun z H5 => ∃ kvs k, y = kV k ∧ H5 Dd = some (.dK kvs) ∧ kvs.length < sizeLine ∧ Nx (upd H5 Dd (.dK (putK kvs k z))) else Nx H3) := by
  have hf : ∀ b u, H1 b = some u → b ≠ Dd := fun b u h => ne_of_none h hD
  have hpn : ∀ p ∈ P, p.1 ≠ Dd := fun p hp => hf _ _ (p1 p hp).1
  refine ⟨fun i m H' => m = items.length - i ∧ i ≤ items.length ∧ ∃ G' e' acc, CoI K cd ox H1 G1 (Mn e1 σ) σ vs P Dd (RDct K cd acc) H' G' e' ∧ RsW K cd ox E Q H1 G1 σ e1 (dcL tg test ek ev vs (items.drop i) e' acc),
    ⟨items.length, rfl, Nat.zero_le _, G1, wipeE e1 vs, [], .start g1 p1 hD ⟨[], rfl, .nil⟩, w1⟩, ?_⟩
  rintro i m H2 ⟨rfl, hle, G2, e2, acc, c2, w2⟩
  have hse : Same G1 G2 := c2.st.gg
  obtain ⟨j1, j2, j3⟩ := wk i H2 G2 hse c2.g.sub (fun p hp => (c2.pin p hp).1)
  by_cases lt : i < items.length
  · refine .inr ⟨j2 lt, fun H' => ∃ G' e' acc, CoI K cd ox H1 G1 (Mn e1 σ) σ vs P Dd (RDct K cd acc) H' G' e' ∧ RsW K cd ox E Q H1 G1 σ e1 (dcL tg test ek ev vs (items.drop (i + 1)) e' acc),
      fun H' q => ⟨items.length - (i + 1), by omega, rfl, lt, q⟩, fun x H3 y => ?_⟩
    obtain ⟨G3, d, gr, hd, r⟩ := j3 lt x H3 y
    have ed : items.drop i = d :: items.drop (i + 1) := by
      rw [List.drop_eq_getElem_cons lt]
      rw [List.getElem?_eq_getElem lt] at hd
      cases hd; rfl
    rw [ed] at w2
    unfold dcL at w2
    cases q : tg d e2 with
    | none => rw [q] at w2; exact w2.elim
    | some e4 =>
      rw [q] at w2
      refine hg (c2.g.grow gr) r q fun σ4 g4 m4 _ k4' l4 => ?_
      have k4 : ∀ j, j ∉ vs → σ4[j]? = (wipe σ vs)[j]? := fun j h => k4' j (fun z => h (hsub j z))
      refine ⟨wipe_eq l4 k4, tE_if ?_⟩
      refine ht H3 G3 e4 σ4 g4 _ ?_
      have w4 : RsW K cd ox E Q H1 G1 σ e1 (match test e4 with
        | .ok (.sh (.bl true)) e2 => (match eTk ek e2 with
          | .ok (.sh k) e3 => (match eTk ev e3 with
            | .ok (.sh y) e4 => if ((keyD k).isSome && decide (acc.length < lim)) = true then dcL tg test ek ev vs (items.drop (i + 1)) (wipeE e4 vs) (putD acc k y) else .stuck
            | _ => .stuck)
          | _ => .stuck)
        | .ok (.sh (.bl false)) e2 => dcL tg test ek ev vs (items.drop (i + 1)) (wipeE e2 vs) acc
        | _ => .stuck) := w2
      cases qt : test e4 with
      | stuck => rw [qt] at w4; exact w4
      | exc c fs e' => rw [qt] at w4; exact w4.elim
      | ok rr e5 =>
        rw [qt] at w4
        cases rr with
        | sl _ => exact w4.elim
        | ow _ => exact w4.elim
        | sh db =>
          cases db with
          | bl b =>
            intro H5 G5 v g5 s5 rb
            refine ⟨b, rp_bl rb, ?_⟩
            cases b with
            | false =>
              rw [if_neg Bool.false_ne_true]
              exact ⟨G5, wipeE e5 vs, acc, c2.turn RDct.mono gr m4 k4 l4 g5 s5, w4⟩
            | true =>
              rw [if_pos rfl]
              refine ev_tk hk H5 G5 e5 σ4 g5 _ ?_
              have w5 : RsW K cd ox E Q H1 G1 σ e1 (match eTk ek e5 with
                | .ok (.sh k) e3 => (match eTk ev e3 with
                  | .ok (.sh y) e4 => if ((keyD k).isSome && decide (acc.length < lim)) = true then dcL tg test ek ev vs (items.drop (i + 1)) (wipeE e4 vs) (putD acc k y) else .stuck
                  | _ => .stuck)
                | _ => .stuck) := w4
              cases qe : eTk ek e5 with
              | stuck => rw [qe] at w5; exact w5
              | exc c fs e' => rw [qe] at w5; exact w5.elim
              | ok rr e6 =>
                rw [qe] at w5
                cases rr with
                | sl _ => exact w5.elim
                | ow _ => exact w5.elim
                | sh k =>
                  intro H6 G6 vk g6 s6 r6
                  have r6' : Rp K cd G6 k vk := r6
                  refine ev_tk he H6 G6 e6 σ4 g6 _ ?_
                  have w6 : RsW K cd ox E Q H1 G1 σ e1 (match eTk ev e6 with
                    | .ok (.sh y) e4 => if ((keyD k).isSome && decide (acc.length < lim)) = true then dcL tg test ek ev vs (items.drop (i + 1)) (wipeE e4 vs) (putD acc k y) else .stuck
                    | _ => .stuck) := w5
                  cases qv : eTk ev e6 with
                  | stuck => rw [qv] at w6; exact w6
                  | exc c fs e' => rw [qv] at w6; exact w6.elim
                  | ok rr e7 =>
                    rw [qv] at w6
                    cases rr with
                    | sl _ => exact w6.elim
                    | ow _ => exact w6.elim
                    | sh y =>
                      intro H7 G7 v7 g7 s7 r7
                      have r7' : Rp K cd G7 y v7 := r7
                      have w7 : RsW K cd ox E Q H1 G1 σ e1 (if ((keyD k).isSome && decide (acc.length < lim)) = true then dcL tg test ek ev vs (items.drop (i + 1)) (wipeE e7 vs) (putD acc k y) else .stuck) := w6
                      by_cases hl : ((keyD k).isSome && decide (acc.length < lim)) = true
                      · rw [if_pos hl] at w7
                        rw [Bool.and_eq_true, decide_eq_true_eq] at hl
                        obtain ⟨kk, hkk⟩ := Option.isSome_iff_exists.mp hl.1
                        have c7 := c2.turn RDct.mono gr m4 k4 l4 g7 ((s5.trans s6).trans s7)
                        obtain ⟨o, ho, vacc, rfl, racc⟩ := c7.d
                        exact ⟨vacc, kk, keyD_kV (Rp.bv g6.sub r6') hkk, ho, by rw [racc.len]; exact lim_lt hl.2, G7, wipeE e7 vs, putD acc k y, c7.write hpn ⟨_, rfl, racc.put hkk r7'⟩ hf, w7⟩
                      · rw [if_neg hl] at w7; exact w7.elim
          | _ => exact w4.elim
  · obtain rfl : i = items.length := by omega
    refine .inl ⟨j1 (Nat.le_refl _), ?_⟩
    rw [List.drop_length] at w2
    have hl : σ.length = e2.length := by rw [c2.g.len, wipe_length]
    obtain ⟨gb, sb, nm, nb⟩ := c2.back hl
    obtain ⟨o, ho, vacc, rfl, racc⟩ := c2.d
    exact w2 H2 G2 _ gb sb ⟨Dd, rfl, c2.n, ⟨vacc, ho, racc⟩, nm, nb, .inr hD⟩
theorem ev_dc {wi : TI} {src : En → Is} {g : TG} {ws : List Nat} {tg : D → En → Option En} {tt : TT} {test ek ev : En → Rs} (hi : EvI K cd E wi src) (hg : TgD K cd (fun _ => false) ws g tg) (hsub : ∀ i, i ∈ ws → i ∈ vs) (ht : EvT K cd EN tt test) (hk : EvD K cd EN tk ek) (he : EvD K cd EN te ev) :
    EvD K cd E (tDc wi g tt tk te vs) (eDc src tg test ek ev vs) := by
  intro ox H G e σ gd Q w
  exact hi.r gd w fun items e1 H1 G1 J P g1 s1 p1 wk w1 Dd hD => dc_loop hg hsub ht hk he g1 p1 wk w1 hD
end
end Dv
/-! fields, methods, new objects, dicts walked -/
namespace Dv
open PySem PySem.Spec PyProof.Rows L2
open SX (S S_len S_cat)
section
variable {K : PySem.W.Frag} {cd : Nat → Cd} {ox : Addr → Prop} {E : St → XK} {kp : Nat → Bool} {H G H' G' H1 G1 : Hp} {e e1 : En} {σ : St} {Q : VK} {ta tb tc te tk : TE} {a b c : En → Rs} {f : En → Fl}
theorem RpF.lookup {m : Str} {d : D} : ∀ {ns : List Str} {ds : List D} {fs : List (Str × V)} {j : Nat}, RpF K cd G ns ds fs → ns.Nodup → ns[j]? = some m → ds[j]? = some d → ∃ v, fs.lookup m = some v ∧ Rp K cd G d v
  | _, _, _, _, .nil, _, _, h => by simp at h
  | n :: ns, _, _, 0, .cons (v := v) a r, _, h1, h2 => by
    simp at h1 h2; subst h1; subst h2
    exact ⟨v, by rw [List.lookup_cons]; simp, a⟩
  | n :: ns, _, _, j + 1, .cons (v := v) a r, nd, h1, h2 => by
    have nd' := List.nodup_cons.mp nd
    obtain ⟨u, h3, h4⟩ := RpF.lookup r nd'.2 (by simpa using h1) (by simpa using h2)
    refine ⟨u, ?_, h4⟩
    have ne : (m == n) = false := beq_eq_false_iff_ne.mpr fun z => nd'.1 (by
      rw [← z]
      exact List.mem_of_getElem? (i := j) (by simpa using h1))
    rw [List.lookup_cons, ne]
    exact h3
theorem RpF.none {m : Str} : ∀ {ns : List Str} {ds : List D} {fs : List (Str × V)}, RpF K cd G ns ds fs → m ∉ ns → fs.lookup m = none
  | _, _, _, .nil, _ => rfl
  | n :: ns, _, _, .cons a r, h => by
    simp only [List.mem_cons, not_or] at h
    rw [List.lookup_cons, beq_eq_false_iff_ne.mpr h.1]
    exact RpF.none r h.2
theorem RpF.len : ∀ {ns : List Str} {ds : List D} {fs : List (Str × V)}, RpF K cd G ns ds fs → fs.length = ds.length ∧ ds.length ≤ ns.length
  | _, _, _, .nil => ⟨rfl, Nat.zero_le _⟩
  | _ :: _, _, _, .cons _ r => by
    obtain ⟨h1, h2⟩ := RpF.len r
    exact ⟨by rw [List.length_cons, List.length_cons, h1], by rw [List.length_cons, List.length_cons]; omega⟩
def eFld (c j : Nat) (a : En → Rs) : En → Rs := fun e => (pubR (a e)).bind fun r e1 => match rdv e1 r with
  | some (.obj c' ds) => if c' = c then (match ds[j]? with | some d => .ok (.sh d) e1 | none => .stuck) else .stuck
  | _ => .stuck
theorem ev_fld {c j : Nat} {m : Str} (hc : Cls K (cd c).C) (hn : NoAttr K (cd c).C m) (nd : (cd c).fl.Nodup) (hj : (cd c).fl[j]? = some m) (ha : EvD K cd E ta a) : EvD K cd E (tFld K ta m) (eFld c j a) := fun {ox} H G e σ g Q w =>
  ha.seq g (fun r e1 H1 G1 v g1 _ p1 w1 => by
    cases q : rdv e1 r with
    | none => rw [q] at w1; exact w1.elim
    | some d =>
      rw [q] at w1
      cases d with
      | obj c' ds =>
        have w2 : RsW K cd ox E Q H1 G1 σ e1 (if c' = c then (match ds[j]? with | some d => .ok (.sh d) e1 | none => .stuck) else .stuck) := w1
        by_cases hcc : c' = c
        · subst hcc
          rw [if_pos rfl] at w2
          cases qd : ds[j]? with
          | none => rw [qd] at w2; exact w2.elim
          | some d =>
            rw [qd] at w2
            obtain ⟨p, dx, fs, rfl, hp, rf⟩ := bv_obj (g1.rd p1 q)
            obtain ⟨u, hu, ru⟩ := rf.lookup nd hj qd
            exact ⟨p, _, dx, fs, u, rfl, hp, hc, hn, hu, w2 H1 G1 u g1 .refl ru⟩
        · rw [if_neg hcc] at w2; exact w2.elim
      | _ => exact w1.elim) w
/-- self.m = e; self a name of ours -/
def fSetF (i c j : Nat) (a : En → Rs) : En → Fl := fun e => (eTk a e).fl fun r e1 => (match r, e1[i]? with
  | .sh d, some (.ow (.obj c' ds)) => if c' = c then (if j = ds.length then .nx (e1.set i (.ow (.obj c (ds ++ [d])))) else if j < ds.length then .nx (e1.set i (.ow (.obj c (ds.set j d)))) else .stuck) else .stuck
  | _, _ => .stuck)
theorem RpF.putNew {m : Str} {d : D} {v : V} (rv : Rp K cd G d v) : ∀ {ns : List Str} {ds : List D} {fs : List (Str × V)}, RpF K cd G ns ds fs → ns.Nodup → ns[ds.length]? = some m → RpF K cd G ns (ds ++ [d]) (putF m v fs)
  | n :: ns, _, _, .nil, _, h => by
    simp at h; subst h
    exact .cons rv .nil
  | n :: ns, _, _, .cons (ds := ds) a r, nd, h => by
    have nd' := List.nodup_cons.mp nd
    have hm : ns[ds.length]? = some m := by simpa using h
    unfold putF
    have ne : ¬ n = m := fun z => nd'.1 (by rw [z]; exact List.mem_of_getElem? hm)
    rw [if_neg ne]
    exact .cons a (RpF.putNew rv r nd'.2 hm)
theorem RpF.putOld {m : Str} {d : D} {v : V} (rv : Rp K cd G d v) : ∀ {ns : List Str} {ds : List D} {fs : List (Str × V)} {j : Nat}, RpF K cd G ns ds fs → ns.Nodup → ns[j]? = some m → j < ds.length → RpF K cd G ns (ds.set j d) (putF m v fs)
  | _, _, _, _, .nil, _, _, h => by simp at h
  | n :: ns, _, _, 0, .cons a r, _, h, _ => by
    simp at h; subst h
    unfold putF
    rw [if_pos rfl]
    exact .cons rv r
  | n :: ns, _, _, j + 1, .cons a r, nd, h, hl => by
    have nd' := List.nodup_cons.mp nd
    have hm : ns[j]? = some m := by simpa using h
    unfold putF
    have ne : ¬ n = m := fun z => nd'.1 (by rw [z]; exact List.mem_of_getElem? hm)
    rw [if_neg ne]
    exact .cons a (RpF.putOld rv r nd'.2 hm (by simpa using hl))
theorem es_setF {i c j : Nat} {m : Str} (hc : Cls K (cd c).C) (hn : NoAttr K (cd c).C m) (nd : (cd c).fl.Nodup) (hj : (cd c).fl[j]? = some m) (hs : (cd c).fl.length < 1000) (ha : EvD K cd E ta a) : ES K cd E kp (sFld K (tVar i) ta m) (fSetF i c j a) := fun {ox} H G e σ g Z w =>
  EvD.fl (ev_tk ha) g w fun r e1 H1 G1 v g1 s1 r1 w1 => by
    cases r with
    | sl _ => exact w1.elim
    | ow _ => exact w1.elim
    | sh d =>
      cases q1 : e1[i]? with
      | none => simp only [q1] at w1; exact w1.elim
      | some sl1 =>
        cases sl1 with
        | ow d1 =>
          cases d1 with
          | obj c' ds =>
            simp only [q1] at w1
            by_cases hcc : c' = c
            · subst hcc
              rw [if_pos rfl] at w1
              obtain ⟨p, hp, n, dx, fs, hv, rf⟩ := g1.ow i _ q1
              have rd : Rp K cd G1 d v := r1
              have hm : Mn e1 σ p := ⟨i, _, q1, hp⟩
              have lens := rf.len
              have fin : ∀ ds', RpF K cd G1 (cd c').fl ds' (putF m v fs) → FlW K cd ox E kp Z H G σ e (.nx (e1.set i (.ow (.obj c' ds')))) → ∃ a C dx fs, V.ref p = .ref a ∧ H1 a = some (.ins C dx fs) ∧ Cls K C ∧ NoAttr K C m ∧ fs.length < 1000 ∧ Z.nx σ (upd H1 a (.ins C dx (putF m v fs))) := fun ds' rf' w2 => by
                obtain ⟨g3, m3⟩ := g1.upd1 (d' := .obj c' ds') q1 hp (stp_write (a0 := p) (o' := .ins (cd c').C dx (putF m v fs))) (sub_write g1.sub n) n ⟨_, _, upd_same, rf'⟩
                refine ⟨p, _, dx, fs, rfl, hv, hc, hn, by omega, w2 _ G1 σ g3 (s1.trans ⟨fun b o ho mm => ?_, Same.refl _, fun _ _ _ _ h => h, fun b hb => .inl (m3 b hb), al_upd⟩) .refl⟩
                rw [upd_ne (fun z => mm (by rw [z]; exact hm))]; exact ho
              refine ⟨.ref p, hp, ?_⟩
              by_cases h1 : j = ds.length
              · rw [if_pos h1] at w1
                exact fin _ (rf.putNew rd nd (by rw [← h1]; exact hj)) w1
              · rw [if_neg h1] at w1
                by_cases h2 : j < ds.length
                · rw [if_pos h2] at w1
                  exact fin _ (rf.putOld rd nd hj h2) w1
                · rw [if_neg h2] at w1; exact w1.elim
            · rw [if_neg hcc] at w1; exact w1.elim
          | _ => simp only [q1] at w1; exact w1.elim
        | _ => simp only [q1] at w1; exact w1.elim
/-! methods -/
def isObj (c : Nat) : D → Bool
  | .obj c' _ => c' == c
  | _ => false
def eMeth (c : Nat) (ms : List Md) (f : En → Rs) (a : En → Rs) (as : En → As) : En → Rs := fun e => (pubR (a e)).bind fun r e1 => if (match rdv e1 r with | some d => isObj c d | none => false) = true then (as e1).bind fun rs e2 => runF ms f (r :: rs) e2 else .stuck
theorem isObj_at {c : Nat} {r : Rv} {v : V} (g : Gd K cd ox H G e σ) (p : Pd K cd G σ r v) (h : (match rdv e r with | some d => isObj c d | none => false) = true) : ∃ q dx fs ds, v = .ref q ∧ H q = some (.ins (cd c).C dx fs) ∧ RpF K cd G (cd c).fl ds fs := by
  cases q : rdv e r with
  | none => rw [q] at h; cases h
  | some d =>
    rw [q] at h
    cases d with
    | obj c' ds =>
      have hc : c' = c := beq_iff_eq.mp h
      subst hc
      obtain ⟨q, dx, fs, rfl, hp, rf⟩ := bv_obj (g.rd p q)
      exact ⟨q, dx, fs, ds, rfl, hp, rf⟩
    | _ => cases h
theorem ev_methW {c : Nat} {m : Str} {ms : List Md} {f : En → Rs} {as : En → As} {t : TA} {sp : Sp} {E1 : XK} (hm : m ∉ (cd c).fl) (hsp : ∀ {ox : Addr → Prop} {H1 G1 : Hp} {e2 : En} {σ : St} {Q : VK} {rs : List Rv} {vs : List V}, Gd K cd ox H1 G1 e2 σ → PdL K cd G1 σ rs vs → RsW K cd ox E Q H1 G1 σ e2 (runF ms f rs e2) → sp vs H1 Q E1)
    (ha : EvD K cd E ta a) (has : EvA K cd E t as) : EvD K cd E (tMeth (cd c).C m sp [] E1 ta t) (eMeth c ms f a as) := fun {ox} H G e σ g Q w =>
  ha.seq g (fun r e1 H1 G1 v g1 _ p1 w1 => by
    have w1' : RsW K cd ox E Q H1 G1 σ e1 (if (match rdv e1 r with | some d => isObj c d | none => false) = true then (as e1).bind fun rs e2 => runF ms f (r :: rs) e2 else .stuck) := w1
    by_cases hc : (match rdv e1 r with | some d => isObj c d | none => false) = true
    · rw [if_pos hc] at w1'
      obtain ⟨p, dx, fs, ds, rfl, hp, rf⟩ := isObj_at g1 p1 hc
      refine ⟨p, dx, fs, rfl, hp, rf.none hm, has g1 (fun rs e2 H2 G2 vs g2 s2 p2 w2 => ?_) w1'⟩
      rw [List.append_nil]
      exact hsp g2 (.cons (p1.mono s2) p2) w2
    · rw [if_neg hc] at w1'; exact w1'.elim) w
theorem sp_run {ms : List Md} {f : En → Rs} {rs : List Rv} {vs : List V} (g : Gd K cd ox H G e1 σ) (p : PdL K cd G σ rs vs) (w : RsW K cd ox E Q H G σ e1 (runF ms f rs e1)) : spD K cd f vs H Q (E σ) := run_spW g p w
theorem sp_run0 {ms : List Md} {f : En → Rs} {rs : List Rv} {vs : List V} {E1 : XK} (g : Gd K cd ox H G e1 σ) (p : PdL K cd G σ rs vs) (w : RsW K cd ox E Q H G σ e1 (runF ms (fun e => noX (f e)) rs e1)) : spD0 K cd f vs H Q E1 := by
  obtain ⟨ox', G', e', g', w'⟩ := run_spW g p w
  exact ⟨ox', G', e', g', w'.noX⟩
theorem ev_meth {c : Nat} {m : Str} {ms : List Md} {f : En → Rs} {as : En → As} {t : TA} {E' : XK} (hm : m ∉ (cd c).fl) (ha : EvD K cd (fun _ => E') ta a) (has : EvA K cd (fun _ => E') t as) : EvD K cd (fun _ => E') (tMeth (cd c).C m (spD K cd f) [] E' ta t) (eMeth c ms f a as) := ev_methW (sp := spD K cd f) (E := fun _ => E') (E1 := E') hm (fun g p w => sp_run g p w) ha has
theorem ev_meth0 {c : Nat} {m : Str} {ms : List Md} {f : En → Rs} {as : En → As} {t : TA} {E1 : XK} (hm : m ∉ (cd c).fl) (ha : EvD K cd E ta a) (has : EvA K cd E t as) : EvD K cd E (tMeth (cd c).C m (spD0 K cd f) [] E1 ta t) (eMeth c ms (fun e => noX (f e)) a as) := ev_methW (f := fun e => noX (f e)) hm (fun g p w => sp_run0 (f := f) g p w) ha has
/-- a property -/
def eProp (c : Nat) (f : En → Rs) (a : En → Rs) : En → Rs := eMeth c [.bo] f a aNil
theorem ev_prop0 {c : Nat} {f : En → Rs} {E1 : XK} (ha : EvD K cd E ta a) : EvD K cd E (tProp (cd c).C (spD0 K cd f) [] E1 ta) (eProp c (fun e => noX (f e)) a) := fun {ox} H G e σ g Q w =>
  ha.seq g (fun r e1 H1 G1 v g1 _ p1 w1 => by
    have w1' : RsW K cd ox E Q H1 G1 σ e1 (if (match rdv e1 r with | some d => isObj c d | none => false) = true then runF [.bo] (fun e => noX (f e)) [r] e1 else .stuck) := w1
    by_cases hc : (match rdv e1 r with | some d => isObj c d | none => false) = true
    · rw [if_pos hc] at w1'
      obtain ⟨p, dx, fs, ds, rfl, hp, rf⟩ := isObj_at g1 p1 hc
      exact ⟨p, dx, fs, rfl, hp, sp_run0 g1 (.cons p1 .nil) w1'⟩
    · rw [if_neg hc] at w1'; exact w1'.elim) w
/-! new objects -/
theorem Gd.ext (g : Gd K cd ox H G e σ) {c : Nat} {x dx : Addr} (hx : H x = none) (hdx : H dx = none) (ne : dx ≠ x) :
    Gd K cd ox (upd (upd H dx (.own x)) x (.ins (cd c).C dx [])) G (e ++ [.ow (.obj c [])]) (σ ++ [some (.ref x)]) ∧ Gr H G (upd (upd H dx (.own x)) x (.ins (cd c).C dx [])) G := by
  have h2 : (upd H dx (.own x)) x = none := by rw [upd_ne (Ne.symm ne)]; exact hx
  have sm : Same H (upd (upd H dx (.own x)) x (.ins (cd c).C dx [])) := (same_upd hdx).trans (same_upd h2)
  have gr : Gr H G (upd (upd H dx (.own x)) x (.ins (cd c).C dx [])) G := .same g.sub sm
  have g2 := g.grow gr
  have lowE : ∀ (j : Nat) (s : Sl), (e ++ [Sl.ow (.obj c [])])[j]? = some s → (e[j]? = some s ∧ (σ ++ [some (V.ref x)])[j]? = σ[j]?) ∨ (s = .ow (.obj c []) ∧ (σ ++ [some (V.ref x)])[j]? = some (some (.ref x)) ∧ j = e.length) := fun j s h => by
    by_cases z : j < e.length
    · rw [List.getElem?_append_left z] at h
      exact .inl ⟨h, by rw [List.getElem?_append_left (by rw [← g.len]; exact z)]⟩
    · rw [List.getElem?_append_right (by omega)] at h
      have hj : j - e.length = 0 := by
        cases q : j - e.length with
        | zero => rfl
        | succ n => rw [q] at h; simp at h
      rw [hj] at h
      simp at h
      have : j = e.length := by omega
      exact .inr ⟨h.symm, by rw [this, g.len, List.getElem?_append_right (Nat.le_refl _)]; simp, this⟩
  have mn : ∀ a, Mn (e ++ [.ow (.obj c [])]) (σ ++ [some (.ref x)]) a → a = x ∨ Mn e σ a := fun a ⟨j, d, h, q⟩ => by
    rcases lowE j _ h with ⟨h1, h2⟩ | ⟨_, h2, _⟩
    · rw [h2] at q; exact .inr ⟨j, d, h1, q⟩
    · rw [h2] at q; cases q; exact .inl rfl
  have there : ∀ a, Mn e σ a → a ≠ x := fun a ⟨j, d, h, q⟩ z => by
    obtain ⟨b, x1, _, x3⟩ := g.ow j d h
    rw [q] at x1; cases x1
    obtain ⟨o, ho, _⟩ := x3.at
    rw [z, hx] at ho; cases ho
  refine ⟨⟨gr.sub, by rw [List.length_append, List.length_append, g.len]; rfl, fun j d h => ?_, fun j d h => ?_, fun j d h => ?_, g2.old, fun j k d1 d2 b h1 h2 h3 h4 => ?_⟩, gr⟩
  · rcases lowE j _ h with ⟨h1, h2⟩ | ⟨h1, _⟩
    · rw [h2]; exact g2.sh j d h1
    · cases h1
  · rcases lowE j _ h with ⟨h1, h2⟩ | ⟨h1, _⟩
    · rw [h2]
      obtain ⟨b, y1, y2, y3, y4, y5⟩ := g2.bo j d h1
      refine ⟨b, y1, y2, y3, fun q => ?_, y5⟩
      rcases mn b q with z | z
      · obtain ⟨o, ho⟩ := g.old b y5
        rw [z, hx] at ho; cases ho
      · exact y4 z
    · cases h1
  · rcases lowE j _ h with ⟨h1, h2⟩ | ⟨h1, h2, _⟩
    · rw [h2]; exact g2.ow j d h1
    · cases h1
      exact ⟨x, h2, g.sub.some hx, dx, [], upd_same, .nil⟩
  · rcases lowE j _ h1 with ⟨a1, a2⟩ | ⟨_, a2, a3⟩
    · rcases lowE k _ h2 with ⟨b1, b2⟩ | ⟨_, b2, b3⟩
      · rw [a2] at h3; rw [b2] at h4
        exact g.inj j k d1 d2 b a1 b1 h3 h4
      · rw [b2] at h4; cases h4
        rw [a2] at h3
        exact absurd rfl (there x ⟨j, d1, a1, h3⟩)
    · rcases lowE k _ h2 with ⟨b1, b2⟩ | ⟨_, b2, b3⟩
      · rw [a2] at h3; cases h3
        rw [b2] at h4
        exact absurd rfl (there x ⟨k, d2, b1, h4⟩)
      · rw [a3, b3]
/-- behind the making: the object, the caller's slots -/
def madeR (n : Nat) : Rs → Rs
  | .ok (.sh .non) e2 => (match e2[n]? with
    | some (.ow d) => .ok (.ow d) (e2.take n)
    | some (.sh d) => .ok (.sh d) (e2.take n)
    | _ => .stuck)
  | .exc c fs e2 => .exc c fs (e2.take n)
  | _ => .stuck
def mkR (c : Nat) (ms : List Md) (f : En → Rs) (g : List Rv → List Rv) (rs : List Rv) (e1 : En) : Rs := madeR e1.length (runF (.mu :: ms) f (.sl e1.length :: g rs) (e1 ++ [.ow (.obj c [])]))
theorem Gd.cut {x : Addr} {e2 : En} (g : Gd K cd ox H G e2 (σ ++ [some (.ref x)])) : Gd K cd ox H G (e2.take σ.length) σ ∧ ∀ a, Mn (e2.take σ.length) σ a → Mn e2 (σ ++ [some (.ref x)]) a := by
  have low : ∀ (j : Nat) (s : Sl), (e2.take σ.length)[j]? = some s → e2[j]? = some s ∧ σ[j]? = (σ ++ [some (V.ref x)])[j]? := fun j s h => by
    have hj : j < σ.length := by
      have := (List.getElem?_eq_some_iff.mp h).1
      rw [List.length_take] at this
      omega
    rw [List.getElem?_take_of_lt hj] at h
    exact ⟨h, by rw [List.getElem?_append_left hj]⟩
  have mn : ∀ a, Mn (e2.take σ.length) σ a → Mn e2 (σ ++ [some (.ref x)]) a := fun a ⟨j, d, h, q⟩ => by
    obtain ⟨h1, h2⟩ := low j _ h
    rw [h2] at q
    exact ⟨j, d, h1, q⟩
  refine ⟨⟨g.sub, ?_, fun j d h => ?_, fun j d h => ?_, fun j d h => ?_, g.old, fun j k d1 d2 b h1 h2 h3 h4 => ?_⟩, mn⟩
  · rw [List.length_take, g.len, List.length_append]
    exact Nat.min_eq_left (Nat.le_add_right _ _)
  · obtain ⟨h1, h2⟩ := low j _ h
    rw [h2]; exact g.sh j d h1
  · obtain ⟨h1, h2⟩ := low j _ h
    rw [h2]
    obtain ⟨b, y1, y2, y3, y4, y5⟩ := g.bo j d h1
    exact ⟨b, y1, y2, y3, fun q => y4 (mn b q), y5⟩
  · obtain ⟨h1, h2⟩ := low j _ h
    rw [h2]; exact g.ow j d h1
  · obtain ⟨a1, a2⟩ := low j _ h1
    obtain ⟨b1, b2⟩ := low k _ h2
    rw [a2] at h3; rw [b2] at h4
    exact g.inj j k d1 d2 b a1 b1 h3 h4
theorem PdL.ext {rs : List Rv} {vs : List V} {x : V} (p : PdL K cd G σ rs vs) : PdL K cd G (σ ++ [some x]) rs vs := by
  induction p with
  | nil => exact .nil
  | @cons r v rs vs a _ ih =>
    refine .cons ?_ ih
    cases r with
    | sl i =>
      have a' : σ[i]? = some (some v) := a
      show (σ ++ [some x])[i]? = some (some v)
      rw [List.getElem?_append_left (List.getElem?_eq_some_iff.mp a').1]
      exact a'
    | sh d => exact a
    | ow d => exact a
theorem mk_run {c : Nat} {ms : List Md} {f : En → Rs} {rs : List Rv} {vs : List V} {x dx : Addr} (g : Gd K cd ox H G e1 σ) (p : PdL K cd G σ rs vs) (w : RsW K cd ox E Q H G σ e1 (mkR c ms f id rs e1)) (hx : H x = none) (hdx : H dx = none) (ne : dx ≠ x) :
    ∃ ox G e0, Gd K cd ox (upd (upd H dx (.own x)) x (.ins (cd c).C dx [])) G e0 ((.ref x :: vs).map some) ∧ RsW K cd ox (fun _ => E σ) (fun v H2 => v = .non ∧ Q (.ref x) H2) (upd (upd H dx (.own x)) x (.ins (cd c).C dx [])) G ((.ref x :: vs).map some) e0 (f e0) := by
  obtain ⟨g2, gr⟩ := g.ext (c := c) hx hdx ne
  have px : PdL K cd G (σ ++ [some (.ref x)]) (.sl e1.length :: rs) (.ref x :: vs) := .cons (by
    show (σ ++ [some (V.ref x)])[e1.length]? = some (some (.ref x))
    rw [g.len, List.getElem?_append_right (Nat.le_refl _)]; simp) p.ext
  refine run_spW (E := fun _ => E σ) (ms := .mu :: ms) g2 px ?_
  have w' : RsW K cd ox E Q H G σ e1 (madeR e1.length (runF (.mu :: ms) f (.sl e1.length :: rs) (e1 ++ [.ow (.obj c [])]))) := w
  have mnb : ∀ a, Mn (e1 ++ [.ow (.obj c [])]) (σ ++ [some (V.ref x)]) a → a = x ∨ Mn e1 σ a := fun a ⟨j, d, h, q⟩ => by
    by_cases z : j < e1.length
    · rw [List.getElem?_append_left z] at h
      rw [List.getElem?_append_left (by rw [← g.len]; exact z)] at q
      exact .inr ⟨j, d, h, q⟩
    · rw [List.getElem?_append_right (by rw [← g.len]; omega)] at q
      cases hj : j - σ.length with
      | zero => rw [hj] at q; simp at q; exact .inl q.symm
      | succ n => rw [hj] at q; simp at q
  have stp : ∀ {H' G' : Hp} {M' M2 : Addr → Prop}, Stp (upd (upd H dx (.own x)) x (.ins (cd c).C dx [])) G (Mn (e1 ++ [.ow (.obj c [])]) (σ ++ [some (V.ref x)])) H' G' M' → (∀ a, M2 a → M' a) → Stp H G (Mn e1 σ) H' G' M2 := fun {H' G' M' M2} s hm => by
    refine ⟨fun a o h m => s.fr a o (gr.hh a o h) (fun q => ?_), s.gg, fun a o h m z => s.gn a o (gr.hh a o h) (fun q => ?_) z, fun a q => ?_, fun a o h => s.al a o (gr.hh a o h)⟩
    · rcases mnb a q with y | y
      · rw [y, hx] at h; cases h
      · exact m y
    · rcases mnb a q with y | y
      · rw [y, hx] at h; cases h
      · exact m y
    · rcases s.mm a (hm a q) with y | y
      · rcases mnb a y with y | y
        · exact .inr (by rw [y]; exact hx)
        · exact .inl y
      · right
        cases e : H a with
        | none => rfl
        | some o => rw [gr.hh a o e] at y; cases y
  cases q : runF (.mu :: ms) f (.sl e1.length :: rs) (e1 ++ [.ow (.obj c [])]) with
  | stuck => rw [q] at w'; exact w'
  | exc k fs e2 =>
    rw [q] at w'
    intro H' G' od g' s' xw
    obtain ⟨g3, m3⟩ := g'.cut
    have le : e2.take e1.length = e2.take σ.length := by rw [g.len]
    rw [← le] at g3 m3
    refine w' H' G' od g3 (stp s' m3) ?_
    rcases xw with xw | ⟨a, fs', y1, y2, y3⟩
    · exact .inl xw
    · refine .inr ⟨a, fs', y1, ?_, y3⟩
      rcases y2 with y2 | y2
      · rcases mnb a y2 with z | z
        · exact .inr (by rw [z]; exact hx)
        · exact .inl z
      · right
        cases e : H a with
        | none => rfl
        | some o => rw [gr.hh a o e] at y2; cases y2
  | ok r e2 =>
    rw [q] at w'
    cases r with
    | sl _ => exact w'.elim
    | ow _ => exact w'.elim
    | sh d =>
      cases d with
      | non =>
        intro H' G' v g' s' r'
        have hv : v = .non := by cases r'; rfl
        obtain ⟨g3, m3⟩ := g'.cut
        have le : e2.take e1.length = e2.take σ.length := by rw [g.len]
        rw [← le] at g3 m3
        have lx : (σ ++ [some (V.ref x)])[e1.length]? = some (some (.ref x)) := by rw [g.len, List.getElem?_append_right (Nat.le_refl _)]; simp
        refine ⟨hv, ?_⟩
        have w2 : RsW K cd ox E Q H G σ e1 (match e2[e1.length]? with | some (Sl.ow d) => .ok (.ow d) (e2.take e1.length) | some (Sl.sh d) => .ok (.sh d) (e2.take e1.length) | _ => .stuck) := w'
        cases q2 : e2[e1.length]? with
        | none => rw [q2] at w2; exact w2.elim
        | some sl =>
          rw [q2] at w2
          cases sl with
          | no => exact w2.elim
          | bo _ => exact w2.elim
          | sh d =>
            obtain ⟨u, hu, ru⟩ := g'.sh _ d q2
            rw [lx] at hu; cases hu
            exact w2 H' G' _ g3 (stp s' m3) ru
          | ow d =>
            obtain ⟨b, x1, x2, x3⟩ := g'.ow _ d q2
            rw [lx] at x1; cases x1
            have nx : ¬ Mn (e2.take e1.length) σ x := fun ⟨j, d', h, y⟩ => by
              have hj : j < e1.length := by
                have := (List.getElem?_eq_some_iff.mp h).1
                rw [List.length_take] at this
                omega
              rw [List.getElem?_take_of_lt hj] at h
              have := g'.inj j e1.length d' d x h q2 (by rw [List.getElem?_append_left (by rw [← g.len]; exact hj)]; exact y) lx
              omega
            refine w2 H' G' _ g3 (stp s' m3) ⟨x, rfl, x2, x3, nx, fun j d' h y => ?_, .inr hx⟩
            obtain ⟨b, z1, _, _, _, z5⟩ := g3.bo j d' h
            rw [y] at z1; cases z1
            obtain ⟨o, ho⟩ := g.old x z5
            rw [hx] at ho; cases ho
      | _ => exact w'.elim
def eMake (c : Nat) (ms : List Md) (f : En → Rs) (as : En → As) : En → Rs := fun e => (as e).bind fun rs e1 => mkR c ms f id rs e1
theorem ev_make {c : Nat} {ms : List Md} {f : En → Rs} {as : En → As} {t : TA} {E' : XK} (has : EvA K cd (fun _ => E') t as) : EvD K cd (fun _ => E') (tMake (cd c).C (spD K cd f) [] E' t) (eMake c ms f as) := fun {ox} H G e σ g Q w =>
  has g (fun rs e1 H1 G1 vs g1 _ p1 w1 x dx hx hdx ne => by
    rw [List.append_nil]
    exact mk_run g1 p1 w1 hx hdx ne) w
theorem mk_run0 {c : Nat} {ms : List Md} {f : En → Rs} {rs : List Rv} {vs : List V} {x dx : Addr} {E1 : XK} (g : Gd K cd ox H G e1 σ) (p : PdL K cd G σ rs vs) (w : RsW K cd ox E Q H G σ e1 (mkR c ms (fun e => noX (f e)) id rs e1)) (hx : H x = none) (hdx : H dx = none) (ne : dx ≠ x) :
    spD0 K cd f (.ref x :: vs) (upd (upd H dx (.own x)) x (.ins (cd c).C dx [])) (fun v H2 => v = .non ∧ Q (.ref x) H2) E1 := by
  obtain ⟨ox', G', e', g', w'⟩ := mk_run g p w hx hdx ne
  exact ⟨ox', G', e', g', w'.noX⟩
theorem ev_make0 {c : Nat} {ms : List Md} {f : En → Rs} {as : En → As} {t : TA} {E1 : XK} (has : EvA K cd E t as) : EvD K cd E (tMake (cd c).C (spD0 K cd f) [] E1 t) (eMake c ms (fun e => noX (f e)) as) := fun {ox} H G e σ g Q w =>
  has g (fun rs e1 H1 G1 vs g1 _ p1 w1 x dx hx hdx ne => by
    rw [List.append_nil]
    exact mk_run0 g1 p1 w1 hx hdx ne) w
/-- by keywords: the arguments in the parameters' order by gR -/
def eMakeK (c n m : Nat) (ms : List Md) (f : En → Rs) (gR : List Rv → List Rv → List Rv) (as ks : En → As) : En → Rs := fun e => (as e).bind fun rs e1 => (ks e1).bind fun zs e2 => if rs.length = n ∧ zs.length = m then mkR c ms f id (gR rs zs) e2 else .stuck
theorem ev_makeK0 {c n m : Nat} {ms : List Md} {f : En → Rs} {gR : List Rv → List Rv → List Rv} {gV : List V → List V → List V} {as ks : En → As} {t tk : TA} {E1 : XK}
    (hg : ∀ {G : Hp} {σ : St} {rs zs : List Rv} {vs us : List V} {x : V}, rs.length = n → zs.length = m → PdL K cd G σ rs vs → PdL K cd G σ zs us → ∃ ws, gV (x :: vs) us = x :: ws ∧ PdL K cd G σ (gR rs zs) ws)
    (has : EvA K cd E t as) (hks : EvA K cd E tk ks) : EvD K cd E (tMakeK (cd c).C n m (spD0 K cd f) gV E1 t tk) (eMakeK c n m ms (fun e => noX (f e)) gR as ks) := fun {ox} H G e σ g Q w =>
  has g (fun rs e1 H1 G1 vs g1 _ p1 w1 => hks g1 (fun zs e2 H2 G2 us g2 s2 p2 w2 => by
    have w2' : RsW K cd ox E Q H2 G2 σ e2 (if rs.length = n ∧ zs.length = m then mkR c ms (fun e => noX (f e)) id (gR rs zs) e2 else .stuck) := w2
    by_cases hc : rs.length = n ∧ zs.length = m
    · rw [if_pos hc] at w2'
      have p1' := p1.mono s2
      refine ⟨by rw [p1'.len]; exact hc.1, by rw [p2.len]; exact hc.2, fun x dx hx hdx ne => ?_⟩
      obtain ⟨ws, e1', pw⟩ := hg (x := .ref x) hc.1 hc.2 p1' p2
      rw [e1']
      exact mk_run0 g2 pw w2' hx hdx ne
    · rw [if_neg hc] at w2'; exact w2'.elim) w1) w
end
end Dv
/-! dicts walked -/
namespace Dv
open PySem PySem.Spec PyProof.Rows L2
open SX (S S_len S_cat)
section
variable {X : Cx}
theorem ps_or {st : Stmt} {t u : TS} (h : PS X st t) (h' : PS X st u) : PS X st (fun D σ H => t D σ H ∨ u D σ H) := ⟨fun pins s σ H D I w => w.elim (h.run pins s σ H D I) (h'.run pins s σ H D I)⟩
theorem pe_or2 {e : Expr} {t u : TE} (h : PE X e t) (h' : PE X e u) : PE X e (fun σ H Q => t σ H Q ∨ u σ H Q) := ⟨fun pins s σ H Q I w => w.elim (h.run pins s σ H Q I) (h'.run pins s σ H Q I)⟩
def tKeys (t : TS) : TS := fun D σ H => tLock t D σ H ∨ t D σ H
/-- for .. in a dict: under a lock, or the dict is locked already -/
theorem ps_keys {st : Stmt} {t : TS} (h : PS X st t) : PS X st (tKeys t) := ps_or (ps_lock h) h
def tKeysE (t : TE) : TE := fun σ H Q => tLockE t σ H Q ∨ t σ H Q
theorem pe_keys {e : Expr} {t : TE} (h : PE X e t) : PE X e (tKeysE t) := pe_or2 (pe_lock h) h
/-- list(d.items()), the dict locked or not -/
def rItemsR : V → Hp → VK → Prop := fun x H Q => ∃ (d : Addr) (kvs : List (Key × V)), x = .ref d ∧ Rd H d (.dK kvs) ∧
  ∀ (H' : Hp) (p : Addr) (ts : List Addr), (∀ b o, H b = some o → H' b = some o) → H p = none → (∀ t ∈ ts, H t = none) → p ∉ ts → H' p = some (.lst (ts.map V.ref)) → Paired (fun (t : Addr) (q : Key × V) => H' t = some (.tup [kV q.1, q.2])) ts kvs → Q (.ref p) H'
def tListItemsR (te : TE) : TE := fun σ H Q => te σ H fun x H1 => rItemsR x H1 Q
theorem pe_listItemsR {e : Expr} {te : TE} {p apos cpos pos : Pos} (hc : X.calm = true) (he : PE X e te) (hg : Gl X "list") (hm : X.mg "list" = none) (hv : bootBuiltins "list" = some (.type "list")) (hbase : attributeBase e "items" X.env (eval e X.env) = eval e X.env := by rfl) (hline : (apos.endLine == cpos.line) = true := by rfl)
    (hs : starEach [.Call (.Attribute e "items" apos) [] [] cpos] X.env = (false, eval (.Call (.Attribute e "items" apos) [] [] cpos) X.env) :: starEach [] X.env := by rfl) :
    PE X (.Call (.Name "list" p) [.Call (.Attribute e "items" apos) [] [] cpos] [] pos) (tListItemsR te) := by
  refine ⟨fun pins s σ H Q I hq => ?_⟩
  refine wpAny_Call_Name_kw (ld_blt I hg hm hv ?_)
  refine PyProof.Rows.callWith_type1 ?_ hs rfl
  rw [hs]
  show wpAny _ _ (spliced ((false, eval (.Call (.Attribute e "items" apos) [] [] cpos) X.env) :: backTo pos (starEach [] X.env))) _ _ s
  refine Calls.spliced_cons ?_
  refine wpAny_Call_method (T := "dict") (id := "dict.items") hbase rfl hline F.plainAttrs_dict F.slot_dict_items F.type_dict_items (thn (he.run pins s σ H _ I hq) fun u s1 ⟨x, H1, I1, rx, d, kvs, ex, hd, q⟩ => ?_)
  subst ex
  obtain rfl : u = Value.ref d := rx
  obtain ⟨hz, hs0, vs, kv, hdo⟩ := dk_rd I1.hok hd
  obtain ⟨ep, hat⟩ := hdo.dictAt
  have lk : kvs.length = vs.length := Paired.length kv
  have I2 : Inv X pins σ H1 { s1 with heap := s1.heap.push { cls := .type "dict_items", data := .fields #[.ref d] } } := I1.kept (t' := s1.toks) fun b ob q => Heap.get?_push_of_some _ q
  refine ⟨hdo.typeIs, hdo.mapOf.noDict, ?_⟩
  show wpAny _ _ (callWith cpos (.builtin "dict.items") [.ref d] [] []) _ X.xe s1
  refine method_meetsIn F.slot_dict_items F.entry_dict_items rfl (PySem.evalArgs_none ⟨rfl, hdo.typeIs, F.args_dict_items_1 _, _, meets_dict_items (mixKind X.prog X.w) d hs0, ⟨vs, hdo⟩, ?_⟩)
  refine Calls.spliced_nil ?_
  refine PySem.W.kdx_call (knd := mixKind X.prog X.w) (kvs := vs) (ep := ep) (I1.ok.hd hc) ⟨_, Heap.get?_push_size _ rfl, rfl, rfl⟩ (hat.push _) (by omega) fun h' tk acc c as hk hS hl hG hacc => ?_
  obtain ⟨H', k1, k2, k3, k4, k5, k6, J⟩ := LiI.items_laid (tk := tk) I2 hz kv hk hS hl hG hacc
  exact ⟨.ref _, H', J, rfl, q H' _ as k1 k2 k3 k4 k5 k6⟩
end
section
variable {K : PySem.W.Frag} {cd : Nat → Cd} {ox : Addr → Prop} {E : St → XK} {kp : Nat → Bool} {H G H' G' H1 G1 H2 : Hp} {e e1 : En} {σ : St} {Q : VK} {ta tb tc te tk : TE} {a b c : En → Rs} {f : En → Fl} {t : TS} {vs : List Nat}
/-- the same but for locks -/
def Lk (H H2 : Hp) : Prop := ∀ a o, H a = some o → H2 a = some o ∨ ∃ kvs ob, o = .dK kvs ∧ H2 a = some (.frz ob o)
theorem Lk.refl (H : Hp) : Lk H H := fun _ _ h => .inl h
theorem Lk.rd (l : Lk H H2) {a : Addr} {kvs : List (Key × V)} (h : Rd H a (.dK kvs)) : Rd H2 a (.dK kvs) := by
  rcases h with h | ⟨ob, h⟩
  · rcases l a _ h with z | ⟨_, ob, _, z⟩
    · exact .inl z
    · exact .inr ⟨ob, z⟩
  · rcases l a _ h with z | ⟨_, _, z, _⟩
    · exact .inr ⟨ob, z⟩
    · cases z
theorem Lk.lst (l : Lk H H2) {a : Addr} {xs : List V} (h : H a = some (.lst xs)) : H2 a = some (.lst xs) := by
  rcases l a _ h with z | ⟨_, _, z, _⟩
  · exact z
  · cases z
theorem Lk.ins (l : Lk H H2) {a C dx : Addr} {fs : List (Str × V)} (h : H a = some (.ins C dx fs)) : H2 a = some (.ins C dx fs) := by
  rcases l a _ h with z | ⟨_, _, z, _⟩
  · exact z
  · cases z
theorem Lk.tup (l : Lk H H2) {a : Addr} {xs : List V} (h : SqT K H a xs) : SqT K H2 a xs := by
  rcases h with (h | ⟨o, h⟩) | h
  · rcases l a _ h with z | ⟨_, _, z, _⟩
    · exact .inl (.inl z)
    · cases z
  · rcases l a _ h with z | ⟨_, _, z, _⟩
    · exact .inl (.inr ⟨o, z⟩)
    · cases z
  · exact .inr h
theorem Bv.lk (l : Lk H H2) {d : D} {v : V} (h : Bv K cd H G d v) : Bv K cd H2 G d v := by
  cases d with
  | lst ds => obtain ⟨a, vs, x, y, r⟩ := h; exact ⟨a, vs, x, l.lst y, r⟩
  | tup ds => obtain ⟨a, vs, x, y, r, z⟩ := h; exact ⟨a, vs, x, l.tup y, r, z⟩
  | dct ds => obtain ⟨a, vs, x, y, r⟩ := h; exact ⟨a, vs, x, l.rd y, r⟩
  | obj c ds => obtain ⟨a, dx, vs, x, y, r⟩ := h; exact ⟨a, dx, vs, x, l.ins y, r⟩
  | _ => exact h
/-- a value that is there, found without a trace -/
def EvV (K : PySem.W.Frag) (cd : Nat → Cd) (t : TE) (f : En → Option D) : Prop := ∀ {ox : Addr → Prop} {H G : Hp} {e : En} {σ : St} {d : D}, Gd K cd ox H G e σ → f e = some d →
  ∃ v, Bv K cd H G d v ∧ (∀ p, v = .ref p → isM d = true → ¬ Mn e σ p) ∧ ∀ H2, Lk H H2 → Gd K cd ox H2 G e σ → ∀ Q : VK, Q v H2 → t σ H2 Q
def vVar (i : Nat) : En → Option D := fun e => match e[i]? with
  | some (.sh d) => some d
  | some (.bo d) => some d
  | _ => none
theorem Gd.notMn (g : Gd K cd ox H G e σ) {d : D} {p : Addr} (r : Rp K cd G d (.ref p)) (m : isM d = true) : ¬ Mn e σ p := fun ⟨j, d', h1, h2⟩ => by
  obtain ⟨b, x1, x2, x3⟩ := g.ow j d' h1
  rw [h2] at x1; cases x1
  obtain ⟨a', o, e1, e2⟩ := rp_ref r m
  cases e1
  rw [x2] at e2; cases e2
theorem vv_var {i : Nat} : EvV K cd (tVar i) (vVar i) := fun {ox H G e σ d} g h => by
  unfold vVar at h
  cases q : e[i]? with
  | none => simp only [q] at h; cases h
  | some s =>
    simp only [q] at h
    cases s with
    | no => cases h
    | ow _ => cases h
    | sh d' =>
      cases h
      obtain ⟨v, x, r⟩ := g.sh i _ q
      exact ⟨v, Rp.bv g.sub r, fun p hp m => by subst hp; exact g.notMn r m, fun H2 _ _ Q k => ⟨v, x, k⟩⟩
    | bo d' =>
      cases h
      obtain ⟨b, x, y, m, nm, _⟩ := g.bo i _ q
      exact ⟨.ref b, y, fun p hp _ => by cases hp; exact nm, fun H2 _ _ Q k => ⟨_, x, k⟩⟩
def vC (d : D) : En → Option D := fun _ => some d
theorem vv_c {v : V} {d : D} (h : ∀ G, Rp K cd G d v) : EvV K cd (tC v) (vC d) := fun {ox H G e σ d'} g q => by
  cases q
  exact ⟨v, Rp.bv g.sub (h G), fun p hp m => by subst hp; exact g.notMn (h G) m, fun H2 _ _ Q k => k⟩
def dIxV : D → D → Option D
  | .lst ds, .int i => atI ds i
  | .tup ds, .int i => atI ds i
  | .dct kvs, k => if (keyD k).isSome = true then getD kvs k else none
  | _, _ => none
def vIx (x y : En → Option D) : En → Option D := fun e => (x e).bind fun d => (y e).bind fun k => dIxV d k
theorem vv_ix {x y : En → Option D} (hx : EvV K cd ta x) (hy : EvV K cd tb y) : EvV K cd (tOp (rIxA K) ta tb) (vIx x y) := fun {ox H G e σ d} g h => by
  obtain ⟨d0, h0, h⟩ := bind_some h
  obtain ⟨k, hk, h⟩ := bind_some h
  obtain ⟨v0, b0, _, r0⟩ := hx g h0
  obtain ⟨w0, c0, _, s0⟩ := hy g hk
  have fin : ∀ u, Rp K cd G d u → (∀ H2, Lk H H2 → ∀ Q : VK, Q u H2 → rIxA K v0 w0 H2 Q) → ∃ v, Bv K cd H G d v ∧ (∀ p, v = .ref p → isM d = true → ¬ Mn e σ p) ∧ ∀ H2, Lk H H2 → Gd K cd ox H2 G e σ → ∀ Q : VK, Q v H2 → tOp (rIxA K) ta tb σ H2 Q := fun u ru k =>
    ⟨u, Rp.bv g.sub ru, fun p hp m => by subst hp; exact g.notMn ru m, fun H2 l g2 Q q => r0 H2 l g2 _ (s0 H2 l g2 _ (k H2 l Q q))⟩
  cases d0 with
  | lst ds => cases k with
    | int i =>
      obtain ⟨p, us, rfl, e1, r⟩ := b0
      obtain ⟨u, hu, ru⟩ := r.atI h
      exact fin u ru fun H2 l Q q => .inl ⟨p, us, i, u, rfl, bv_int c0, SqL.of (l.lst e1), hu, q⟩
    | _ => cases h
  | tup ds => cases k with
    | int i =>
      obtain ⟨p, us, rfl, e1, r, _⟩ := b0
      obtain ⟨u, hu, ru⟩ := r.atI h
      exact fin u ru fun H2 l Q q => .inr (.inl ⟨p, us, i, u, rfl, bv_int c0, l.tup e1, hu, q⟩)
    | _ => cases h
  | dct kvs =>
    have h' : (if (keyD k).isSome = true then getD kvs k else none) = some d := by cases k <;> exact h
    obtain ⟨h1, h2⟩ := if_some h'
    obtain ⟨kk, hkk⟩ := Option.isSome_iff_exists.mp h1
    obtain ⟨p, us, rfl, e1, r⟩ := b0
    rcases r.get hkk with ⟨g1, _⟩ | ⟨d', u, g1, g2, g3⟩
    · rw [h2] at g1; cases g1
    · rw [h2] at g1; cases g1
      exact fin u g3 fun H2 l Q q => .inr (.inr (.inr ⟨p, u, rfl, by rw [keyD_kV c0 hkk, ← g2]; exact DGet.rd (l.rd e1), q⟩))
  | _ => cases h
def vFld (c j : Nat) (x : En → Option D) : En → Option D := fun e => (x e).bind fun d => match d with
  | .obj c' ds => if c' = c then ds[j]? else none
  | _ => none
theorem vv_fld {c j : Nat} {m : Str} {x : En → Option D} (hc : Cls K (cd c).C) (hn : NoAttr K (cd c).C m) (nd : (cd c).fl.Nodup) (hj : (cd c).fl[j]? = some m) (hx : EvV K cd ta x) : EvV K cd (tFld K ta m) (vFld c j x) := fun {ox H G e σ d} g h => by
  obtain ⟨d0, h0, h⟩ := bind_some h
  obtain ⟨v0, b0, _, r0⟩ := hx g h0
  cases d0 with
  | obj c' ds =>
    have h' : (if c' = c then ds[j]? else none) = some d := h
    obtain ⟨hcc, h2⟩ := if_some h'
    subst hcc
    obtain ⟨p, dx, fs, rfl, hp, rf⟩ := bv_obj b0
    obtain ⟨u, hu, ru⟩ := rf.lookup nd hj h2
    exact ⟨u, Rp.bv g.sub ru, fun p hp m => by subst hp; exact g.notMn ru m, fun H2 l g2 Q q => r0 H2 l g2 _ ⟨p, _, dx, fs, u, rfl, l.ins hp, hc, hn, hu, q⟩⟩
  | _ => cases h
/-! the lock -/
theorem lk_lock {p : Addr} {kvs : List (Key × V)} {ob : Obj} (h : H p = some (.dK kvs)) : Lk H (upd H p (.frz ob (.dK kvs))) := fun a o ha => by
  by_cases z : a = p
  · subst z
    rw [h] at ha; cases ha
    exact .inr ⟨kvs, ob, rfl, upd_same⟩
  · exact .inl (by rw [upd_ne z]; exact ha)
theorem Gd.lock (g : Gd K cd ox H G e σ) {p : Addr} {kvs : List (Key × V)} {ob : Obj} (h : H p = some (.dK kvs)) (nm : ¬ Mn e σ p) : Gd K cd ox (upd H p (.frz ob (.dK kvs))) G e σ := by
  have l := lk_lock (ob := ob) h
  refine ⟨fun a o ha => ?_, g.len, g.sh, fun j d q => ?_, fun j d q => ?_, fun a q => ?_, g.inj⟩
  · rcases g.sub a o ha with z | ⟨k, ob', z1, z2⟩
    · exact l a o z
    · rcases l a _ z2 with y | ⟨_, _, y, _⟩
      · exact .inr ⟨k, ob', z1, y⟩
      · cases y
  · obtain ⟨b, x, y, m, n, o⟩ := g.bo j d q
    exact ⟨b, x, y.lk l, m, n, o⟩
  · obtain ⟨b, x, y, w⟩ := g.ow j d q
    have nb : b ≠ p := fun z => nm ⟨j, d, q, by rw [← z]; exact x⟩
    exact ⟨b, x, y, w.mono (fun o q => by rw [upd_ne nb]; exact q) (Same.refl _)⟩
  · obtain ⟨o, ho⟩ := g.old a q
    exact al_upd a o ho
/-- back behind the lock -/
theorem Gd.unlock {p : Addr} {kvs : List (Key × V)} {ob : Obj} {e' : En} {σ' : St} (g : Gd K cd ox H G e σ) (h : H p = some (.dK kvs)) (nm : ¬ Mn e σ p) (s : Stp (upd H p (.frz ob (.dK kvs))) G (Mn e σ) H' G' (Mn e' σ')) (g' : Gd K cd ox H' G' e' σ') :
    H' p = some (.frz ob (.dK kvs)) ∧ Gd K cd ox (upd H' p (.dK kvs)) G' e' σ' ∧ Stp H G (Mn e σ) (upd H' p (.dK kvs)) G' (Mn e' σ') ∧ ∀ a d, Ow K cd H' G' d a → Ow K cd (upd H' p (.dK kvs)) G' d a := by
  have hp : H' p = some (.frz ob (.dK kvs)) := s.fr _ _ upd_same nm
  have ne : ∀ a d, Ow K cd H' G' d a → a ≠ p := fun a d w z => by
    subst z
    cases d with
    | lst ds => obtain ⟨_, y, _⟩ := w; rw [hp] at y; cases y
    | dct ds => obtain ⟨_, y, _⟩ := w; rw [hp] at y; cases y
    | obj c ds => obtain ⟨_, _, y, _⟩ := w; rw [hp] at y; cases y
    | _ => exact w.elim
  have ow' : ∀ a d, Ow K cd H' G' d a → Ow K cd (upd H' p (.dK kvs)) G' d a := fun a d w => w.mono (fun o q => by rw [upd_ne (ne a d w)]; exact q) (Same.refl _)
  have gp : ∀ o, G' p = some o → o = .dK kvs := fun o ho => by
    cases q : G p with
    | none =>
      have := s.gn p _ upd_same nm q
      rw [ho] at this; cases this
    | some o' =>
      have h1 := s.gg _ _ q
      rw [ho] at h1; cases h1
      rcases g.sub p _ q with z | ⟨_, _, _, z⟩
      · rw [h] at z; cases z; rfl
      · rw [h] at z; cases z
  refine ⟨hp, ⟨fun a o ha => ?_, g'.len, g'.sh, fun j d q => ?_, fun j d q => ?_, fun a q => ?_, g'.inj⟩, ⟨fun a o ha m => ?_, s.gg, fun a o ha m z => ?_, fun a q => ?_, fun a o ha => ?_⟩, ow'⟩
  · by_cases z : a = p
    · subst z
      rw [gp o ha]
      exact .inl upd_same
    · rw [upd_ne z]; exact g'.sub a o ha
  · obtain ⟨b, x, y, m, n, o⟩ := g'.bo j d q
    refine ⟨b, x, ?_, m, n, o⟩
    by_cases z : b = p
    · subst z
      cases d with
      | lst ds => obtain ⟨_, _, e1, e2, _⟩ := y; cases e1; rw [hp] at e2; cases e2
      | dct ds =>
        obtain ⟨_, kv2, e1, e2, r⟩ := y
        cases e1
        rcases e2 with e2 | ⟨_, e2⟩
        · rw [hp] at e2; cases e2
        · rw [hp] at e2; cases e2
          exact ⟨_, _, rfl, .inl upd_same, r⟩
      | obj c ds => obtain ⟨_, _, _, e1, e2, _⟩ := y; cases e1; rw [hp] at e2; cases e2
      | _ => cases m
    · exact y.step m (fun o q => by rw [upd_ne z]; exact q) (Same.refl _)
  · obtain ⟨b, x, y, w⟩ := g'.ow j d q
    exact ⟨b, x, y, ow' b d w⟩
  · obtain ⟨o, ho⟩ := g'.old a q
    exact al_upd a o ho
  · by_cases z : a = p
    · subst z; rw [h] at ha; cases ha; exact upd_same
    · rw [upd_ne z]; exact s.fr a o (by rw [upd_ne z]; exact ha) m
  · by_cases y : a = p
    · subst y; exact s.gn a _ upd_same nm z
    · exact s.gn a o (by rw [upd_ne y]; exact ha) m z
  · rcases s.mm a q with z | z
    · exact .inl z
    · right
      by_cases y : a = p
      · subst y; rw [upd_same] at z; cases z
      · rw [upd_ne y] at z; exact z
  · by_cases z : a = p
    · exact ⟨_, by rw [z]; exact upd_same⟩
    · obtain ⟨o', ho'⟩ := s.al a o (by rw [upd_ne z]; exact ha)
      exact al_upd a o' ho'
/-- the keys walked -/
theorem RpK.wk {p : Addr} {ob : Obj} {kvs : List (Key × V)} {ds : List (D × D)} (r : RpK K cd G ds kvs) : Wk K cd G (Itk p ob kvs) [(p, .frz ob (.dK kvs))] (ds.map (·.1)) := fun i H2 G2 sg sb pin => by
  have hp := pin _ (List.mem_singleton.mpr rfl)
  have hl : kvs.length = ds.length := r.len
  refine ⟨fun z => ⟨hp, by rw [List.length_map] at z; omega⟩, fun z => ⟨hp, by rw [List.length_map] at z; omega⟩, fun z x H3 ⟨e1, k, v, e2, e3⟩ => ?_⟩
  subst e1; subst e3
  have e4 : (kvs.map fun kv => kV kv.1)[i]? = some (kV k) := by rw [List.getElem?_map, e2]; rfl
  obtain ⟨d, hd, rd⟩ := r.keys.atV e4
  exact ⟨G2, d, .refl sb, hd, rd.mono sg⟩
theorem rp_key {q : D} {k : Key} (h : keyD q = some k) : Rp K cd G q (kV k) := by
  cases q <;> cases h
  · exact .int _
  · exact .str _
theorem RpK.atK {k : Key} {v : V} : ∀ {ds : List (D × D)} {kvs : List (Key × V)} {i : Nat}, RpK K cd G ds kvs → kvs[i]? = some (k, v) → ∃ q d, ds[i]? = some (q, d) ∧ Rp K cd G q (kV k) ∧ Rp K cd G d v
  | _, _, _, .nil, h => by simp at h
  | (q, d) :: ds, (k', v') :: kvs, 0, .cons hk a t, h => by
    simp at h
    obtain ⟨rfl, rfl⟩ := h
    exact ⟨q, d, rfl, rp_key hk, a⟩
  | (q, d) :: ds, (k', v') :: kvs, i + 1, .cons hk a t, h => by
    obtain ⟨q', d', h1, h2⟩ := RpK.atK t (i := i) (by simpa using h)
    exact ⟨q', d', by simpa using h1, h2⟩
/-- the items walked: pairs -/
theorem RpK.wkI {p : Addr} {ob : Obj} {kvs : List (Key × V)} {ds : List (D × D)} (r : RpK K cd G ds kvs) : Wk K cd G (Iti p ob kvs) [(p, .frz ob (.dK kvs))] (ds.map fun q => .tup [q.1, q.2]) := fun i H2 G2 sg sb pin => by
  have hp := pin _ (List.mem_singleton.mpr rfl)
  have hl : kvs.length = ds.length := r.len
  refine ⟨fun z => ⟨hp, by rw [List.length_map] at z; omega⟩, fun z => ⟨hp, by rw [List.length_map] at z; omega⟩, fun z x H3 ⟨T, k, v, e2, e3, e4, e5⟩ => ?_⟩
  subst e3; subst e5
  obtain ⟨q, d, hd, rq, rd⟩ := r.atK e2
  have gr : Gr H2 G2 (upd H2 T (.tup [kV k, v])) (upd G2 T (.tup [kV k, v])) := .newS sb e4
  exact ⟨_, .tup [q, d], gr, by rw [List.getElem?_map, hd]; rfl, .tup upd_same (.cons (rq.mono (sg.trans gr.gg)) (.cons (rd.mono (sg.trans gr.gg)) .nil))⟩
def noXF : Fl → Fl
  | .exc _ _ _ => .stuck
  | r => r
/-- for tg in x: the keys; for tg in x.items(): the pairs -/
def fKeys (pr : List (D × D) → List D) (x : En → Option D) (tg : D → En → Option En) (f : En → Fl) : En → Fl := fun e => match x e with
  | some (.dct kvs) => noXF (forL tg f (pr kvs) e)
  | _ => .stuck
theorem FlW.ofNoX {Z : Ends} {r : Fl} (w : FlW K cd ox E kp Z H G σ e (noXF r)) : FlW K cd ox E kp Z H G σ e r := by
  cases r with
  | exc c fs e' => exact w.elim
  | _ => exact w
/-- the same wish, seen under the lock -/
theorem FlW.lock {Z : Ends} {r : Fl} {p : Addr} {kvs : List (Key × V)} {ob : Obj} (g : Gd K cd ox H G e σ) (h : H p = some (.dK kvs)) (nm : ¬ Mn e σ p) (w : FlW K cd ox E kp Z H G σ e (noXF r)) :
    FlW K cd ox E kp ⟨fun σ' H' => H' p = some (.frz ob (.dK kvs)) ∧ Z.nx σ' (upd H' p (.dK kvs)), fun v H' => H' p = some (.frz ob (.dK kvs)) ∧ Z.rt v (upd H' p (.dK kvs)), fun σ' H' => H' p = some (.frz ob (.dK kvs)) ∧ Z.bk σ' (upd H' p (.dK kvs)), fun σ' H' => H' p = some (.frz ob (.dK kvs)) ∧ Z.ct σ' (upd H' p (.dK kvs))⟩ (upd H p (.frz ob (.dK kvs))) G σ e r := by
  cases r with
  | stuck => exact w
  | exc c fs e' => exact w.elim
  | nx e' => exact fun H' G' σ' g' s' k' => let ⟨x1, x2, x3, _⟩ := g.unlock h nm s' g'; ⟨x1, w _ G' σ' x2 x3 k'⟩
  | bk e' => exact fun H' G' σ' g' s' k' => let ⟨x1, x2, x3, _⟩ := g.unlock h nm s' g'; ⟨x1, w _ G' σ' x2 x3 k'⟩
  | ct e' => exact fun H' G' σ' g' s' k' => let ⟨x1, x2, x3, _⟩ := g.unlock h nm s' g'; ⟨x1, w _ G' σ' x2 x3 k'⟩
  | rt r e' =>
    intro H' G' σ' v g' s' k' rw'
    obtain ⟨x1, x2, x3, x4⟩ := g.unlock h nm s' g'
    refine ⟨x1, w _ G' σ' v x2 x3 k' ?_⟩
    cases r with
    | sl i => exact rw'
    | sh d => exact rw'
    | ow d =>
      obtain ⟨a, h1, h2, h3, h4, h5, h6⟩ := rw'
      refine ⟨a, h1, h2, x4 a d h3, h4, h5, h6.imp id fun z => ?_⟩
      by_cases y : a = p
      · subst y; rw [upd_same] at z; cases z
      · rw [upd_ne y] at z; exact z
/-- how a walk of a dict starts -/
structure WkD (K : PySem.W.Frag) (cd : Nat → Cd) (td : TE) (wi : TI) (J : Addr → Obj → List (Key × V) → It) (pr : List (D × D) → List D) : Prop where
  go : ∀ {σ : St} {H : Hp} {R : It → Hp → Prop} {p : Addr} {ob : Obj} {kvs : List (Key × V)}, (∀ Q : VK, Q (.ref p) H → td σ H Q) → H p = some (.frz ob (.dK kvs)) → R (J p ob kvs) H → wi σ H R
  wk : ∀ {G : Hp} {p : Addr} {ob : Obj} {kvs : List (Key × V)} {ds : List (D × D)}, RpK K cd G ds kvs → Wk K cd G (J p ob kvs) [(p, .frz ob (.dK kvs))] (pr ds)
theorem wkd_keys {td : TE} : WkD K cd td (iKeys td) Itk (fun ds => ds.map (·.1)) := ⟨fun h hp r => h _ ⟨_, _, rfl, .inl ⟨_, hp, r⟩⟩, fun r => r.wk⟩
theorem wkd_items {td : TE} : WkD K cd td (iItems td) Iti (fun ds => ds.map fun q => .tup [q.1, q.2]) := ⟨fun h hp r => h _ ⟨_, _, _, rfl, hp, r⟩, fun r => r.wkI⟩
theorem es_keys {td : TE} {wi : TI} {J : Addr → Obj → List (Key × V) → It} {pr : List (D × D) → List D} {x : En → Option D} {g : TG} {tg : D → En → Option En} (hw : WkD K cd td wi J pr) (hx : EvV K cd td x) (hg : TgD K cd kp vs g tg) (hf : ES K cd E kp t f) : ES K cd E kp (tKeys (tFor wi g t)) (fKeys pr x tg f) := by
  intro ox H G e σ gd Z w
  unfold fKeys at w
  cases q : x e with
  | none => rw [q] at w; exact w.elim
  | some d =>
    rw [q] at w
    cases d with
    | dct ds =>
      obtain ⟨v, ⟨p, kvs, rfl, hp, rk⟩, nm, run⟩ := hx gd q
      have nm' := nm p rfl rfl
      rcases hp with hp | ⟨ob, hp⟩
      · refine .inl ⟨p, .dK kvs, hp, True.intro, fun ob => ?_⟩
        have g1 := gd.lock (ob := ob) hp nm'
        have w1 := FlW.lock (ob := ob) gd hp nm' w
        refine hw.go (fun Q k => run _ (lk_lock hp) g1 Q k) upd_same ?_
        exact for_loop hg hf g1 (fun z hz => by rw [List.mem_singleton.mp hz]; exact ⟨upd_same, nm'⟩) (hw.wk rk) w1
      · refine .inr (hw.go (fun Q k => run _ (Lk.refl H) gd Q k) hp ?_)
        exact for_loop hg hf gd (fun z hz => by rw [List.mem_singleton.mp hz]; exact ⟨hp, nm'⟩) (hw.wk rk) (FlW.ofNoX w)
    | _ => exact w.elim
/-! comprehensions over a dict -/
def noXR : Rs → Rs
  | .exc _ _ _ => .stuck
  | r => r
theorem RsW.ofNoX {r : Rs} (w : RsW K cd ox E Q H G σ e (noXR r)) : RsW K cd ox E Q H G σ e r := by
  cases r with
  | exc c fs e' => exact w.elim
  | _ => exact w
theorem RsW.lock {r : Rs} {p : Addr} {kvs : List (Key × V)} {ob : Obj} (g : Gd K cd ox H G e σ) (h : H p = some (.dK kvs)) (nm : ¬ Mn e σ p) (w : RsW K cd ox E Q H G σ e (noXR r)) :
    RsW K cd ox E (fun v H' => H' p = some (.frz ob (.dK kvs)) ∧ Q v (upd H' p (.dK kvs))) (upd H p (.frz ob (.dK kvs))) G σ e r := by
  cases r with
  | stuck => exact w
  | exc c fs e' => exact w.elim
  | ok r e' =>
    intro H' G' v g' s' rw'
    obtain ⟨x1, x2, x3, x4⟩ := g.unlock h nm s' g'
    refine ⟨x1, w _ G' v x2 x3 ?_⟩
    cases r with
    | sl i => exact rw'
    | sh d => exact rw'
    | ow d =>
      obtain ⟨a, h1, h2, h3, h4, h5, h6⟩ := rw'
      refine ⟨a, h1, h2, x4 a d h3, h4, h5, h6.imp id fun z => ?_⟩
      by_cases y : a = p
      · subst y; rw [upd_same] at z; cases z
      · rw [upd_ne y] at z; exact z
def eLcK (pr : List (D × D) → List D) (x : En → Option D) (tg : D → En → Option En) (test elt : En → Rs) (vs : List Nat) : En → Rs := fun e => match x e with
  | some (.dct kvs) => noXR (lcL tg test elt vs (pr kvs) (wipeE e vs) [])
  | _ => .stuck
theorem ev_lcK {td : TE} {wi : TI} {J : Addr → Obj → List (Key × V) → It} {pr : List (D × D) → List D} {x : En → Option D} {g : TG} {ws : List Nat} {tg : D → En → Option En} {tt : TT} {test elt : En → Rs} (hw : WkD K cd td wi J pr) (hx : EvV K cd td x) (hg : TgD K cd (fun _ => false) ws g tg) (hsub : ∀ i, i ∈ ws → i ∈ vs) (ht : EvT K cd EN tt test) (he : EvD K cd EN te elt) :
    EvD K cd E (tKeysE (tLc wi g tt te vs)) (eLcK pr x tg test elt vs) := by
  intro ox H G e σ gd Q w
  unfold eLcK at w
  cases q : x e with
  | none => rw [q] at w; exact w.elim
  | some d =>
    rw [q] at w
    cases d with
    | dct ds =>
      obtain ⟨v, ⟨p, kvs, rfl, hp, rk⟩, nm, run⟩ := hx gd q
      have nm' := nm p rfl rfl
      rcases hp with hp | ⟨ob, hp⟩
      · refine .inl ⟨p, .dK kvs, hp, True.intro, fun ob => ?_⟩
        have g1 := gd.lock (ob := ob) hp nm'
        have w1 := RsW.lock (ob := ob) gd hp nm' w
        refine hw.go (fun Q k => run _ (lk_lock hp) g1 Q k) upd_same fun Dd hD => ?_
        exact lc_loop hg hsub ht he g1 (fun z hz => by rw [List.mem_singleton.mp hz]; exact ⟨upd_same, nm'⟩) (hw.wk rk) w1 hD
      · refine .inr (hw.go (fun Q k => run _ (Lk.refl H) gd Q k) hp fun Dd hD => ?_)
        exact lc_loop hg hsub ht he gd (fun z hz => by rw [List.mem_singleton.mp hz]; exact ⟨hp, nm'⟩) (hw.wk rk) (RsW.ofNoX w) hD
    | _ => exact w.elim
def eDcK (pr : List (D × D) → List D) (x : En → Option D) (tg : D → En → Option En) (test ek ev : En → Rs) (vs : List Nat) : En → Rs := fun e => match x e with
  | some (.dct kvs) => noXR (dcL tg test ek ev vs (pr kvs) (wipeE e vs) [])
  | _ => .stuck
theorem ev_dcK {td : TE} {wi : TI} {J : Addr → Obj → List (Key × V) → It} {pr : List (D × D) → List D} {x : En → Option D} {g : TG} {ws : List Nat} {tg : D → En → Option En} {tt : TT} {test ek ev : En → Rs} (hw : WkD K cd td wi J pr) (hx : EvV K cd td x) (hg : TgD K cd (fun _ => false) ws g tg) (hsub : ∀ i, i ∈ ws → i ∈ vs) (ht : EvT K cd EN tt test) (hk : EvD K cd EN tk ek) (he : EvD K cd EN te ev) :
    EvD K cd E (tKeysE (tDc wi g tt tk te vs)) (eDcK pr x tg test ek ev vs) := by
  intro ox H G e σ gd Q w
  unfold eDcK at w
  cases q : x e with
  | none => rw [q] at w; exact w.elim
  | some d =>
    rw [q] at w
    cases d with
    | dct ds =>
      obtain ⟨v, ⟨p, kvs, rfl, hp, rk⟩, nm, run⟩ := hx gd q
      have nm' := nm p rfl rfl
      rcases hp with hp | ⟨ob, hp⟩
      · refine .inl ⟨p, .dK kvs, hp, True.intro, fun ob => ?_⟩
        have g1 := gd.lock (ob := ob) hp nm'
        have w1 := RsW.lock (ob := ob) gd hp nm' w
        refine hw.go (fun Q k => run _ (lk_lock hp) g1 Q k) upd_same fun Dd hD => ?_
        exact dc_loop hg hsub ht hk he g1 (fun z hz => by rw [List.mem_singleton.mp hz]; exact ⟨upd_same, nm'⟩) (hw.wk rk) w1 hD
      · refine .inr (hw.go (fun Q k => run _ (Lk.refl H) gd Q k) hp fun Dd hD => ?_)
        exact dc_loop hg hsub ht hk he gd (fun z hz => by rw [List.mem_singleton.mp hz]; exact ⟨hp, nm'⟩) (hw.wk rk) (RsW.ofNoX w) hD
    | _ => exact w.elim
end
end Dv
/-! more operations: order, small calls, texts, items set, pop, unpacking, sorted, isinstance -/
namespace Dv
open PySem PySem.Spec PyProof.Rows L2
open SX (S S_len S_cat)
section
variable {K : PySem.W.Frag} {cd : Nat → Cd} {ox : Addr → Prop} {E : St → XK} {kp : Nat → Bool} {H G H' G' H1 G1 : Hp} {e e1 : En} {σ : St} {Q : VK} {X : Cx} {ta tb : TE} {a b : En → Rs}
abbrev dLt := dCmp (fun i j => decide (i < j)) fun a b => decide (a < b)
abbrev dLe := dCmp (fun i j => decide (i ≤ j)) fun a b => !decide (b < a)
abbrev dGt := dCmp (fun i j => decide (j < i)) fun a b => decide (b < a)
abbrev dGe := dCmp (fun i j => decide (j ≤ i)) fun a b => !decide (a < b)
def kpL (l : List Nat) : Nat → Bool := fun i => l.contains i
def dAbs : List D → Option Rv
  | [.int i] => some (.sh (.int (if i < 0 then -i else i)))
  | _ => none
theorem ol_abs : OL K cd (fun xs H Q => ∃ i, xs = [.int i] ∧ Q (.int (if i < 0 then -i else i)) H) dAbs := by
  intro H G ds vs z s b h Q q
  match ds, h with
  | [.int i], h =>
    cases h
    obtain ⟨v, rfl, bv⟩ := bvl1 b
    exact ⟨i, by rw [bv_int bv], Rz.sh s (.int _) q⟩
def dInt : List D → Option Rv
  | [.int i] => some (.sh (.int i))
  | _ => none
theorem ol_int : OL K cd (fun xs H Q => (∃ i, xs = [.int i] ∧ Q (.int i) H) ∨ ∃ k, xs = [.bl k] ∧ Q (.int (if k then 1 else 0)) H) dInt := by
  intro H G ds vs z s b h Q q
  match ds, h with
  | [.int i], h =>
    cases h
    obtain ⟨v, rfl, bv⟩ := bvl1 b
    exact .inl ⟨i, by rw [bv_int bv], Rz.sh s (.int _) q⟩
def dMin2 : List D → Option Rv
  | [.int i, .int j] => some (.sh (.int (if j < i then j else i)))
  | _ => none
def dMax2 : List D → Option Rv
  | [.int i, .int j] => some (.sh (.int (if j > i then j else i)))
  | _ => none
theorem ol_min2 : OL K cd (fun xs H Q => ∃ i j, xs = [.int i, .int j] ∧ Q (.int (if j < i then j else i)) H) dMin2 := by
  intro H G ds vs z s b h Q q
  match ds, h with
  | [.int i, .int j], h =>
    cases h
    obtain ⟨v, w, rfl, b1, b2⟩ := bvl2 b
    exact ⟨i, j, by rw [bv_int b1, bv_int b2], Rz.sh s (.int _) q⟩
theorem ol_max2 : OL K cd (fun xs H Q => ∃ i j, xs = [.int i, .int j] ∧ Q (.int (if j > i then j else i)) H) dMax2 := by
  intro H G ds vs z s b h Q q
  match ds, h with
  | [.int i, .int j], h =>
    cases h
    obtain ⟨v, w, rfl, b1, b2⟩ := bvl2 b
    exact ⟨i, j, by rw [bv_int b1, bv_int b2], Rz.sh s (.int _) q⟩
/-! texts -/
def isStr : D → Bool
  | .str _ => true
  | _ => false
theorem ty_str : TyD K cd "str" isStr := fun H G d v s b h => by
  cases d with
  | str l => rw [bv_str b]; exact rfl
  | _ => cases h
def dTx (f : Str → Bool) : List D → Option Rv
  | [.str l] => some (.sh (.bl (f (S l))))
  | _ => none
theorem om_tx {f : Str → Bool} : OM K cd "str" (fun x xs H Q => ∃ a, x = .str a ∧ xs = [] ∧ True ∧ Q (.bl (f a)) H) (dTx f) := by
  intro H G d ds v vs z s b bs h Q q
  match d, ds, h with
  | .str l, [], h =>
    cases h
    cases bs
    exact ⟨S l, bv_str b, rfl, True.intro, Rz.sh s (.bl _) q⟩
abbrev dAscii := dTx Txt.isascii
abbrev dAlpha := dTx Txt.isalpha
abbrev dLower := dTx Txt.islower
theorem om_isascii : OM K cd "str" (fun x xs H Q => ∃ a, x = .str a ∧ xs = [] ∧ True ∧ Q (.bl (Txt.isascii a)) H) dAscii := om_tx
theorem om_isalpha : OM K cd "str" (fun x xs H Q => ∃ a, x = .str a ∧ xs = [] ∧ True ∧ Q (.bl (Txt.isalpha a)) H) dAlpha := om_tx
theorem om_islower : OM K cd "str" (fun x xs H Q => ∃ a, x = .str a ∧ xs = [] ∧ True ∧ Q (.bl (Txt.islower a)) H) dLower := om_tx
/-! parts of slices, by name -/
theorem ep_none : EvP K cd E tNoPart none := .none
theorem ep_some (ha : EvD K cd E ta a) : EvP K cd E (tPart ta) (some a) := .some ha
/-! xs[::-1] -/
def dRev : D → Option Rv
  | .lst xs => some (.ow (.lst xs.reverse))
  | _ => none
def eRev (a : En → Rs) : En → Rs := eOp1 dRev a
theorem ev_rev (ha : EvD K cd E ta a) : EvD K cd E (tRevL K ta) (eRev a) := fun {ox} H G e σ g Q w =>
  ha.seq g (fun r e1 H1 G1 v g1 _ p1 w1 => by
    obtain ⟨z, hz, w3⟩ := opR_some w1
    obtain ⟨x, hx, hz⟩ := bind_some hz
    cases x with
    | lst xs =>
      cases hz
      obtain ⟨p, us, rfl, e1, r1⟩ := g1.rd p1 hx
      exact ⟨p, us, rfl, SqL.of e1, fun p3 hp => newO g1.sub (fun H' G' u gr rz => w3.gr g1 gr rz) hp fun H' e => ⟨_, e, r1.rev⟩⟩
    | _ => cases hz) w
/-! list(d.items()) -/
def dItems : D → Option Rv
  | .dct kvs => some (.ow (.lst (kvs.map fun q => .tup [q.1, q.2])))
  | _ => none
def eItems (a : En → Rs) : En → Rs := eOp1 dItems a
/-! a, b = e -/
def fAsgT (tg : D → En → Option En) (a : En → Rs) : En → Fl := fun e => (eTk a e).fl fun r e1 => match r with
  | .sh d => (match tg d e1 with
    | some e2 => .nx e2
    | none => .stuck)
  | _ => .stuck
theorem es_asgT {g : TG} {vs : List Nat} {tg : D → En → Option En} (hg : TgD K cd kp vs g tg) (ha : EvD K cd E ta a) : ES K cd E kp (tAsg ta g) (fAsgT tg a) := fun {ox} H G e σ g0 Z w =>
  EvD.fl (ev_tk ha) g0 w fun r e1 H1 G1 v g1 s1 r1 w1 => by
    cases r with
    | sl _ => exact w1.elim
    | ow _ => exact w1.elim
    | sh d =>
      have w2 : FlW K cd ox E kp Z H G σ e (match tg d e1 with | some e2 => .nx e2 | none => .stuck) := w1
      cases q : tg d e1 with
      | none => rw [q] at w2; exact w2.elim
      | some e2 =>
        rw [q] at w2
        exact hg g1 r1 q fun σ' g' m' k' _ _ => w2 H1 G1 σ' g' (s1.mono m') k'
/-! xs[i] = v, xs a name of ours -/
def fSetL (i : Nat) (a b : En → Rs) : En → Fl := fun e => (eTk b e).fl fun rv e1 => (match e1[i]? with
  | some (.ow (.lst _)) => (pubR (a e1)).fl fun rk e2 => (match rv, e2[i]?, intO e2 rk with
    | .sh d, some (.ow (.lst xs)), some k => (match ixN xs.length k with
      | some j => .nx (e2.set i (.ow (.lst (xs.set j d))))
      | none => .stuck)
    | _, _, _ => .stuck)
  | _ => .stuck)
theorem es_setL {i : Nat} (ha : EvD K cd E ta a) (hb : EvD K cd E tb b) : ES K cd E kp (tAsg tb (gSub (tVar i) ta rSetL)) (fSetL i a b) := fun {ox} H G e σ g Z w =>
  EvD.fl (ev_tk hb) g w fun rv e1 H1 G1 v g1 s1 r1 w1 => by
    cases q1 : e1[i]? with
    | none => simp only [q1] at w1; exact w1.elim
    | some sl1 =>
      cases sl1 with
      | ow d1 =>
        cases d1 with
        | lst xs0 =>
          simp only [q1] at w1
          obtain ⟨p, hp, _⟩ := g1.ow i _ q1
          refine ⟨.ref p, hp, ?_⟩
          refine EvD.fl (EvD.pub ha) g1 (FlW.stp w1 s1 .refl) fun rk e2 H2 G2 y g2 s2 r2 w2 => ?_
          cases rv with
          | sl _ => exact w2.elim
          | ow _ => exact w2.elim
          | sh d =>
            cases q2 : e2[i]? with
            | none => simp only [q2] at w2; exact w2.elim
            | some sl2 =>
              cases sl2 with
              | ow d2 =>
                cases d2 with
                | lst xs =>
                  cases q3 : intO e2 rk with
                  | none => simp only [q2, q3] at w2; exact w2.elim
                  | some k =>
                    simp only [q2, q3] at w2
                    cases q4 : ixN xs.length k with
                    | none => simp only [q4] at w2; exact w2.elim
                    | some j =>
                      simp only [q4] at w2
                      obtain ⟨p', hp', n, us, hv, ru⟩ := g2.ow i _ q2
                      rw [hp] at hp'; cases hp'
                      have pk : Pd K cd G2 σ rk y := by
                        cases rk with
                        | sl _ => exact r2
                        | sh _ => exact r2
                        | ow _ => cases q3
                      have ey := intO_v g2 pk q3
                      have rd : Rp K cd G2 d v := Rp.mono s2.gg r1
                      obtain ⟨g3, m3⟩ := g2.upd1 (d' := .lst (xs.set j d)) q2 hp (stp_write (a0 := p) (o' := .lst (us.set j v))) (sub_write g2.sub n) n ⟨_, upd_same, RpL.set rd j ru⟩
                      have hm : Mn e2 σ p := ⟨i, _, q2, hp⟩
                      refine ⟨p, us, k, j, rfl, ey, hv, by rw [ru.len]; exact q4, w2 _ G2 σ g3 (s2.trans ⟨fun b o ho m => ?_, Same.refl _, fun _ _ _ _ h => h, fun b hb => .inl (m3 b hb), al_upd⟩) .refl⟩
                      rw [upd_ne (fun z => m (by rw [z]; exact hm))]; exact ho
                | _ => simp only [q2] at w2; exact w2.elim
              | _ => simp only [q2] at w2; exact w2.elim
        | _ => simp only [q1] at w1; exact w1.elim
      | _ => simp only [q1] at w1; exact w1.elim
/-! xs.pop(i), xs a name of ours -/
def ePopAt (i : Nat) (a : En → Rs) : En → Rs := fun e => match e[i]? with
  | some (.ow (.lst _)) => (pubR (a e)).bind fun r e1 => (match intO e1 r, e1[i]? with
    | some k, some (.ow (.lst xs)) => if k.natAbs < 2 ^ 62 then (match seqIndex? k xs.length with
      | some j => (match xs[j]? with
        | some d => .ok (.sh d) (e1.set i (.ow (.lst (xs.eraseIdx j))))
        | none => .stuck)
      | none => .stuck) else .stuck
    | _, _ => .stuck)
  | _ => .stuck
theorem ev_popAt {i : Nat} (ha : EvD K cd E ta a) : EvD K cd E (tBM K "list" rPopAt (tVar i) (tCons ta tNil)) (ePopAt i a) := by
  intro ox H G e σ g Q w
  unfold ePopAt at w
  cases q : e[i]? with
  | none => rw [q] at w; exact w.elim
  | some sl =>
    rw [q] at w
    cases sl with
    | ow d =>
      cases d with
      | lst xs0 =>
        obtain ⟨p, hp, _, vs0, hv0, _⟩ := g.ow i _ q
        refine ⟨.ref p, hp, .inl ⟨rfl, vs0, SqL.of hv0⟩, ?_⟩
        refine EvD.seq ha g (fun r e1 H1 G1 v g1 s1 p1 w1 => ?_) w
        cases q0 : intO e1 r with
        | none => simp only [q0] at w1; exact w1.elim
        | some k =>
          cases q1 : e1[i]? with
          | none => simp only [q0, q1] at w1; exact w1.elim
          | some sl1 =>
            cases sl1 with
            | ow d1 =>
              cases d1 with
              | lst xs =>
                simp only [q0, q1] at w1
                by_cases hk : k.natAbs < 2 ^ 62
                · rw [if_pos hk] at w1
                  cases q2 : seqIndex? k xs.length with
                  | none => simp only [q2] at w1; exact w1.elim
                  | some j =>
                    simp only [q2] at w1
                    cases q3 : xs[j]? with
                    | none => simp only [q3] at w1; exact w1.elim
                    | some d =>
                      simp only [q3] at w1
                      obtain ⟨p', hp', n, vs, hv, rv⟩ := g1.ow i _ q1
                      rw [hp] at hp'; cases hp'
                      obtain ⟨y, hy, ry⟩ := rv.at q3
                      obtain ⟨g2, m2⟩ := g1.upd1 (d' := .lst (xs.eraseIdx j)) q1 hp (stp_write (a0 := p) (o' := .lst (vs.eraseIdx j))) (sub_write g1.sub n) n ⟨_, upd_same, rv.erase j⟩
                      have hm : Mn e1 σ p := ⟨i, _, q1, hp⟩
                      refine ⟨p, vs, k, j, y, rfl, by rw [intO_v g1 p1 q0], hv, by omega, by omega, by rw [rv.len]; exact q2, hy, w1 _ G1 y g2 ⟨fun b o ho m => ?_, Same.refl _, fun _ _ _ _ h => h, fun b hb => .inl (m2 b hb), al_upd⟩ ry⟩
                      rw [upd_ne (fun z => m (by rw [z]; exact hm))]; exact ho
                · rw [if_neg hk] at w1; exact w1.elim
              | _ => simp only [q0, q1] at w1; exact w1.elim
            | _ => simp only [q0, q1] at w1; exact w1.elim
      | _ => exact w.elim
    | _ => exact w.elim
end
end Dv
/-! sorted, items, isinstance, get, == of plain data -/
namespace Dv
open PySem PySem.Spec PyProof.Rows L2
open SX (S S_len S_cat)
section
variable {K : PySem.W.Frag} {cd : Nat → Cd} {ox : Addr → Prop} {E : St → XK} {kp : Nat → Bool} {H G H' G' H1 G1 : Hp} {e e1 : En} {σ : St} {Q : VK} {X : Cx} {ta tb tc : TE} {a b c : En → Rs}
/-! list(d.items()) -/
theorem ev_items (ha : EvD K cd E ta a) : EvD K cd E (tListItemsR ta) (eItems a) := fun {ox} H G e σ g Q w =>
  ha.seq g (fun r e1 H1 G1 v g1 _ p1 w1 => by
    obtain ⟨z, hz, w3⟩ := opR_some w1
    obtain ⟨x, hx, hz⟩ := bind_some hz
    cases x with
    | dct kvs =>
      cases hz
      obtain ⟨p, us, rfl, e1, r1⟩ := g1.rd p1 hx
      refine ⟨p, us, rfl, e1, fun H' q ts hh hp ht np hl pr => ?_⟩
      have sm : Same G1 (fun b => if b ∈ ts then H' b else G1 b) := fun b o hb => by
        have nb : b ∉ ts := fun z => by have := g1.sub.some (ht b z); rw [this] at hb; cases hb
        show (if b ∈ ts then H' b else G1 b) = some o
        rw [if_neg nb]; exact hb
      have gr : Gr H1 G1 H' (fun b => if b ∈ ts then H' b else G1 b) := ⟨hh, sm, fun b o hb => by
        by_cases z : b ∈ ts
        · have hb' : (if b ∈ ts then H' b else G1 b) = some o := hb
          rw [if_pos z] at hb'; exact .inl hb'
        · have hb' : (if b ∈ ts then H' b else G1 b) = some o := hb
          rw [if_neg z] at hb'
          exact (g1.sub b o hb').imp (hh b o) fun ⟨k, ob, x, y⟩ => ⟨k, ob, x, hh _ _ y⟩, fun b o hb hg => by
        have nb : b ∉ ts := fun z => by rw [ht b z] at hb; cases hb
        show (if b ∈ ts then H' b else G1 b) = none
        rw [if_neg nb]; exact hg⟩
      refine w3.gr g1 gr ⟨q, rfl, hp, by show (if q ∈ ts then H' q else G1 q) = none; rw [if_neg np]; exact g1.sub.some hp, _, hl, ?_⟩
      have go : ∀ (ts' : List Addr) (ks : List (Key × V)) (ds : List (D × D)), (∀ t ∈ ts', t ∈ ts) → Paired (fun (t : Addr) (q : Key × V) => H' t = some (.tup [kV q.1, q.2])) ts' ks → RpK K cd G1 ds ks → RpL K cd (fun b => if b ∈ ts then H' b else G1 b) (ds.map fun q => D.tup [q.1, q.2]) (ts'.map V.ref) := by
        intro ts'
        induction ts' with
        | nil =>
          intro ks ds _ pr rk
          cases pr
          cases rk
          exact .nil
        | cons t ts' ih =>
          intro ks ds hm pr rk
          cases pr with
          | cons h1 pr =>
            cases rk with
            | @cons q d k v ds kvs hk hd rk =>
              refine .cons (.tup (a := t) (vs := [kV k, v]) ?_ (.cons ?_ (.cons (hd.mono sm) .nil))) (ih _ _ (fun t h => hm t (List.mem_cons_of_mem _ h)) pr rk)
              · show (if t ∈ ts then H' t else G1 t) = _
                rw [if_pos (hm t (List.mem_cons_self ..))]; exact h1
              · cases q <;> cases hk
                · exact .int _
                · exact .str _
      exact go ts us kvs (fun _ h => h) pr r1
    | _ => cases hz) w
/-! sorted: texts -/
def strsD : List D → Option (List (List Nat))
  | [] => some []
  | .str l :: ds => (strsD ds).map (l :: ·)
  | _ :: _ => none
def insT (x : List Nat) : List (List Nat) → List (List Nat)
  | [] => [x]
  | y :: r => if ltCps y x = true then y :: insT x r else x :: y :: r
def sortT (l : List (List Nat)) : List (List Nat) := l.foldr insT []
theorem insT_perm (x : List Nat) : ∀ l, (insT x l).Perm (x :: l)
  | [] => .refl _
  | y :: r => by
    unfold insT
    split
    · exact ((insT_perm x r).cons y).trans (.swap x y r)
    · exact .refl _
theorem sortT_perm : ∀ l, (sortT l).Perm l
  | [] => .refl _
  | x :: r => (insT_perm x (sortT r)).trans ((sortT_perm r).cons x)
def geT (x y : List Nat) : Prop := ltCps y x = false
theorem lt_irr : ∀ x, ltCps x x = false
  | [] => rfl
  | a :: r => by simp [ltCps, lt_irr r]
theorem lt_tri : ∀ x y, ltCps x y = false → ltCps y x = false → x = y
  | [], [], _, _ => rfl
  | [], _ :: _, h, _ => by cases h
  | _ :: _, [], _, h => by cases h
  | a :: r, b :: t, h1, h2 => by
    simp only [ltCps, Bool.or_eq_false_iff, decide_eq_false_iff_not, Bool.and_eq_false_iff, beq_eq_false_iff_ne] at h1 h2
    have e : a = b := by omega
    subst e
    rw [lt_tri r t (h1.2.resolve_left (fun z => z rfl)) (h2.2.resolve_left (fun z => z rfl))]
theorem lt_tr : ∀ x y z, ltCps y x = false → ltCps z y = false → ltCps z x = false
  | [], _, [], _, _ => rfl
  | _ :: _, [], _, h, _ => by cases h
  | _, _ :: _, [], _, h => by cases h
  | [], _, c :: u, _, _ => by simp [ltCps]
  | a :: r, b :: t, c :: u, h1, h2 => by
    simp only [ltCps, Bool.or_eq_false_iff, decide_eq_false_iff_not, Bool.and_eq_false_iff, beq_eq_false_iff_ne] at h1 h2 ⊢
    refine ⟨by omega, ?_⟩
    by_cases e : c = a
    · right
      have eb : b = a := by omega
      subst eb
      exact lt_tr r t u (h1.2.resolve_left (fun z => z rfl)) (h2.2.resolve_left (fun z => z e))
    · exact .inl e
theorem lt_as : ∀ x y, ltCps x y = true → ltCps y x = false
  | [], [], h => by cases h
  | [], _ :: _, _ => rfl
  | _ :: _, [], h => by cases h
  | a :: r, b :: t, h => by
    simp only [ltCps, Bool.or_eq_true, decide_eq_true_eq, Bool.and_eq_true, beq_iff_eq] at h
    simp only [ltCps, Bool.or_eq_false_iff, decide_eq_false_iff_not, Bool.and_eq_false_iff, beq_eq_false_iff_ne]
    rcases h with h | ⟨rfl, h⟩
    · exact ⟨by omega, .inl (by omega)⟩
    · exact ⟨by omega, .inr (lt_as r t h)⟩
theorem insT_sorted (x : List Nat) : ∀ l, l.Pairwise geT → (insT x l).Pairwise geT
  | [], _ => by simp [insT]
  | y :: r, h => by
    rw [List.pairwise_cons] at h
    unfold insT
    split
    · rename_i hl
      refine List.pairwise_cons.mpr ⟨fun z hz => ?_, insT_sorted x r h.2⟩
      rcases List.mem_cons.mp ((insT_perm x r).mem_iff.mp hz) with rfl | hz
      · exact lt_as _ _ hl
      · exact h.1 z hz
    · rename_i hl
      have hyx : geT x y := by
        unfold geT
        cases q : ltCps y x with
        | true => exact absurd q hl
        | false => rfl
      refine List.pairwise_cons.mpr ⟨fun z hz => ?_, List.pairwise_cons.mpr h⟩
      rcases List.mem_cons.mp hz with rfl | hz
      · exact hyx
      · exact lt_tr x y z hyx (h.1 z hz)
theorem sortT_sorted : ∀ l, (sortT l).Pairwise geT
  | [] => .nil
  | x :: r => insT_sorted x _ (sortT_sorted r)
theorem cps_S (l : List Nat) : (S l).cps.toList = l := by simp [S]
theorem rising_pw : ∀ (r : List (List Nat)) (x : List Nat), risingS (S x) (r.map S) = true → (x :: r).Pairwise geT
  | [], x, _ => by simp
  | y :: r, x, h => by
    have h' : (!ltCps (S y).cps.toList (S x).cps.toList && risingS (S y) (r.map S)) = true := h
    rw [cps_S, cps_S, Bool.and_eq_true, Bool.not_eq_true'] at h'
    have ih := rising_pw r y h'.2
    refine List.pairwise_cons.mpr ⟨fun z hz => ?_, ih⟩
    rcases List.mem_cons.mp hz with rfl | hz
    · exact h'.1
    · exact lt_tr x y z h'.1 ((List.pairwise_cons.mp ih).1 z hz)
theorem sorted_pw {r : List (List Nat)} (h : sortedS (r.map S) = true) : r.Pairwise geT := by
  cases r with
  | nil => exact .nil
  | cons x r => exact rising_pw r x h
theorem sort_uniq {ys : List Str} {ls : List (List Nat)} (p : ys.Perm (ls.map S)) (s : sortedS ys = true) : ys = (sortT ls).map S := by
  obtain ⟨zs, rfl, pz⟩ : ∃ zs : List (List Nat), ys = zs.map S ∧ zs.Perm ls := by
    refine ⟨ys.map fun y => y.cps.toList, ?_, ?_⟩
    · rw [List.map_map]
      refine (List.map_id'' (fun y => ?_) _).symm
      show S y.cps.toList = y
      simp [S]
    · have := p.map fun y : Str => y.cps.toList
      rw [List.map_map] at this
      rw [show (List.map ((fun y : Str => y.cps.toList) ∘ S) ls) = ls from List.map_id'' (fun l => cps_S l) _] at this
      exact this
  congr 1
  exact List.Perm.eq_of_pairwise (fun x y _ _ h1 h2 => (lt_tri y x h1 h2).symm) (sorted_pw s) (sortT_sorted ls) (pz.trans (sortT_perm ls).symm)
theorem strs_eq : ∀ {ds : List D} {ls : List (List Nat)}, strsD ds = some ls → ds = ls.map D.str
  | [], _, h => by cases h; rfl
  | .str l :: ds, _, h => by
    obtain ⟨r, h1, rfl⟩ := map_some h
    rw [strs_eq h1]; rfl
  | .non :: _, _, h => by cases h
  | .bl _ :: _, _, h => by cases h
  | .int _ :: _, _, h => by cases h
  | .ty _ :: _, _, h => by cases h
  | .cls _ :: _, _, h => by cases h
  | .tup _ :: _, _, h => by cases h
  | .lst _ :: _, _, h => by cases h
  | .dct _ :: _, _, h => by cases h
  | .obj _ _ :: _, _, h => by cases h
theorem strs_rp : ∀ (ls : List (List Nat)), RpL K cd G (ls.map D.str) ((ls.map S).map V.str)
  | [] => .nil
  | l :: r => .cons (.str l) (strs_rp r)
theorem strs_v : ∀ {ls : List (List Nat)} {vs : List V}, RpL K cd G (ls.map D.str) vs → vs = (ls.map S).map V.str
  | [], _, .nil => rfl
  | l :: r, _, .cons a b => by cases a; rw [strs_v b]; rfl
theorem strs_k : ∀ {ds : List (D × D)} {ls : List (List Nat)} {kvs : List (Key × V)}, RpK K cd G ds kvs → strsD (ds.map (·.1)) = some ls → kvs.map (·.1) = (ls.map S).map Sum.inr
  | _, _, _, .nil, h => by cases h; rfl
  | _, _, _, .cons (q := q) hk hd r, h => by
    cases q <;> first | (cases h; done) | (cases hk; done) | skip
    obtain ⟨t, h1, rfl⟩ := map_some h
    cases hk
    simp [strs_k r h1]
def dSort : List D → Option Rv
  | [.lst ds] => (strsD ds).bind fun ls => if ls.length < 64 then some (.ow (.lst ((sortT ls).map D.str))) else none
  | [.dct kvs] => (strsD (kvs.map (·.1))).bind fun ls => if ls.length < 64 then some (.ow (.lst ((sortT ls).map D.str))) else none
  | _ => none
theorem ol_sort : OL K cd (rSortA K) dSort := by
  intro H G ds vs z s b h Q q
  match ds, h with
  | [.lst xs], h =>
    obtain ⟨ls, h1, h⟩ := bind_some h
    obtain ⟨h2, h⟩ := if_some h
    cases h
    obtain ⟨v, rfl, bv⟩ := bvl1 b
    obtain ⟨p, us, rfl, e, r⟩ := bv
    rw [strs_eq h1] at r
    refine .inl ⟨p, ls.map S, rfl, by rw [← strs_v r]; exact SqL.of e, by rw [List.length_map]; exact h2, fun ys p3 hp hs hn => ?_⟩
    rw [sort_uniq hp hs]
    exact newO s q hn fun H' e => ⟨_, e, strs_rp _⟩
  | [.dct xs], h =>
    obtain ⟨ls, h1, h⟩ := bind_some h
    obtain ⟨h2, h⟩ := if_some h
    cases h
    obtain ⟨v, rfl, bv⟩ := bvl1 b
    obtain ⟨p, us, rfl, e, r⟩ := bv
    refine .inr ⟨p, us, ls.map S, rfl, e, strs_k r h1, by rw [List.length_map]; exact h2, fun ys p3 hp hs hn => ?_⟩
    rw [sort_uniq hp hs]
    exact newO s q hn fun H' e => ⟨_, e, strs_rp _⟩
end
end Dv
/-! isinstance, get, == of plain data -/
namespace Dv
open PySem PySem.Spec PyProof.Rows L2
open SX (S S_len S_cat)
section
variable {K : PySem.W.Frag} {cd : Nat → Cd} {ox : Addr → Prop} {E : St → XK} {kp : Nat → Bool} {H G H' G' H1 G1 : Hp} {e e1 : En} {σ : St} {Q : VK} {X : Cx} {ta tb tc : TE} {a b c : En → Rs}
/-! isinstance -/
def tyN : D → Option String
  | .non => some "NoneType"
  | .bl _ => some "bool"
  | .int _ => some "int"
  | .str _ => some "str"
  | .tup _ => some "tuple"
  | .lst _ => some "list"
  | .dct _ => some "dict"
  | _ => none
theorem tyN_x {d : D} {v : V} {n : String} (h : Bv K cd H G d v) (q : tyN d = some n) : TyX K H v (.type n) := by
  cases d with
  | non => cases q; cases h; exact .base .non
  | bl b => cases q; cases h; exact .base (.bl _)
  | int b => cases q; cases h; exact .base (.int _)
  | str b => cases q; cases h; exact .base (.str _)
  | tup ds =>
    cases q
    obtain ⟨p, us, rfl, e, _⟩ := h
    rcases e with (e | ⟨o, e⟩) | ⟨o, _, _, e, hc, _⟩
    · exact .base (.tup e)
    · exact .fTuple e
    · exact .kTuple e hc
  | lst ds => cases q; obtain ⟨p, us, rfl, e, _⟩ := h; exact .base (.lst e)
  | dct ds =>
    cases q
    obtain ⟨p, us, rfl, e, _⟩ := h
    rcases e with e | ⟨o, e⟩
    · exact .base (.dK e)
    · exact .fDict e
  | _ => cases q
/-- own: isinstance of a value against an own class -/
def dIsi (own : Nat → D → Option Bool) : List D → Option Rv
  | [d, .ty n] => (tyN d).bind fun t => (kitB t n).map fun b => .sh (.bl b)
  | [d, .cls c] => (own c d).map fun b => .sh (.bl b)
  | _ => none
def OwnOk (K : PySem.W.Frag) (cd : Nat → Cd) (own : Nat → D → Option Bool) : Prop := ∀ (H G : Hp) (c : Nat) (d : D) (v : V) (b : Bool), Bv K cd H G d v → own c d = some b → ∃ t, TyX K H v t ∧ PySem.W.kitOne K t (.ref (cd c).C) = some b
theorem ol_isi {own : Nat → D → Option Bool} (ho : OwnOk K cd own) : OL K cd (rIsi K) (dIsi own) := by
  intro H G ds vs z s b h Q q
  match ds, h with
  | [d, .ty n], h =>
    obtain ⟨t, h1, h⟩ := bind_some h
    obtain ⟨r, h2, rfl⟩ := map_some h
    obtain ⟨v, w, rfl, b1, b2⟩ := bvl2 b
    cases b2
    exact ⟨v, .ty n, .type t, .type n, r, rfl, .ty n, tyN_x b1 h1, kit_ty h2, Rz.sh s (.bl _) q⟩
  | [d, .cls c], h =>
    obtain ⟨r, h2, rfl⟩ := map_some h
    obtain ⟨v, w, rfl, b1, b2⟩ := bvl2 b
    cases b2
    obtain ⟨t, h3, h4⟩ := ho H G c d v r b1 h2
    exact ⟨v, _, t, _, r, rfl, .own _, h3, h4, Rz.sh s (.bl _) q⟩
def noOwn : Nat → D → Option Bool := fun _ _ => none
theorem noOwn_ok : OwnOk K cd noOwn := fun _ _ _ _ _ _ _ h => nomatch h
/-- what holds of an own class -/
structure ClF (K : PySem.W.Frag) (C : Addr) : Prop where
  ty : ∀ {H : Hp} {a dx : Addr} {fs : List (Str × V)}, H a = some (.ins C dx fs) → TyX K H (.ref a) (.ref C)
  self : PySem.W.kitOne K (.ref C) (.ref C) = some true
/-! d.get(k, x) -/
def eGet2 (a b c : En → Rs) : En → Rs := fun e => (pubR (a e)).bind fun r1 e1 => match rdv e1 r1 with
  | some (.dct _) => (pubR (b e1)).bind fun r2 e2 => (eTk c e2).bind fun r3 e3 => (match r3, rdv e3 r1, rdv e3 r2 with
    | .sh x, some (.dct kvs), some k => if (keyD k).isSome = true then .ok (.sh ((getD kvs k).getD x)) e3 else .stuck
    | _, _, _ => .stuck)
  | _ => .stuck
theorem ev_get2 (ha : EvD K cd E ta a) (hb : EvD K cd E tb b) (hc : EvD K cd E tc c) : EvD K cd E (tDGet2 ta tb tc) (eGet2 a b c) := fun {ox} H G e σ g Q w =>
  ha.seq g (fun r1 e1 H1 G1 v1 g1 _ p1 w1 => by
    cases q1 : rdv e1 r1 with
    | none => simp only [q1] at w1; exact w1.elim
    | some d1 =>
      cases d1 with
      | dct kv0 =>
        simp only [q1] at w1
        obtain ⟨p, us, rfl, e1', _⟩ := g1.rd p1 q1
        refine ⟨p, rfl, .inl ⟨us, e1'⟩, ?_⟩
        refine hb.seq g1 (fun r2 e2 H2 G2 v2 g2 s2 p2 w2 => ?_) w1
        have w2' : RsW K cd ox E Q H2 G2 σ e2 ((pubR (eTk c e2)).bind fun r3 e3 => (match r3, rdv e3 r1, rdv e3 r2 with
          | .sh x, some (.dct kvs), some k => if (keyD k).isSome = true then .ok (.sh ((getD kvs k).getD x)) e3 else .stuck
          | _, _, _ => .stuck)) := by rw [pubR_tk]; exact w2
        refine EvD.seq (ev_tk hc) g2 (fun r3 e3 H3 G3 v3 g3 s3 p3 w3 => ?_) w2'
        cases r3 with
        | sl _ => exact w3.elim
        | ow _ => exact w3.elim
        | sh x =>
          cases q3 : rdv e3 r1 with
          | none => simp only [q3] at w3; exact w3.elim
          | some d3 =>
            cases d3 with
            | dct kvs =>
              cases q4 : rdv e3 r2 with
              | none => simp only [q3, q4] at w3; exact w3.elim
              | some k =>
                simp only [q3, q4] at w3
                by_cases hk : (keyD k).isSome = true
                · rw [if_pos hk] at w3
                  obtain ⟨kk, hkk⟩ := Option.isSome_iff_exists.mp hk
                  obtain ⟨p', us', ep, e3', r3'⟩ := g3.rd ((p1.mono s2).mono s3) q3
                  cases ep
                  rw [keyD_kV (g3.rd (p2.mono s3) q4) hkk]
                  refine ⟨_, DGet.rd e3', ?_⟩
                  rcases RpK.get hkk r3' with ⟨h1, h2⟩ | ⟨d, v, h1, h2, h3⟩
                  · rw [h2]; rw [h1] at w3
                    exact w3 H3 G3 v3 g3 .refl p3
                  · rw [h2]; rw [h1] at w3
                    exact w3 H3 G3 v g3 .refl h3
                · rw [if_neg hk] at w3; exact w3.elim
            | _ => simp only [q3] at w3; exact w3.elim
      | _ => simp only [q1] at w1; exact w1.elim) w
/-! == of plain data -/
mutual
def pyD : D → Option PyData
  | .non => some .none
  | .bl b => some (.bool b)
  | .int i => some (.int i)
  | .str l => some (.str (S l))
  | .lst ds => (pyL ds).map .list
  | .tup ds => (pyL ds).map .tuple
  | .ty _ => none
  | .cls _ => none
  | .dct _ => none
  | .obj _ _ => none
def pyL : List D → Option (List PyData)
  | [] => some []
  | d :: ds => (pyD d).bind fun p => (pyL ds).map (p :: ·)
end
mutual
theorem dp_rp (s : Sub G H) {d : D} {v : V} {p : PyData} (h : Rp K cd G d v) (q : pyD d = some p) : Dp K H v p := by
  cases h with
  | non => simp only [pyD] at q; cases q; exact .non
  | bl b => simp only [pyD] at q; cases q; exact .bl b
  | int i => simp only [pyD] at q; cases q; exact .int i
  | str l => simp only [pyD] at q; cases q; exact .str _
  | ty n => simp only [pyD] at q; cases q
  | cls c => simp only [pyD] at q; cases q
  | tup h r => simp only [pyD] at q; obtain ⟨ps, h1, rfl⟩ := map_some q; exact .tup (SqT.of (s.tup h)) (dp_rpL s r h1)
  | tupK h r => simp only [pyD] at q; obtain ⟨ps, h1, rfl⟩ := map_some q; exact .tup (h H) (dp_rpL s r h1)
  | lst h r => simp only [pyD] at q; obtain ⟨ps, h1, rfl⟩ := map_some q; exact .lst (SqL.of (s.lst h)) (dp_rpL s r h1)
  | dct h r => simp only [pyD] at q; cases q
  | obj h r => simp only [pyD] at q; cases q
theorem dp_rpL (s : Sub G H) {ds : List D} {vs : List V} {ps : List PyData} (h : RpL K cd G ds vs) (q : pyL ds = some ps) : DpAll K H vs ps := by
  cases h with
  | nil => simp only [pyL] at q; cases q; exact .nil
  | cons a b =>
    simp only [pyL] at q
    obtain ⟨p, h1, q⟩ := bind_some q
    obtain ⟨ps', h2, rfl⟩ := map_some q
    exact .cons (dp_rp s a h1) (dp_rpL s b h2)
end
theorem dp_bv (s : Sub G H) {d : D} {v : V} {p : PyData} (h : Bv K cd H G d v) (q : pyD d = some p) : Dp K H v p := by
  cases d with
  | lst ds => simp only [pyD] at q; obtain ⟨ps, h1, rfl⟩ := map_some q; obtain ⟨a, vs, rfl, e, r⟩ := h; exact .lst (SqL.of e) (dp_rpL s r h1)
  | tup ds => simp only [pyD] at q; obtain ⟨ps, h1, rfl⟩ := map_some q; obtain ⟨a, vs, rfl, e, r, _⟩ := h; exact .tup e (dp_rpL s r h1)
  | dct ds => simp only [pyD] at q; cases q
  | obj c ds => simp only [pyD] at q; cases q
  | non => exact dp_rp s h q
  | bl b => exact dp_rp s h q
  | int b => exact dp_rp s h q
  | str b => exact dp_rp s h q
  | ty b => exact dp_rp s h q
  | cls b => exact dp_rp s h q
/-- two plain data -/
def eqPy (x y : D) : Option Bool := (pyD x).bind fun p => (pyD y).bind fun q => if (SeqAt.shaped p && SeqAt.shaped q) = true then some (PyData.eqv p q) else none
/-- the pairs of the one are those of the other -/
def hitsD (kb : List (D × D)) : List (D × D) → Option Bool
  | [] => some true
  | (k, v) :: r => match getD kb k with
    | none => some false
    | some y => (eqPy v y).bind fun b => (hitsD kb r).map (b && ·)
def eqD1 : D → D → Option Bool
  | .int i, .int j => some (decide (i = j))
  | .str a, .str b => some (decide (a = b))
  | .dct ka, .dct kb => if ka.length = kb.length then hitsD kb ka else some false
  | x, y => eqPy x y
def dEq : D → D → Option Rv := fun x y => (eqD1 x y).map fun b => .sh (.bl b)
def dNe : D → D → Option Rv := fun x y => (eqD1 x y).map fun b => .sh (.bl (!b))
def Hits (K : PySem.W.Frag) (H : Hp) (kb : List (Key × V)) : List (Key × V) → Bool → Prop
  | [], b => b = true
  | (k, v) :: r, b => (valV kb k = none ∧ b = false) ∨ ∃ y p q b', valV kb k = some y ∧ Dp K H v p ∧ Dp K H y q ∧ SeqAt.shaped p = true ∧ SeqAt.shaped q = true ∧ Hits K H kb r b' ∧ b = (PyData.eqv p q && b')
theorem hits_d (s : Sub G H) {kb : List (D × D)} {ub : List (Key × V)} (rb : RpK K cd G kb ub) : ∀ {ka : List (D × D)} {ua : List (Key × V)} {r : Bool}, RpK K cd G ka ua → hitsD kb ka = some r → Hits K H ub ua r
  | _, _, _, .nil, h => by cases h; exact rfl
  | (k, v) :: ka, (kk, u) :: ua, r, .cons hk hv t, h => by
    unfold hitsD at h
    rcases RpK.get hk rb with ⟨h1, h2⟩ | ⟨d, y, h1, h2, h3⟩
    · rw [h1] at h; cases h; exact .inl ⟨h2, rfl⟩
    · rw [h1] at h
      obtain ⟨b, hb, h⟩ := bind_some h
      obtain ⟨b', hb', rfl⟩ := map_some h
      obtain ⟨p, hp, hb⟩ := bind_some hb
      obtain ⟨q, hq, hb⟩ := bind_some hb
      obtain ⟨hs, hb⟩ := if_some hb
      cases hb
      rw [Bool.and_eq_true] at hs
      exact .inr ⟨y, p, q, b', h2, dp_rp s hv hp, dp_rp s h3 hq, hs.1, hs.2, hits_d s rb t hb', rfl⟩
def rDctA (H : Hp) (K : PySem.W.Frag) (x y : V) (r : Bool) : Prop := ∃ (a b : Addr) (ka kb : List (Key × V)) (t : Bool), x = .ref a ∧ y = .ref b ∧ Rd H a (.dK ka) ∧ Rd H b (.dK kb) ∧ (ka.length = kb.length → Hits K H kb ka t) ∧ r = (ka.length == kb.length && t)
theorem hits_k {pins : List (Addr × Obj)} {σ : St} {s : Shared} {A : Around} (I : Inv X pins σ H s) (hu : A.units + 64 < cLine) {ub : List (Key × V)} {wb : List (Key × Value)} (kb : KV ub wb) : ∀ {ua : List (Key × V)} {wa : List (Key × Value)} {r : Bool}, KV ua wa → Hits X.K H ub ua r → PySem.W.KeqHits A s wb wa r
  | _, _, _, .nil, h => by cases h; exact .nil
  | (k, v) :: ua, (k', w) :: wa, r, .cons ⟨hk, hv⟩ t, h => by
    have hk' : k = k' := hk
    subst hk'
    have rel := kb.val k
    rcases h with ⟨h1, rfl⟩ | ⟨y, p, q, b', h1, h2, h3, h4, h5, h6, rfl⟩
    · rw [h1] at rel
      cases e : valueAt wb k with
      | none => exact .miss e
      | some z => rw [e] at rel; exact rel.elim
    · rw [h1] at rel
      cases e : valueAt wb k with
      | none => rw [e] at rel; exact rel.elim
      | some z =>
        rw [e] at rel
        obtain ⟨as, r1⟩ := Dp.reads I p v w h2 hv
        obtain ⟨bs, r2⟩ := Dp.reads I q y z h3 rel
        exact .hit e (SeqAt.eqAt_reads p q A s w z as bs r1 r2 (SeqAt.canLay_of_shaped h4) (SeqAt.canLay_of_shaped h5) (SeqAt.room_of_shaped h4 hu)) (hits_k I hu kb t h6)
def rEqA (K : PySem.W.Frag) : R2 := fun x y H Q => rEq x y H Q ∨ rEqD K x y H Q ∨ ∃ r, rDctA H K x y r ∧ Q (.bl r) H
def rNeA (K : PySem.W.Frag) : R2 := fun x y H Q => rNe x y H Q ∨ rNeD K x y H Q ∨ ∃ r, rDctA H K x y r ∧ Q (.bl (!r)) H
theorem op_eqA (hu : X.A.units + 65 < cLine) : OpR X (compareOp .Eq) (rEqA X.K) := op_eq.or <| (op_eqD (by omega)).or fun pins s σ H x y v u Q I rx ry ⟨r, ⟨a, b, ka, kb, t, hx, hy, ha, hb, hh, er⟩, q⟩ => by
  subst hx hy er
  obtain rfl : v = Value.ref a := rx
  obtain rfl : u = Value.ref b := ry
  obtain ⟨_, ya, va, ra, da⟩ := dk_rd I.hok ha
  obtain ⟨_, yb, vb, rb, db⟩ := dk_rd I.hok hb
  exact PySem.W.keq_eq (knd := mixKind X.prog X.w) (r := t) ya yb da db (by omega) (fun hl => hits_k I (by show X.A.units + 1 + 64 < cLine; omega) rb ra (hh (by rw [ra.length, rb.length]; exact hl))) (fin_bl I q (by rw [ra.length, rb.length]))
theorem op_neA (hu : X.A.units + 65 < cLine) : OpR X (compareOp .NotEq) (rNeA X.K) := op_ne.or <| (op_neD (by omega)).or fun pins s σ H x y v u Q I rx ry ⟨r, ⟨a, b, ka, kb, t, hx, hy, ha, hb, hh, er⟩, q⟩ => by
  subst hx hy er
  obtain rfl : v = Value.ref a := rx
  obtain rfl : u = Value.ref b := ry
  obtain ⟨_, ya, va, ra, da⟩ := dk_rd I.hok ha
  obtain ⟨_, yb, vb, rb, db⟩ := dk_rd I.hok hb
  exact PySem.W.keq_ne (knd := mixKind X.prog X.w) (r := t) ya yb da db (by omega) (fun hl => hits_k I (by show X.A.units + 1 + 64 < cLine; omega) rb ra (hh (by rw [ra.length, rb.length]; exact hl))) (fin_bl I q (by rw [ra.length, rb.length]))
theorem eq_low {x y : D} {v w : V} {r : Bool} (s : Sub G H) (bx : Bv K cd H G x v) (yb : Bv K cd H G y w) (h : eqD1 x y = some r) : (scal v w = true ∧ r = decide (v = w)) ∨ (∃ d e, Dp K H v d ∧ Dp K H w e ∧ SeqAt.shaped d = true ∧ SeqAt.shaped e = true ∧ r = PyData.eqv d e) ∨ rDctA H K v w r := by
  have plain : eqPy x y = some r → (∃ d e, Dp K H v d ∧ Dp K H w e ∧ SeqAt.shaped d = true ∧ SeqAt.shaped e = true ∧ r = PyData.eqv d e) := fun h => by
    obtain ⟨p, hp, h⟩ := bind_some h
    obtain ⟨q, hq, h⟩ := bind_some h
    obtain ⟨hs, h⟩ := if_some h
    cases h
    rw [Bool.and_eq_true] at hs
    exact ⟨p, q, dp_bv s bx hp, dp_bv s yb hq, hs.1, hs.2, rfl⟩
  unfold eqD1 at h
  split at h
  · cases h
    refine .inl ⟨by rw [bv_int bx, bv_int yb]; rfl, ?_⟩
    rw [bv_int bx, bv_int yb]
    exact decide_eq_decide.mpr ⟨fun z => by rw [z], fun z => by cases z; rfl⟩
  · cases h
    refine .inl ⟨by rw [bv_str bx, bv_str yb]; rfl, ?_⟩
    rw [bv_str bx, bv_str yb]
    exact decide_eq_decide.mpr ⟨fun z => by rw [z], fun z => SX.S_inj (V.str.inj z)⟩
  · rename_i ka kb
    obtain ⟨a, ua, rfl, ea, ra⟩ := bx
    obtain ⟨b, ub, rfl, eb, rb⟩ := yb
    refine .inr (.inr ?_)
    by_cases hl : ka.length = kb.length
    · rw [if_pos hl] at h
      refine ⟨a, b, ua, ub, r, rfl, rfl, ea, eb, fun _ => hits_d s rb ra h, ?_⟩
      rw [ra.len, rb.len, hl]; simp
    · rw [if_neg hl] at h
      cases h
      refine ⟨a, b, ua, ub, true, rfl, rfl, ea, eb, fun z => absurd (by rw [← ra.len, ← rb.len]; exact z) hl, ?_⟩
      rw [ra.len, rb.len]
      simp [hl]
  · exact .inr (.inl (plain h))
theorem o2_eq : O2 K cd (rEqA K) dEq := by
  intro H G x y v w z s bx yb h Q q
  obtain ⟨r, h1, rfl⟩ := map_some h
  rcases eq_low s bx yb h1 with ⟨k0, rfl⟩ | ⟨d, e, k1, k2, k3, k4, rfl⟩ | h1
  · exact .inl ⟨k0, Rz.sh s (.bl _) q⟩
  · exact .inr (.inl ⟨d, e, k1, k2, k3, k4, Rz.sh s (.bl _) q⟩)
  · exact .inr (.inr ⟨r, h1, Rz.sh s (.bl _) q⟩)
theorem o2_ne : O2 K cd (rNeA K) dNe := by
  intro H G x y v w z s bx yb h Q q
  obtain ⟨r, h1, rfl⟩ := map_some h
  rcases eq_low s bx yb h1 with ⟨k0, rfl⟩ | ⟨d, e, k1, k2, k3, k4, rfl⟩ | h1
  · exact .inl ⟨k0, Rz.sh s (.bl _) q⟩
  · exact .inr (.inl ⟨d, e, k1, k2, k3, k4, Rz.sh s (.bl _) q⟩)
  · exact .inr (.inr ⟨r, h1, Rz.sh s (.bl _) q⟩)
theorem u65 {k : Nat} {A : Around} (r : Room k A) : A.units + 65 < cLine := by have := r.un; omega
end
end Dv
/-! raise, try .. except -/
namespace Dv
open PySem PySem.Spec PyProof.Rows L2
open SX (S S_len S_cat)
section
variable {K : PySem.W.Frag} {cd : Nat → Cd} {ox : Addr → Prop} {E : St → XK} {E' : XK} {kp : Nat → Bool} {H G H' G' H1 G1 : Hp} {e e1 : En} {σ : St} {Q : VK} {X : Cx} {ta tb tc : TE} {a b c : En → Rs}
theorem takes_len {X : Cx} {W : WX} (t : Takes X W) : Takes X (fun cls d σ H => σ.length = X.N.length → W cls d σ H) := fun u s' ⟨a, B, sI, pins, σ, H, cls, d, e, I, nb, up, sky, na, os, ag, w⟩ =>
  t u s' ⟨a, B, sI, pins, σ, H, cls, d, e, I, nb, up, sky, na, os, ag, w I.len⟩
/-- what the clauses wish, whatever the slots hold -/
def EW (n : Nat) (W : WX) : XK := fun cls d H => ∀ σ : St, σ.length = n → W cls d σ H
def fRaise (c : Nat) (a : En → Rs) : En → Fl := fun e => (eTk a e).fl fun r e1 => match r with
  | .sh d => .exc c [d] e1
  | _ => .stuck
theorem es_raise {c : Nat} {f : Str} (hf : (cd c).fl = [f]) (ha : EvD K cd (fun _ => E') ta a) : ES K cd (fun _ => E') kp (fun _ σ H => tMkO (cd c).C (Pt.spXI (cd c).C f) [] (tCons ta tNil) σ H fun cls d H' => E' cls d H') (fRaise c a) := fun {ox} H G e σ g Z w =>
  EvD.fl (ev_tk ha) g w fun r e1 H1 G1 v g1 s1 r1 w1 => by
    cases r with
    | sl _ => exact w1.elim
    | ow _ => exact w1.elim
    | sh d =>
      refine Pt.mkO_ok (f := f) (v := v) fun p hp => ?_
      have gr : Gr H1 G1 (upd H1 p (.xd [(f, v)])) G1 := .new g1.sub hp
      exact w1 _ G1 σ (some p) (g1.grow gr) (s1.trans gr.stp) .refl (.inr ⟨p, _, rfl, s1.back hp, upd_same, by rw [hf]; exact .cons r1 .nil, by simp⟩)
def fRaise0 (c : Nat) : En → Fl := fun e => .exc c [] e
theorem es_raise0 {c : Nat} : ES K cd (fun _ => E') kp (fun _ σ H => E' (.ref (cd c).C) none H) (fRaise0 c) := fun {ox} H G e σ g Z w => w H G σ none g .refl .refl (.inl ⟨rfl, rfl⟩)
/-! try -/
def fTry (body : En → Fl) (cat : Nat → Option Bool) (hd : Nat → List D → Option Rv) : En → Fl := fun e => match body e with
  | .exc c fs e1 => (match cat c with
    | some true => (match hd c fs with
      | some z => .rt z e1
      | none => .stuck)
    | some false => .exc c fs e1
    | none => .stuck)
  | r => r
def XwR (K : PySem.W.Frag) (cd : Nat → Cd) (H G : Hp) (c : Nat) (fs : List D) (od : Option Addr) : Prop :=
  (fs = [] ∧ od = none) ∨ ∃ a fs', od = some a ∧ H a = some (.xd fs') ∧ RpF K cd G (cd c).fl fs fs' ∧ fs ≠ []
theorem Xw.r {M : Addr → Prop} {c : Nat} {fs : List D} {od : Option Addr} (x : Xw K cd H M H' G' c fs od) : XwR K cd H' G' c fs od := by
  rcases x with x | ⟨a, fs', h1, _, h2, h3⟩
  · exact .inl x
  · exact .inr ⟨a, fs', h1, h2, h3⟩
def HdOk (K : PySem.W.Frag) (cd : Nat → Cd) (i : Option Nat) (ts : Addr → Value → Option Addr → TS) (hd : Nat → List D → Option Rv) : Prop :=
  ∀ (H G : Hp) (c : Nat) (fs : List D) (z : Rv) (od : Option Addr) (a : Addr) (σ : St) (Z : Ends), Sub G H → XwR K cd H G c fs od → (∀ j, i = some j → σ[j]? = some (some (V.ref a))) → hd c fs = some z →
    (∀ H' G' v, Gr H G H' G' → Rz K cd H H' G' z v → Z.rt v H') → ts a (.ref (cd c).C) od Z σ H
variable {tw : WX → TS} {body : En → Fl} {cat : Nat → Option Bool} {hd : Nat → List D → Option Rv} {ts : Addr → Value → Option Addr → TS} {cv : Value}
theorem try_low {Z : Ends} {W : WX} {n : Nat} (hcat : ∀ c b, cat c = some b → PySem.W.exmOne K (.ref (cd c).C) cv = some b)
    (hy : ∀ (H G : Hp) (c : Nat) (fs : List D) (z : Rv) (od : Option Addr) (σ : St), σ.length = n → Sub G H → XwR K cd H G c fs od → hd c fs = some z → cat c = some true → (∀ H' G' v, Gr H G H' G' → Rz K cd H H' G' z v → Z.rt v H') → W (.ref (cd c).C) od σ H)
    (hn : ∀ c od H σ, cat c = some false → E' (.ref (cd c).C) od H → W (.ref (cd c).C) od σ H)
    (g : Gd K cd ox H G e σ) (w : FlW K cd ox (fun _ => E') kp Z H G σ e (fTry body cat hd e)) : FlW K cd ox (fun _ => EW n W) kp Z H G σ e (body e) := by
  unfold fTry at w
  cases q : body e with
  | stuck => rw [q] at w; exact w
  | nx e' => rw [q] at w; exact w
  | rt r e' => rw [q] at w; exact w
  | bk e' => rw [q] at w; exact w
  | ct e' => rw [q] at w; exact w
  | exc c fs e' =>
    rw [q] at w
    intro H' G' σ' od g' s' k' x σ2 hl
    cases q2 : cat c with
    | none => simp only [q2] at w; exact w.elim
    | some bb =>
      cases bb with
      | false =>
        simp only [q2] at w
        exact hn c od H' σ2 q2 (w H' G' σ' od g' s' k' x)
      | true =>
        simp only [q2] at w
        cases q3 : hd c fs with
        | none => simp only [q3] at w; exact w.elim
        | some z =>
          simp only [q3] at w
          exact hy H' G' c fs z od σ2 hl g'.sub x.r q3 q2 fun H2 G2 v gr rz => RsW.gr (E := EN) (Q := Z.rt) g' (fun H3 G3 u g3 s3 r3 => w H3 G3 σ' u g3 (s'.trans s3) k' (r3.stp s')) gr rz
theorem es_tryAs {n i : Nat} (hi : i < n) (hcat : ∀ c b, cat c = some b → PySem.W.exmOne K (.ref (cd c).C) cv = some b) (hb : ∀ W, ES K cd (fun _ => EW n W) kp (tw W) body) (hh : HdOk K cd (some i) ts hd) :
    ES K cd (fun _ => E') kp (fun D σ H => tw (wAs K cv i ts (fun cls d _ H => E' cls d H) D) D σ H) (fTry body cat hd) := by
  intro ox H G e σ g Z w
  refine hb _ H G e σ g Z (try_low (cv := cv) hcat (fun H G c fs z od σ hl s x h1 h2 q => ?_) (fun c od H σ h x => ?_) g w)
  · refine ⟨true, hcat c _ h2, fun _ a ha => ?_, fun z => nomatch z⟩
    refine hh H G c fs z od a _ _ s x (fun j hj => ?_) h1 q
    cases hj
    exact List.getElem?_set_self (by rw [hl]; exact hi)
  · exact ⟨false, hcat c _ h, fun z => (nomatch z), fun _ => x⟩
theorem es_tryOnly {n : Nat} (hcat : ∀ c b, cat c = some b → PySem.W.exmOne K (.ref (cd c).C) cv = some b) (hb : ∀ W, ES K cd (fun _ => EW n W) kp (tw W) body) (hh : HdOk K cd none ts hd) :
    ES K cd (fun _ => E') kp (fun D σ H => tw (wOnly K cv ts (fun cls d _ H => E' cls d H) D) D σ H) (fTry body cat hd) := by
  intro ox H G e σ g Z w
  refine hb _ H G e σ g Z (try_low (cv := cv) hcat (fun H G c fs z od σ hl s x h1 h2 q => ?_) (fun c od H σ h x => ?_) g w)
  · exact ⟨true, hcat c _ h2, fun _ a ha => hh H G c fs z od a _ _ s x (fun j hj => nomatch hj) h1 q, fun z => nomatch z⟩
  · exact ⟨false, hcat c _ h, fun z => (nomatch z), fun _ => x⟩
/-! what a clause's suite returns -/
def HvE (K : PySem.W.Frag) (cd : Nat → Cd) (i : Option Nat) (t : Addr → Value → Option Addr → TE) (x : Nat → List D → Option D) : Prop :=
  ∀ (H G : Hp) (c : Nat) (fs : List D) (od : Option Addr) (a : Addr) (σ : St) (d : D), Sub G H → XwR K cd H G c fs od → (∀ j, i = some j → σ[j]? = some (some (V.ref a))) → x c fs = some d → ∃ v, Rp K cd G d v ∧ ∀ Q : VK, Q v H → t a (.ref (cd c).C) od σ H Q
def HvA (K : PySem.W.Frag) (cd : Nat → Cd) (i : Option Nat) (t : Addr → Value → Option Addr → TA) (x : Nat → List D → Option (List D)) : Prop :=
  ∀ (H G : Hp) (c : Nat) (fs : List D) (od : Option Addr) (a : Addr) (σ : St) (ds : List D), Sub G H → XwR K cd H G c fs od → (∀ j, i = some j → σ[j]? = some (some (V.ref a))) → x c fs = some ds → ∃ vs, RpL K cd G ds vs ∧ ∀ Q : List V → Hp → Prop, Q vs H → t a (.ref (cd c).C) od σ H Q
variable {i : Option Nat} {t : Addr → Value → Option Addr → TE} {u : Addr → Value → Option Addr → TA} {x : Nat → List D → Option D} {y : Nat → List D → Option (List D)}
def hC (d : D) : Nat → List D → Option D := fun _ _ => some d
theorem hv_c {v : V} {d : D} (h : ∀ G, Rp K cd G d v) : HvE K cd i (fun _ _ _ => tC v) (hC d) := fun H G c fs od a σ d' s x h1 h2 => by
  cases h2
  exact ⟨v, h G, fun Q q => q⟩
def hFl (c0 j : Nat) : Nat → List D → Option D := fun c fs => if c = c0 then fs[j]? else none
theorem hv_fld {c0 j n : Nat} {f : Str} (nd : (cd c0).fl.Nodup) (hj : (cd c0).fl[j]? = some f) : HvE K cd (some n) (fun a cls od => tXf a cls od (cd c0).C f (tVar n)) (hFl c0 j) := fun H G c fs od a σ d s x h1 h2 => by
  obtain ⟨hc, h4⟩ := if_some (show (if c = c0 then fs[j]? else none) = some d from h2)
  subst hc
  rcases x with ⟨rfl, _⟩ | ⟨p, fs', rfl, hp, rf, _⟩
  · simp at h4
  · obtain ⟨v, hl, r⟩ := rf.lookup nd hj h4
    exact ⟨v, r, fun Q q => ⟨_, h1 n rfl, rfl, rfl, p, fs', v, rfl, hp, hl, q⟩⟩
def hIs (g : Nat → Option Bool) : Nat → List D → Option D := fun c _ => (g c).map .bl
theorem hv_is {g : Nat → Option Bool} {n : Nat} {cv : Value} {v : V} (hv : ∀ u, RelV v u → u = cv) (hg : ∀ c b, g c = some b → ExcC K (cd c).C ∧ PySem.W.kitOne K (.ref (cd c).C) cv = some b) :
    HvE K cd (some n) (fun a cls od => tCB (Pt.rIsX K a cls od) (tCons (tVar n) (tCons (tC v) tNil))) (hIs g) := fun H G c fs od a σ d s x h1 h2 => by
  obtain ⟨b, h3, rfl⟩ := map_some h2
  obtain ⟨e1, e2⟩ := hg c b h3
  refine ⟨.bl b, .bl b, fun Q q => ⟨_, h1 n rfl, v, cv, _, b, rfl, rfl, e1, ?_, hv, e2, q⟩⟩
  rcases x with ⟨_, rfl⟩ | ⟨p, fs', rfl, hp, _⟩
  · exact .inl rfl
  · exact .inr ⟨p, fs', rfl, hp⟩
def hNil : Nat → List D → Option (List D) := fun _ _ => some []
def hCons (x : Nat → List D → Option D) (y : Nat → List D → Option (List D)) : Nat → List D → Option (List D) := fun c fs => (x c fs).bind fun d => (y c fs).map (d :: ·)
theorem ha_nil : HvA K cd i (fun _ _ _ => tNil) hNil := fun H G c fs od a σ ds s x h1 h2 => by
  cases h2
  exact ⟨[], .nil, fun Q q => q⟩
theorem ha_cons (hx : HvE K cd i t x) (hy : HvA K cd i u y) : HvA K cd i (fun a cls od => tCons (t a cls od) (u a cls od)) (hCons x y) := fun H G c fs od a σ ds s xw h1 h2 => by
  obtain ⟨d, h3, h4⟩ := bind_some h2
  obtain ⟨ds', h5, rfl⟩ := map_some h4
  obtain ⟨v, r, q1⟩ := hx H G c fs od a σ d s xw h1 h3
  obtain ⟨vs, rs, q2⟩ := hy H G c fs od a σ ds' s xw h1 h5
  exact ⟨v :: vs, .cons r rs, fun Q q => q1 _ (q2 _ q)⟩
def hRet (x : Nat → List D → Option D) : Nat → List D → Option Rv := fun c fs => (x c fs).map .sh
theorem hd_ret (hx : HvE K cd i t x) : HdOk K cd i (fun a cls od => tRet (t a cls od)) (hRet x) := fun H G c fs z od a σ Z s xw h1 h2 q => by
  obtain ⟨d, h3, rfl⟩ := map_some h2
  obtain ⟨v, r, q1⟩ := hx H G c fs od a σ d s xw h1 h3
  exact q1 _ (q H G v (.refl s) r)
def hRetL (y : Nat → List D → Option (List D)) : Nat → List D → Option Rv := fun c fs => (y c fs).bind fun ds => if ds.length ≤ lim then some (.ow (.lst ds)) else none
theorem hd_retL (hy : HvA K cd i u y) : HdOk K cd i (fun a cls od => tRet (tLst (u a cls od))) (hRetL y) := fun H G c fs z od a σ Z s xw h1 h2 q => by
  obtain ⟨ds, h3, h4⟩ := bind_some h2
  obtain ⟨h5, h4⟩ := if_some h4
  cases h4
  obtain ⟨vs, r, q1⟩ := hy H G c fs od a σ ds s xw h1 h3
  refine q1 _ ⟨by rw [r.len]; exact lim_ok h5, fun p hp => ?_⟩
  exact newO s (fun H' G' u gr rz => q H' G' u gr rz) hp fun H' e => ⟨_, e, r⟩
end
end Dv
/-! dead rows, lists unpacked, all, split, join, divmod, str, enumerate -/
namespace Dv
open PySem PySem.Spec PyProof.Rows L2
open SX (S S_len S_cat)
section
variable {K : PySem.W.Frag} {cd : Nat → Cd} {ox : Addr → Prop} {E : St → XK} {E' : XK} {kp : Nat → Bool} {H G H' G' H1 G1 : Hp} {e e1 : En} {σ : St} {Q : VK} {X : Cx} {ta tb tc te : TE} {a b c : En → Rs}
/-! what is never reached -/
def tDead : TE := fun _ _ _ => False
def sDead : TS := fun _ _ _ => False
theorem pe_dead {x : Expr} : PE X x tDead := ⟨fun _ _ _ _ _ _ h => h.elim⟩
theorem pss_dead {x : List Stmt} : PSs X x sDead := ⟨fun _ _ _ _ _ _ h => h.elim⟩
theorem ps_dead {x : Stmt} : PS X x sDead := ⟨fun _ _ _ _ _ _ h => h.elim⟩
theorem ev_dead : EvD K cd E tDead eStuck := fun {_} _ _ _ _ _ _ w => w
theorem es_dead : ES K cd E kp sDead fNever := fun {_} _ _ _ _ _ _ w => w
/-! a, b = a list -/
def tgUnl (h : List D → En → Option En) : D → En → Option En := fun d e => match d with
  | .lst ds => h ds e
  | _ => none
theorem tg_unl {n : Nat} {gs : TGs} {h : List Dv.D → En → Option En} {vs : List Nat} (hn : ∀ ds e e', h ds e = some e' → ds.length = n) (hh : TgsD K cd kp vs gs h) : TgD K cd kp vs (gUnl K n gs) (tgUnl h) := fun {ox H G e e' σ d v Q} g r q k => by
  cases r with
  | lst h1 h2 => exact ⟨_, _, rfl, SqL.of (g.sub.lst h1), by rw [h2.len]; exact hn _ _ _ q, hh g h2 q k⟩
  | _ => cases q
/-! all -/
def blsD : List D → Option (List Bool)
  | [] => some []
  | .bl b :: ds => (blsD ds).map (b :: ·)
  | _ :: _ => none
theorem bls_v : ∀ {ds : List D} {bs : List Bool} {vs : List V}, blsD ds = some bs → RpL K cd G ds vs → vs = bs.map V.bl
  | [], _, _, h, .nil => by cases h; rfl
  | d :: ds, bs, _, h, .cons a r => by
    cases a with
    | bl b =>
      obtain ⟨bs', h1, rfl⟩ := map_some (show (blsD ds).map (b :: ·) = some bs from h)
      rw [bls_v h1 r]; rfl
    | _ => cases h
def dAll : List D → Option Rv
  | [.lst ds] => (blsD ds).map fun bs => .sh (.bl (bs.all id))
  | _ => none
theorem ol_all : OL K cd (rAll K) dAll := by
  intro H G ds vs z s b h Q q
  match ds, h with
  | [.lst xs], h =>
    obtain ⟨bs, h1, rfl⟩ := map_some h
    obtain ⟨v, rfl, bv⟩ := bvl1 b
    obtain ⟨p, us, rfl, e, r⟩ := bv
    rw [bls_v h1 r] at e
    exact ⟨p, bs, rfl, SqL.of e, Rz.sh s (.bl _) q⟩
/-! texts -/
def unS (x : Str) : D := .str x.cps.toList
theorem rp_unS (x : Str) : Rp K cd G (unS x) (.str x) := by
  have h : S x.cps.toList = x := by simp [S]
  have := Rp.str (K := K) (cd := cd) (G := G) x.cps.toList
  rw [h] at this
  exact this
theorem rp_unSs : ∀ (ys : List Str), RpL K cd G (ys.map unS) (ys.map V.str)
  | [] => .nil
  | y :: r => .cons (rp_unS y) (rp_unSs r)
def dSplit : List D → Option Rv
  | [.str l, .str m] => if l.length ≤ lim ∧ m.length ≠ 0 then some (.ow (.lst ((Txt.split (S l) (S m)).map unS))) else none
  | _ => none
theorem om_split : OM K cd "str" (fun x xs H Q => ∃ a b, x = .str a ∧ xs = [.str b] ∧ (b.length == 0) = false ∧ a.length + 2 ≤ sizeLine ∧ rNewStrs (Txt.split a b) H Q) dSplit := by
  intro H G d ds v vs z s b bs h Q q
  match d, ds, h with
  | .str l, [.str m], h =>
    obtain ⟨⟨h1, h2⟩, h⟩ := if_some h
    cases h
    obtain ⟨u, rfl, bu⟩ := bvl1 bs
    refine ⟨S l, S m, bv_str b, by rw [bv_str bu], by rw [S_len]; simp [h2], by rw [S_len]; exact Nat.le_trans (Nat.add_le_add_right h1 2) (by decide), fun p hp => ?_⟩
    exact newO s q hp fun H' e => ⟨_, e, rp_unSs _⟩
def dJoin : List D → Option Rv
  | [.str l, .lst ds] => if l = [] then (strsD ds).bind fun ps => if ps.flatten.length ≤ lim then some (.sh (.str ps.flatten)) else none else none
  | _ => none
theorem om_join : OM K cd "str" (fun x xs H Q => ∃ (p : Addr) (ps : List (List Nat)), x = .str (S []) ∧ xs = [.ref p] ∧ SqL K H p (ps.map fun l => V.str (S l)) ∧ ps.flatten.length ≤ 1000000 ∧ Q (.str (S ps.flatten)) H) dJoin := by
  intro H G d ds v vs z s b bs h Q q
  match d, ds, h with
  | .str l, [.lst xs], h =>
    obtain ⟨h1, h⟩ := if_some h
    obtain ⟨ps, h2, h⟩ := bind_some h
    obtain ⟨h3, h⟩ := if_some h
    cases h
    subst h1
    obtain ⟨u, rfl, bu⟩ := bvl1 bs
    obtain ⟨p, us, rfl, e, r⟩ := bu
    rw [strs_eq h2] at r
    have ev := strs_v r
    rw [List.map_map] at ev
    rw [ev] at e
    exact ⟨p, ps, bv_str b, rfl, SqL.of e, h3, Rz.sh s (.str _) q⟩
def dStrI : List D → Option Rv
  | [.int i] => if i.natAbs.log2 < 1920 then some (.sh (unS (toString i : String))) else none
  | _ => none
theorem ol_strI : OL K cd (fun xs H Q => ∃ i : Int, xs = [.int i] ∧ i.natAbs.log2 < 1920 ∧ Q (.str (toString i : String)) H) dStrI := by
  intro H G ds vs z s b h Q q
  match ds, h with
  | [.int i], h =>
    obtain ⟨h1, h⟩ := if_some h
    cases h
    obtain ⟨v, rfl, bv⟩ := bvl1 b
    exact ⟨i, by rw [bv_int bv], h1, Rz.sh s (rp_unS _) q⟩
def dDivmod : List D → Option Rv
  | [.int i, .int j] => if (decide (0 < j) && !Builtin.divisionGoesByPylong i j) = true then some (.sh (.tup [.int (i / j), .int (i % j)])) else none
  | _ => none
theorem ol_divmod : OL K cd (fun xs H Q => ∃ i j, xs = [.int i, .int j] ∧ CDivP i j ∧ ∀ p, H p = none → Q (.ref p) (upd H p (.tup [.int (i / j), .int (i % j)]))) dDivmod := by
  intro H G ds vs z s b h Q q
  match ds, h with
  | [.int i, .int j], h =>
    obtain ⟨h1, h⟩ := if_some h
    cases h
    rw [Bool.and_eq_true, decide_eq_true_eq, Bool.not_eq_true'] at h1
    obtain ⟨v, w, rfl, b1, b2⟩ := bvl2 b
    exact ⟨i, j, by rw [bv_int b1, bv_int b2], ⟨h1.1, h1.2⟩, fun p hp => newSh s q hp fun G' gs e => .tup e (.cons (.int _) (.cons (.int _) .nil))⟩
/-! is True -/
def dNotB : D → D → Option Rv
  | .bl a, .bl b => some (.sh (.bl (!decide (a = b))))
  | _, _ => none
/-! enumerate and the like: a list or a tuple walked in another way -/
def iMap (mp : List D → List D) (f : En → Is) : En → Is := fun e => match f e with
  | .ok ds e1 => .ok (mp ds) e1
  | r => r
def iGen (K : PySem.W.Frag) (Jl Jt : Addr → It) (te : TE) : TI := fun σ H R => te σ H fun x H1 => ∃ a xs, [x] = [.ref a] ∧ ((SqL K H1 a xs ∧ R (Jl a) H1) ∨ (SqT K H1 a xs ∧ R (Jt a) H1))
theorem ei_gen {Jl Jt : Addr → It} {mp : List D → List D} (hL : ∀ {G : Hp} {P : Pins} {p : Addr} {vs : List V} {ds : List D}, (p, .lst vs) ∈ P → RpL K cd G ds vs → Wk K cd G (Jl p) P (mp ds))
    (hT : ∀ {G : Hp} {P : Pins} {p : Addr} {vs : List V} {ds : List D}, (∀ H2 G2, Same G G2 → Sub G2 H2 → SqT K H2 p vs) → RpL K cd G ds vs → Wk K cd G (Jt p) P (mp ds)) (ha : EvD K cd E ta a) : EvI K cd E (iGen K Jl Jt ta) (iMap mp (iSeq a)) := by
  have low : ∀ {ox : Addr → Prop} {H1 G1 : Hp} {e1 : En} {σ : St} {r : Rv} {v : V} {d : D} {ds : List D}, Gd K cd ox H1 G1 e1 σ → Pd K cd G1 σ r v → rdv e1 r = some d → PdN e1 r → seqD d = some ds →
      ∃ p vs, v = .ref p ∧ ((SqL K H1 p vs ∧ ∃ P, PinOk P H1 e1 σ ∧ Wk K cd G1 (Jl p) P (mp ds)) ∨ (SqT K H1 p vs ∧ ∃ P, PinOk P H1 e1 σ ∧ Wk K cd G1 (Jt p) P (mp ds))) := by
    intro ox H1 G1 e1 σ r v d ds g pd h hn hs
    have bv := g.rd pd h
    cases d with
    | lst xs =>
      cases hs
      obtain ⟨p, vs, rfl, hp, rl⟩ := bv
      refine ⟨p, vs, rfl, .inl ⟨SqL.of hp, [(p, .lst vs)], fun q hq => ?_, hL (List.mem_singleton.mpr rfl) rl⟩⟩
      rw [List.mem_singleton.mp hq]
      exact ⟨hp, g.pinA pd h hn rfl rfl⟩
    | tup xs =>
      cases hs
      obtain ⟨p, vs, rfl, hp, rl, rp⟩ := bv
      cases rp with
      | tup h1 h2 => exact ⟨p, _, rfl, .inr ⟨SqT.of (g.sub.tup h1), [], fun q hq => (by cases hq), hT (fun H2 G2 sg sb => SqT.of (sb.tup (sg _ _ h1))) h2⟩⟩
      | tupK h1 h2 => exact ⟨p, _, rfl, .inr ⟨h1 _, [], fun q hq => (by cases hq), hT (fun H2 G2 sg sb => h1 H2) h2⟩⟩
    | _ => cases hs
  constructor
  · intro ox H G e σ Q k R g w hk
    refine ev_tb ha H G e σ g (fun x H1 => ∃ a xs, [x] = [.ref a] ∧ ((SqL K H1 a xs ∧ R (Jl a) H1) ∨ (SqT K H1 a xs ∧ R (Jt a) H1))) ?_
    unfold iMap iSeq at w
    cases q : eTb a e with
    | stuck => rw [q] at w; exact w
    | exc c fs e' => rw [q] at w; exact w
    | ok r e1 =>
      rw [q] at w
      intro H1 G1 v g1 s1 p1
      cases q2 : (rdv e1 r).bind seqD with
      | none => simp only [q2] at w; exact w.elim
      | some ds =>
        simp only [q2] at w
        obtain ⟨d, hd, hs⟩ := bind_some q2
        have pd : Pd K cd G1 σ r v := by
          cases r with
          | sl _ => exact p1
          | sh _ => exact p1
          | ow _ => cases hd
        obtain ⟨p, vs, rfl, hh⟩ := low g1 pd hd (tb_sl q) hs
        refine ⟨p, vs, rfl, ?_⟩
        rcases hh with ⟨h1, P, h2, h3⟩ | ⟨h1, P, h2, h3⟩
        · exact .inl ⟨h1, hk (mp ds) e1 H1 G1 _ P g1 s1 h2 h3 (RsW.stp w s1)⟩
        · exact .inr ⟨h1, hk (mp ds) e1 H1 G1 _ P g1 s1 h2 h3 (RsW.stp w s1)⟩
  · intro ox kp H G e σ Z k R g w hk
    refine ev_tb ha H G e σ g (fun x H1 => ∃ a xs, [x] = [.ref a] ∧ ((SqL K H1 a xs ∧ R (Jl a) H1) ∨ (SqT K H1 a xs ∧ R (Jt a) H1))) ?_
    unfold iMap iSeq at w
    cases q : eTb a e with
    | stuck => rw [q] at w; exact w
    | exc c fs e' =>
      rw [q] at w
      exact fun H1 G1 od g1 s1 x => w H1 G1 σ od g1 s1 .refl x
    | ok r e1 =>
      rw [q] at w
      intro H1 G1 v g1 s1 p1
      cases q2 : (rdv e1 r).bind seqD with
      | none => simp only [q2] at w; exact w.elim
      | some ds =>
        simp only [q2] at w
        obtain ⟨d, hd, hs⟩ := bind_some q2
        have pd : Pd K cd G1 σ r v := by
          cases r with
          | sl _ => exact p1
          | sh _ => exact p1
          | ow _ => cases hd
        obtain ⟨p, vs, rfl, hh⟩ := low g1 pd hd (tb_sl q) hs
        refine ⟨p, vs, rfl, ?_⟩
        rcases hh with ⟨h1, P, h2, h3⟩ | ⟨h1, P, h2, h3⟩
        · exact .inl ⟨h1, hk (mp ds) e1 H1 G1 _ P g1 s1 h2 h3 (FlW.stp w s1 .refl)⟩
        · exact .inr ⟨h1, hk (mp ds) e1 H1 G1 _ P g1 s1 h2 h3 (FlW.stp w s1 .refl)⟩
def enumD : Nat → List D → List D
  | _, [] => []
  | n, d :: ds => .tup [.int (n : Nat), d] :: enumD (n + 1) ds
theorem enumD_len : ∀ (ds : List D) (n : Nat), (enumD n ds).length = ds.length
  | [], _ => rfl
  | _ :: ds, n => by simp [enumD, enumD_len ds (n + 1)]
theorem enumD_at : ∀ (ds : List D) (n i : Nat) {d : D}, ds[i]? = some d → (enumD n ds)[i]? = some (.tup [.int ((n + i : Nat) : Int), d])
  | [], _, _, _, h => by simp at h
  | x :: ds, n, 0, d, h => by simp at h; subst h; rfl
  | x :: ds, n, i + 1, d, h => by
    have := enumD_at ds (n + 1) i (d := d) (by simpa using h)
    rw [show n + 1 + i = n + (i + 1) by omega] at this
    simpa [enumD] using this
theorem wk_enum {J : It} {P : Pins} {vs : List V} {ds : List D} (r : RpL K cd G ds vs) (h : ∀ i H2 G2, Same G G2 → Sub G2 H2 → (∀ p ∈ P, H2 p.1 = some p.2) →
      (vs.length ≤ i → J.stop i H2) ∧ (∀ x, vs[i]? = some x → J.go i H2) ∧ ∀ v H3, J.yld i H2 v H3 → ∃ T x, v = .ref T ∧ H2 T = none ∧ H3 = upd H2 T (.tup [.int (i : Nat), x]) ∧ vs[i]? = some x) : Wk K cd G J P (enumD 0 ds) := fun i H2 G2 sg sb pin => by
  obtain ⟨h1, h2, h3⟩ := h i H2 G2 sg sb pin
  rw [enumD_len]
  refine ⟨fun z => h1 (by rw [r.len]; exact z), fun z => h2 _ (List.getElem?_eq_getElem (by rw [r.len]; exact z)), fun z v H3 y => ?_⟩
  obtain ⟨T, x, rfl, hT, rfl, hx⟩ := h3 v H3 y
  obtain ⟨d, hd, rd⟩ := r.atV hx
  refine ⟨upd G2 T (.tup [.int (i : Nat), x]), .tup [.int (i : Nat), d], .newS sb hT, ?_, .tup upd_same (.cons (.int _) (.cons (rd.mono (sg.trans (same_upd (sb.some hT)))) .nil))⟩
  have := enumD_at ds 0 i hd
  rw [Nat.zero_add] at this
  exact this
theorem ei_enum (ha : EvD K cd E ta a) : EvI K cd E (iGen K (Ite K) (L2.IteT K) ta) (iMap (enumD 0) (iSeq a)) := ei_gen
  (fun {G P p vs ds} hp r => wk_enum r fun i H2 G2 sg sb pin => by
    have hq : SqL K H2 p vs := SqL.of (pin _ hp)
    exact ⟨fun z => ⟨vs, hq, z⟩, fun x hx => ⟨vs, x, hq, hx⟩, fun v H3 ⟨T, x, h1, h2, h3, h4⟩ => ⟨T, x, h1, h2, h3, h4 vs hq⟩⟩)
  (fun {G P p vs ds} hp r => wk_enum r fun i H2 G2 sg sb pin => by
    have hq : SqT K H2 p vs := hp H2 G2 sg sb
    exact ⟨fun z => ⟨vs, hq, z⟩, fun x hx => ⟨vs, x, hq, hx⟩, fun v H3 ⟨T, x, h1, h2, h3, h4⟩ => ⟨T, x, h1, h2, h3, h4 vs hq⟩⟩) ha
end
end Dv
/-! own + and the like, zip, what a temporary list takes, a written dict, clauses that choose -/
namespace Dv
open PySem PySem.Spec PyProof.Rows L2
open SX (S S_len S_cat)
/-! a op b by an own method that gives an object -/
section
variable {X : Cx} {CX : CXT} {k : Nat} {f C : Addr} {fd : FuncData} {ps : List Str} {sp : Sp} {E : XK}
def rBinOwn (C : Addr) (sp : Sp) (E : XK) : R2 := fun x y H Q => ∃ (p q dp dq : Addr) (us ws : List (Str × V)), x = .ref p ∧ y = .ref q ∧ H p = some (.ins C dp us) ∧ H q = some (.ins C dq ws) ∧
  sp [x, y] H (fun z H2 => (∃ r, z = .ref r) ∧ Q z H2) E
theorem op_binOwn {o : Operator} (F : FnOk X.prog X.w X.K X.mg X.base CX k f fd ps sp) (hr : Room k X.A) (hc : PySem.W.selfFirst X.K C = true) (hs : PySem.W.findIn X.K (.ref C) (PySem.dunder o.info.2) = some (some (.ref f))) (hf : PySem.W.isFn X.K (.ref f) = true) (hb : Binds X.K fd ps []) (hx : Passes CX X E) :
    OpR X (binaryOp o) (rBinOwn C sp E) := by
  intro pins s σ H x y v u Q J rx ry h
  obtain ⟨p, q, dp, dq, us, ws, rfl, rfl, hp, hq, w⟩ := h
  cases rx
  cases ry
  obtain ⟨m1, O1, _⟩ := ins_get J.hok hp
  obtain ⟨od1, I1, _⟩ := O1.look
  obtain ⟨m2, O2, _⟩ := ins_get J.hok hq
  obtain ⟨od2, I2, _⟩ := O2.look
  obtain ⟨m, hF⟩ := J.fr
  refine PySem.W.binop_K hF J.ok.mod.kin I1 I2.type hc hs hf ?_
  refine thn (run_fn F hr hb .nil hx J (show Vals [V.ref p, V.ref q] [Value.ref p, Value.ref q] from .cons rfl (.cons rfl .nil)) w) fun r s' ⟨z, H2, J2, rz, ⟨a, ez⟩, qz⟩ => ?_
  subst ez
  cases rz
  exact ⟨.ref a, H2, J2, rfl, qz⟩
end
section
variable {K : PySem.W.Frag} {cd : Nat → Cd} {ox : Addr → Prop} {E : St → XK} {E' : XK} {kp : Nat → Bool} {H G H' G' H1 G1 : Hp} {e e1 : En} {σ : St} {Q : VK} {X : Cx} {ta tb tc te : TE} {a b c : En → Rs}
def isRefR : Rs → Rs
  | .ok (.sh d) e => if isM d = true then .ok (.sh d) e else .stuck
  | .ok (.ow d) e => .ok (.ow d) e
  | .ok (.sl _) _ => .stuck
  | r => r
def eBinOwn (c : Nat) (ms : List Md) (f : En → Rs) (a b : En → Rs) : En → Rs := fun e => (pubR (a e)).bind fun r1 e1 => (pubR (b e1)).bind fun r2 e2 =>
  if ((match rdv e2 r1 with | some d => isObj c d | none => false) && (match rdv e2 r2 with | some d => isObj c d | none => false)) = true then isRefR (runF ms f [r1, r2] e2) else .stuck
theorem isRef_w {r : Rs} (w : RsW K cd ox E Q H G σ e (isRefR r)) : RsW K cd ox E (fun z H2 => (∃ r, z = .ref r) ∧ Q z H2) H G σ e r := by
  cases r with
  | stuck => exact w
  | exc c fs e' => exact w
  | ok r e' =>
    cases r with
    | sl i => exact w.elim
    | ow d => exact fun H1 G1 v g s p => ⟨by obtain ⟨x, rfl, _⟩ := p; exact ⟨x, rfl⟩, w H1 G1 v g s p⟩
    | sh d =>
      have w' : RsW K cd ox E Q H G σ e (if isM d = true then .ok (.sh d) e' else .stuck) := w
      by_cases hm : isM d = true
      · rw [if_pos hm] at w'
        exact fun H1 G1 v g s p => ⟨by
          have p' : Rp K cd G1 d v := p
          obtain ⟨x, o, h1⟩ : ∃ x, v = .ref x ∧ True := by
            cases p' with
            | lst _ _ => exact ⟨_, rfl, True.intro⟩
            | dct _ _ => exact ⟨_, rfl, True.intro⟩
            | obj _ _ => exact ⟨_, rfl, True.intro⟩
            | _ => cases hm
          exact ⟨x, o⟩, w' H1 G1 v g s p⟩
      · rw [if_neg hm] at w'; exact w'.elim
theorem ev_binOwnW {c : Nat} {ms : List Md} {f : En → Rs} {sp : Sp} {E1 : XK} (hsp : ∀ {ox : Addr → Prop} {H1 G1 : Hp} {e2 : En} {σ : St} {Q : VK} {rs : List Rv} {vs : List V}, Gd K cd ox H1 G1 e2 σ → PdL K cd G1 σ rs vs → RsW K cd ox E Q H1 G1 σ e2 (runF ms f rs e2) → sp vs H1 Q E1)
    (ha : EvD K cd E ta a) (hb : EvD K cd E tb b) : EvD K cd E (tOp (rBinOwn (cd c).C sp E1) ta tb) (eBinOwn c ms f a b) := fun {ox} H G e σ g Q w =>
  ha.seq g (fun r1 e1 H1 G1 v1 g1 _ p1 w1 => hb.seq g1 (fun r2 e2 H2 G2 v2 g2 s2 p2 w2 => by
    have w3 : RsW K cd ox E Q H2 G2 σ e2 (if ((match rdv e2 r1 with | some d => isObj c d | none => false) && (match rdv e2 r2 with | some d => isObj c d | none => false)) = true then isRefR (runF ms f [r1, r2] e2) else .stuck) := w2
    by_cases hc : ((match rdv e2 r1 with | some d => isObj c d | none => false) && (match rdv e2 r2 with | some d => isObj c d | none => false)) = true
    · rw [if_pos hc] at w3
      rw [Bool.and_eq_true] at hc
      obtain ⟨p, dp, us, _, rfl, hp, _⟩ := isObj_at g2 (p1.mono s2) hc.1
      obtain ⟨q, dq, ws, _, rfl, hq, _⟩ := isObj_at g2 p2 hc.2
      exact ⟨p, q, dp, dq, us, ws, rfl, rfl, hp, hq, hsp g2 (.cons (p1.mono s2) (.cons p2 .nil)) (isRef_w w3)⟩
    · rw [if_neg hc] at w3; exact w3.elim) w1) w
theorem ev_binOwn {c : Nat} {ms : List Md} {f : En → Rs} (ha : EvD K cd (fun _ => E') ta a) (hb : EvD K cd (fun _ => E') tb b) : EvD K cd (fun _ => E') (tOp (rBinOwn (cd c).C (spD K cd f) E') ta tb) (eBinOwn c ms f a b) := ev_binOwnW (sp := spD K cd f) (E := fun _ => E') (E1 := E') (fun g p w => sp_run g p w) ha hb
theorem ev_binOwn0 {c : Nat} {ms : List Md} {f : En → Rs} {E1 : XK} (ha : EvD K cd E ta a) (hb : EvD K cd E tb b) : EvD K cd E (tOp (rBinOwn (cd c).C (spD0 K cd f) E1) ta tb) (eBinOwn c ms (fun e => noX (f e)) a b) := ev_binOwnW (f := fun e => noX (f e)) (fun g p w => sp_run0 (f := f) g p w) ha hb
/-! an object made with keywords, its error handed on -/
theorem ev_makeK {c n m : Nat} {ms : List Md} {f : En → Rs} {gR : List Rv → List Rv → List Rv} {gV : List V → List V → List V} {as ks : En → As} {t tk : TA}
    (hg : ∀ {G : Hp} {σ : St} {rs zs : List Rv} {vs us : List V} {x : V}, rs.length = n → zs.length = m → PdL K cd G σ rs vs → PdL K cd G σ zs us → ∃ ws, gV (x :: vs) us = x :: ws ∧ PdL K cd G σ (gR rs zs) ws)
    (has : EvA K cd (fun _ => E') t as) (hks : EvA K cd (fun _ => E') tk ks) : EvD K cd (fun _ => E') (tMakeK (cd c).C n m (spD K cd f) gV E' t tk) (eMakeK c n m ms f gR as ks) := fun {ox} H G e σ g Q w =>
  has g (fun rs e1 H1 G1 vs g1 _ p1 w1 => hks g1 (fun zs e2 H2 G2 us g2 s2 p2 w2 => by
    have w2' : RsW K cd ox (fun _ => E') Q H2 G2 σ e2 (if rs.length = n ∧ zs.length = m then mkR c ms f id (gR rs zs) e2 else .stuck) := w2
    by_cases hc : rs.length = n ∧ zs.length = m
    · rw [if_pos hc] at w2'
      have p1' := p1.mono s2
      refine ⟨by rw [p1'.len]; exact hc.1, by rw [p2.len]; exact hc.2, fun x dx hx hdx ne => ?_⟩
      obtain ⟨ws, e1', pw⟩ := hg (x := .ref x) hc.1 hc.2 p1' p2
      rw [e1']
      exact mk_run g2 pw w2' hx hdx ne
    · rw [if_neg hc] at w2'; exact w2'.elim) w1) w
/-! x is not True -/
theorem o2_notB : O2 K cd rNotB dNotB := by
  intro H G x y v w z s bx yb h Q q
  cases x with
  | bl p => cases y with
    | bl r =>
      cases h
      cases bx
      cases yb
      exact ⟨p, r, rfl, rfl, Rz.sh s (.bl _) q⟩
    | _ => cases h
  | _ => cases h
/-! a written dict's keys -/
def dInW (g : List Nat → Option Bool) : D → Option Rv
  | .str l => (g l).map fun b => .sh (.bl b)
  | _ => none
theorem ev_inW {d : Addr} {g : List Nat → Option Bool} (hg : ∀ l b, g l = some b → ∃ r, PySem.W.nsIn K d (S l) = some r ∧ r.isSome = b) (ha : EvD K cd E ta a) :
    EvD K cd E (tOp (fun x y H Q => ∃ (z : Str) (r : Option Value), x = .str z ∧ y = .ref d ∧ PySem.W.nsIn K d z = some r ∧ Q (.bl r.isSome) H) ta (tC (.ref d))) (eOp1 (dInW g) a) := fun {ox} H G e σ gd Q w =>
  ha.seq gd (fun r e1 H1 G1 v g1 _ p1 w1 => by
    obtain ⟨z, hz, w3⟩ := opR_some w1
    obtain ⟨x, hx, hz⟩ := bind_some hz
    cases x with
    | str l =>
      obtain ⟨b, h1, rfl⟩ := map_some hz
      obtain ⟨r, h2, rfl⟩ := hg l b h1
      exact ⟨S l, r, bv_str (g1.rd p1 hx), rfl, h2, Rz.sh g1.sub (.bl _) fun H' G' u gr rz => w3.gr g1 gr rz⟩
    | _ => cases hz) w
end
end Dv
/-! a written dict's items, zip, a temporary list's append, clauses that choose -/
namespace Dv
open PySem PySem.Spec PyProof.Rows L2
open SX (S S_len S_cat)
section
variable {K : PySem.W.Frag} {cd : Nat → Cd} {ox : Addr → Prop} {E : St → XK} {E' : XK} {kp : Nat → Bool} {H G H' G' H1 G1 : Hp} {e e1 : En} {σ : St} {Q : VK} {X : Cx} {ta tb tc te : TE} {a b c : En → Rs}
def dNiW (g : List Nat → Option Bool) : D → Option Rv
  | .str l => (g l).map fun b => .sh (.bl (!b))
  | _ => none
theorem ev_niW {d : Addr} {g : List Nat → Option Bool} (hg : ∀ l b, g l = some b → ∃ r, PySem.W.nsIn K d (S l) = some r ∧ r.isSome = b) (ha : EvD K cd E ta a) :
    EvD K cd E (tOp (fun x y H Q => ∃ (z : Str) (r : Option Value), x = .str z ∧ y = .ref d ∧ PySem.W.nsIn K d z = some r ∧ Q (.bl (!r.isSome)) H) ta (tC (.ref d))) (eOp1 (dNiW g) a) := fun {ox} H G e σ gd Q w =>
  ha.seq gd (fun r e1 H1 G1 v g1 _ p1 w1 => by
    obtain ⟨z, hz, w3⟩ := opR_some w1
    obtain ⟨x, hx, hz⟩ := bind_some hz
    cases x with
    | str l =>
      obtain ⟨b, h1, rfl⟩ := map_some hz
      obtain ⟨r, h2, rfl⟩ := hg l b h1
      exact ⟨S l, r, bv_str (g1.rd p1 hx), rfl, h2, Rz.sh g1.sub (.bl _) fun H' G' u gr rz => w3.gr g1 gr rz⟩
    | _ => cases hz) w
def dIxW (g : List Nat → Option D) : D → Option Rv
  | .str l => (g l).map .sh
  | _ => none
theorem ev_ixW {d : Addr} {w0 : World} {g : List Nat → Option D} (hg : ∀ l x, g l = some x → ∃ v, KDct K w0 d (S l) v ∧ ∀ G, Rp K cd G x v) (hb : EvD K cd E tb b) :
    EvD K cd E (tOp (rIxD K w0) (tC (.ref d)) tb) (eOp1 (dIxW g) b) := fun {ox} H G e σ gd Q w =>
  hb.seq gd (fun r e1 H1 G1 v g1 _ p1 w1 => by
    obtain ⟨z, hz, w3⟩ := opR_some w1
    obtain ⟨x, hx, hz⟩ := bind_some hz
    cases x with
    | str l =>
      obtain ⟨y, h1, rfl⟩ := map_some hz
      obtain ⟨u, h2, h3⟩ := hg l y h1
      exact ⟨d, S l, u, rfl, bv_str (g1.rd p1 hx), h2, Rz.sh g1.sub (h3 _) fun H' G' u gr rz => w3.gr g1 gr rz⟩
    | _ => cases hz) w
/-! zip of a tuple and a list -/
def zipD : List D → List D → List D
  | x :: xs, y :: ys => .tup [x, y] :: zipD xs ys
  | _, _ => []
theorem zipD_at : ∀ (xs ys : List D) (i : Nat) {x y : D}, xs[i]? = some x → ys[i]? = some y → (zipD xs ys)[i]? = some (.tup [x, y])
  | [], _, _, _, _, h, _ => by simp at h
  | _ :: _, [], _, _, _, _, h => by simp at h
  | _ :: _, _ :: _, 0, _, _, h1, h2 => by simp at h1 h2; subst h1 h2; rfl
  | _ :: xs, _ :: ys, i + 1, _, _, h1, h2 => by
    have := zipD_at xs ys i (by simpa using h1) (by simpa using h2)
    simpa [zipD] using this
theorem zipD_len : ∀ (xs ys : List D), (zipD xs ys).length = min xs.length ys.length
  | [], _ => by simp [zipD]
  | _ :: _, [] => by simp [zipD]
  | _ :: xs, _ :: ys => by simp [zipD, zipD_len xs ys]
def zipO (rs : List Rv) (e : En) : Is := match rs with
  | [r1, .sh (.lst ys)] => (match rdv e r1 with
    | some (.tup xs) => .ok (zipD xs ys) e
    | _ => .stuck)
  | _ => .stuck
def iZip (f : En → As) : En → Is := fun e => match f e with
  | .ok rs e1 => zipO rs e1
  | .exc c fs e1 => .exc c fs e1
  | .stuck => .stuck
theorem iZip_r {f : En → As} {k : List D → En → Rs} {e : En} : (iZip f e).bind k = (f e).bind fun rs e1 => (zipO rs e1).bind k := by
  unfold iZip
  cases f e <;> rfl
theorem iZip_s {f : En → As} {k : List D → En → Fl} {e : En} : (iZip f e).fl k = (f e).fl fun rs e1 => (zipO rs e1).fl k := by
  unfold iZip
  cases f e <;> rfl
theorem wk_zip {p q : Addr} {us ws : List V} {xs ys : List D} (hp : ∀ H2 G2, Same G G2 → Sub G2 H2 → SqT K H2 p us) (r1 : RpL K cd G xs us) (r2 : RpL K cd G ys ws) : Wk K cd G (ItzM K p q) [(q, .lst ws)] (zipD xs ys) := fun i H2 G2 sg sb pin => by
  have hx : SqT K H2 p us := hp H2 G2 sg sb
  have hy : SqL K H2 q ws := SqL.of (pin (q, .lst ws) (List.mem_singleton.mpr rfl))
  rw [zipD_len]
  refine ⟨fun z => ⟨us, ws, hx, hy, by rw [r1.len, r2.len]; omega⟩, fun z => ⟨us, ws, us[i]'(by rw [r1.len]; omega), ws[i]'(by rw [r2.len]; omega), hx, hy, List.getElem?_eq_getElem _, List.getElem?_eq_getElem _⟩, fun z v H3 ⟨T, x, y, h1, h2, h3, h4, h5⟩ => ?_⟩
  subst h1 h3
  obtain ⟨d1, e1, q1⟩ := r1.atV (h4 us hx)
  obtain ⟨d2, e2, q2⟩ := r2.atV (h5 ws hy)
  have sm := sg.trans (same_upd (o := .tup [x, y]) (sb.some h2))
  exact ⟨upd G2 T (.tup [x, y]), .tup [d1, d2], .newS sb h2, zipD_at xs ys i e1 e2, .tup upd_same (.cons (q1.mono sm) (.cons (q2.mono sm) .nil))⟩
theorem zipO_v {rs : List Rv} {vs : List V} {J : Is} (g : Gd K cd ox H G e σ) (p : PdL K cd G σ rs vs) (h : zipO rs e = J) (hn : J ≠ .stuck) :
    ∃ xs ys p q us ws, J = .ok (zipD xs ys) e ∧ vs = [.ref p, .ref q] ∧ SqT K H p us ∧ SqL K H q ws ∧ (∃ P, PinOk P H e σ ∧ Wk K cd G (ItzM K p q) P (zipD xs ys)) := by
  unfold zipO at h
  split at h
  · rename_i r1 ys
    split at h
    · rename_i xs q1
      cases p with
      | cons p1 p =>
        cases p with
        | cons p2 p =>
          cases p
          obtain ⟨a, us, rfl, hx, rx, rt⟩ := g.rd p1 q1
          have p2' : Rp K cd G (.lst ys) _ := p2
          cases p2' with
          | lst hq ry =>
            have hq' := g.sub.lst hq
            obtain ⟨us', hper, rx'⟩ : ∃ us', (∀ H2 G2, Same G G2 → Sub G2 H2 → SqT K H2 a us') ∧ RpL K cd G xs us' := by
              cases rt with
              | tup h1 h2 => exact ⟨_, fun H2 G2 sg sb => SqT.of (sb.tup (sg _ _ h1)), h2⟩
              | tupK h1 h2 => exact ⟨_, fun H2 _ _ _ => h1 H2, h2⟩
            refine ⟨xs, ys, a, _, us', _, h.symm, rfl, hper H G (Same.refl _) g.sub, SqL.of hq', [_], fun z hz => ?_, wk_zip hper rx' ry⟩
            rw [List.mem_singleton.mp hz]
            exact ⟨hq', g.pinA (r := .sh (.lst ys)) (d := .lst ys) p2 rfl True.intro rfl rfl⟩
    · exact absurd h.symm hn
  · exact absurd h.symm hn
theorem ei_zip {t : TA} {f : En → As} (hf : EvB K cd E t f) : EvI K cd E (iZipM K t) (iZip f) where
  r := fun {ox H G e σ Q k R} g w hk => by
    rw [iZip_r] at w
    refine hf.r g w fun rs e1 H1 G1 vs g1 s1 p1 w1 => ?_
    cases hJ : zipO rs e1 with
    | stuck => rw [hJ] at w1; exact w1.elim
    | exc c fs e' => obtain ⟨_, _, _, _, _, _, z, _⟩ := zipO_v g1 p1 hJ (fun z => nomatch z); cases z
    | ok items e' =>
      obtain ⟨xs, ys, p, q, us, ws, z, rfl, h1, h2, P, h3, h4⟩ := zipO_v g1 p1 hJ (fun z => nomatch z)
      cases z
      rw [hJ] at w1
      exact ⟨p, q, us, ws, rfl, h1, h2, hk _ e1 H1 G1 _ P g1 s1 h3 h4 w1⟩
  s := fun {ox kp H G e σ Z k R} g w hk => by
    rw [iZip_s] at w
    refine hf.s g w fun rs e1 H1 G1 vs g1 s1 p1 w1 => ?_
    cases hJ : zipO rs e1 with
    | stuck => rw [hJ] at w1; exact w1.elim
    | exc c fs e' => obtain ⟨_, _, _, _, _, _, z, _⟩ := zipO_v g1 p1 hJ (fun z => nomatch z); cases z
    | ok items e' =>
      obtain ⟨xs, ys, p, q, us, ws, z, rfl, h1, h2, P, h3, h4⟩ := zipO_v g1 p1 hJ (fun z => nomatch z)
      cases z
      rw [hJ] at w1
      exact ⟨p, q, us, ws, rfl, h1, h2, hk _ e1 H1 G1 _ P g1 s1 h3 h4 w1⟩
/-! a list that no name holds takes one more -/
def eAppT (x : En → Option D) (a : En → Rs) : En → Rs := fun e => (a e).bind fun r e1 => match r with
  | .ow (.lst xs) => if (decide (xs.length < lim) && (x e1).isSome) = true then .ok (.sh .non) e1 else .stuck
  | _ => .stuck
theorem Gd.wr (g : Gd K cd ox H G e σ) {p : Addr} {o : HO} (n : G p = none) (nm : ¬ Mn e σ p) (nb : ∀ (i : Nat) (d : D), e[i]? = some (Sl.bo d) → σ[i]? ≠ some (some (V.ref p))) : Gd K cd ox (upd H p o) G e σ where
  sub := sub_write g.sub n
  len := g.len
  sh := g.sh
  bo := fun i d h => by
    obtain ⟨b, x, y, m, z⟩ := g.bo i d h
    have hb : b ≠ p := fun q => nb i d h (by rw [x, q])
    exact ⟨b, x, y.step m (fun o' ho => by rw [upd_ne hb]; exact ho) (Same.refl _), m, z⟩
  ow := fun i d h => by
    obtain ⟨b, x, y, z⟩ := g.ow i d h
    have hb : b ≠ p := fun q => nm ⟨i, d, h, by rw [x, q]⟩
    exact ⟨b, x, y, z.mono (fun o' ho => by rw [upd_ne hb]; exact ho) (Same.refl _)⟩
  old := fun b hb => by
    obtain ⟨o', ho⟩ := g.old b hb
    by_cases q : b = p
    · exact ⟨o, by rw [q, upd_same]⟩
    · exact ⟨o', by rw [upd_ne q]; exact ho⟩
  inj := g.inj
theorem ev_appT {x : En → Option D} (ha : EvD K cd E ta a) (hx : EvV K cd tb x) : EvD K cd E (tBM K "list" rAppend ta (tCons tb tNil)) (eAppT x a) := fun {ox} H G e σ g Q w => by
  refine ha H G e σ g _ ?_
  unfold eAppT at w
  cases q : a e with
  | stuck => rw [q] at w; exact w
  | exc c fs e' => rw [q] at w; exact w
  | ok r e1 =>
    rw [q] at w
    cases r with
    | sl _ => exact w.elim
    | sh _ => exact w.elim
    | ow d =>
      cases d with
      | lst xs =>
        have w2 : RsW K cd ox E Q H G σ e (if (decide (xs.length < lim) && (x e1).isSome) = true then .ok (.sh .non) e1 else .stuck) := w
        by_cases hc : (decide (xs.length < lim) && (x e1).isSome) = true
        · rw [if_pos hc] at w2
          rw [Bool.and_eq_true, decide_eq_true_eq] at hc
          obtain ⟨d, hd⟩ := Option.isSome_iff_exists.mp hc.2
          intro H1 G1 v g1 s1 p1
          obtain ⟨p, rfl, h2, ⟨vs, hv, rv⟩, h4, h5, h6⟩ := p1
          obtain ⟨u, _, _, run⟩ := hx g1 hd
          refine ⟨.inl ⟨rfl, vs, SqL.of hv⟩, run _ (Lk.refl H1) g1 _ ⟨p, vs, u, rfl, rfl, hv, by rw [rv.len]; exact lim_lt hc.1, ?_⟩⟩
          refine w2 _ G1 .non (g1.wr h2 h4 h5) ⟨fun b o ho m => ?_, s1.gg, s1.gn, s1.mm, fun b o ho => ?_⟩ .non
          · have hb : b ≠ p := fun z => by subst z; rcases h6 with h6 | h6
                                           · exact m h6
                                           · rw [ho] at h6; cases h6
            rw [upd_ne hb]; exact s1.fr b o ho m
          · obtain ⟨o', ho'⟩ := s1.al b o ho
            by_cases z : b = p
            · exact ⟨_, by rw [z, upd_same]⟩
            · exact ⟨o', by rw [upd_ne z]; exact ho'⟩
        · rw [if_neg hc] at w2; exact w2.elim
      | _ => exact w.elim
/-! clauses -/
variable {i : Option Nat} {t : Addr → Value → Option Addr → TE} {u u' : Addr → Value → Option Addr → TE} {g : Nat → Option Bool} {x y : Nat → List D → Option Rv}
/-- what a clause's suite gives: a value, a new list, a choice -/
def HrE (K : PySem.W.Frag) (cd : Nat → Cd) (i : Option Nat) (t : Addr → Value → Option Addr → TE) (x : Nat → List D → Option Rv) : Prop :=
  ∀ (H G : Hp) (c : Nat) (fs : List D) (od : Option Addr) (a : Addr) (σ : St) (z : Rv) (Q : VK), Sub G H → XwR K cd H G c fs od → (∀ j, i = some j → σ[j]? = some (some (V.ref a))) → x c fs = some z → (∀ H' G' v, Gr H G H' G' → Rz K cd H H' G' z v → Q v H') → t a (.ref (cd c).C) od σ H Q
theorem hr_e {x : Nat → List D → Option D} (hx : HvE K cd i t x) : HrE K cd i t (hRet x) := fun H G c fs od a σ z Q s xw h1 h2 q => by
  obtain ⟨d, h3, rfl⟩ := map_some h2
  obtain ⟨v, r, q1⟩ := hx H G c fs od a σ d s xw h1 h3
  exact q1 _ (q H G v (.refl s) r)
theorem hr_l {w : Addr → Value → Option Addr → TA} {y : Nat → List D → Option (List D)} (hy : HvA K cd i w y) : HrE K cd i (fun a cls od => tLst (w a cls od)) (hRetL y) := fun H G c fs od a σ z Q s xw h1 h2 q => by
  obtain ⟨ds, h3, h4⟩ := bind_some h2
  obtain ⟨h5, h4⟩ := if_some h4
  cases h4
  obtain ⟨vs, r, q1⟩ := hy H G c fs od a σ ds s xw h1 h3
  refine q1 _ ⟨by rw [r.len]; exact lim_ok h5, fun p hp => ?_⟩
  exact newO s (fun H' G' u gr rz => q H' G' u gr rz) hp fun H' e => ⟨_, e, r⟩
def hIf (c : Nat → List D → Option D) (x y : Nat → List D → Option Rv) : Nat → List D → Option Rv := fun k fs => match c k fs with
  | some (.bl true) => x k fs
  | some (.bl false) => y k fs
  | _ => none
theorem hr_if {c : Nat → List D → Option D} (hc : HvE K cd i t c) (hx : HrE K cd i u x) (hy : HrE K cd i u' y) : HrE K cd i (fun a cls od => tIf (tB (t a cls od)) (u a cls od) (u' a cls od)) (hIf c x y) := fun H G k fs od a σ z Q s xw h1 h2 q => by
  unfold hIf at h2
  split at h2
  · rename_i hk
    obtain ⟨v, r, q1⟩ := hc H G k fs od a σ _ s xw h1 hk
    cases r
    exact q1 _ ⟨true, rfl, (hx H G k fs od a σ z Q s xw h1 h2 q : _)⟩
  · rename_i hk
    obtain ⟨v, r, q1⟩ := hc H G k fs od a σ _ s xw h1 hk
    cases r
    exact q1 _ ⟨false, rfl, (hy H G k fs od a σ z Q s xw h1 h2 q : _)⟩
  · cases h2
theorem hd_r (hx : HrE K cd i t x) : HdOk K cd i (fun a cls od => tRet (t a cls od)) x := fun H G c fs z od a σ Z s xw h1 h2 q => hx H G c fs od a σ z Z.rt s xw h1 h2 q
end
end Dv
/-! a dict written with its pairs -/
namespace Dv
open PySem PySem.Spec PyProof.Rows L2
open SX (S S_len S_cat)
section
variable {K : PySem.W.Frag} {cd : Nat → Cd} {ox : Addr → Prop} {E : St → XK} {H G H1 G1 : Hp} {e e1 : En} {σ : St} {Q : VK}
def eDisp : List ((En → Rs) × (En → Rs)) → List (D × D) → En → Rs
  | [], acc, e => if acc.length ≤ 15 then .ok (.ow (.dct (mergeD [] acc))) e else .stuck
  | (k, v) :: r, acc, e => (eTk k e).bind fun rk e1 => (match rk with
    | .sh kd => (eTk v e1).bind fun rv e2 => (match rv with
      | .sh d => if (keyD kd).isSome = true then eDisp r (acc ++ [(kd, d)]) e2 else .stuck
      | _ => .stuck)
    | _ => .stuck)
inductive EvPs (K : PySem.W.Frag) (cd : Nat → Cd) (E : St → XK) : List (TE × TE) → List ((En → Rs) × (En → Rs)) → Prop
  | nil : EvPs K cd E [] []
  | cons {tk tv : TE} {k v : En → Rs} {trs : List (TE × TE)} {fs : List ((En → Rs) × (En → Rs))} : EvD K cd E tk k → EvD K cd E tv v → EvPs K cd E trs fs → EvPs K cd E ((tk, tv) :: trs) ((k, v) :: fs)
/-- one more step behind those that are done; the base stays -/
theorem base_step {t : TE} {f : En → Rs} {Q' : VK} {k : Rv → En → Rs} (hf : EvD K cd E t f) (g1 : Gd K cd ox H1 G1 e1 σ) (s1 : Stp H G (Mn e σ) H1 G1 (Mn e1 σ)) (w : RsW K cd ox E Q H G σ e ((f e1).bind k))
    (hk : ∀ r e2 H2 G2 v, Gd K cd ox H2 G2 e2 σ → Stp H1 G1 (Mn e1 σ) H2 G2 (Mn e2 σ) → Rw K cd H1 (Mn e1 σ) H2 G2 e2 σ r v → RsW K cd ox E Q H G σ e (k r e2) → Q' v H2) : t σ H1 Q' := by
  refine hf H1 G1 e1 σ g1 Q' ?_
  cases q : f e1 with
  | stuck => rw [q] at w; exact w.elim
  | ok r e2 => rw [q] at w; exact fun H2 G2 v g2 s2 r2 => hk r e2 H2 G2 v g2 s2 r2 w
  | exc c fs e2 => rw [q] at w; exact fun H2 G2 od g2 s2 x => w H2 G2 od g2 (s1.trans s2) (x.stp s1)
theorem disp_low {p : Addr} (hp : H p = none) (ho : ¬ ox p) : ∀ {trs : List (TE × TE)} {fs : List ((En → Rs) × (En → Rs))}, EvPs K cd E trs fs → ∀ {H1 G1 : Hp} {e1 : En} {acc : List (D × D)} {us : List (Key × V)}, Gd K cd ox H1 G1 e1 σ → Stp H G (Mn e σ) H1 G1 (Mn e1 σ) →
    H1 p = some (.dK []) → G1 p = none → ¬ Mn e1 σ p → RpK K cd G1 acc us → RsW K cd ox E Q H G σ e (eDisp fs acc e1) →
    tPairs trs σ H1 fun ps H2 => H2 p = some (.dK []) ∧ ∃ kvs : List (Key × V), us.map (fun kv => (kV kv.1, kv.2)) ++ ps = kvs.map (fun kv => (kV kv.1, kv.2)) ∧ kvs.length ≤ 15 ∧ Q (.ref p) (upd H2 p (.dK (mergeK [] kvs)))
  | _, _, .nil, H1, G1, e1, acc, us, g1, s1, h1, h2, h3, ra, w => by
    have nb : ∀ (i : Nat) (d : D), e1[i]? = some (Sl.bo d) → σ[i]? ≠ some (some (V.ref p)) := fun i d h q => by
      obtain ⟨b, x, _, _, _, ob⟩ := g1.bo i d h
      rw [q] at x; cases x
      exact ho ob
    unfold eDisp at w
    by_cases hl : acc.length ≤ 15
    · rw [if_pos hl] at w
      refine ⟨h1, us, by rw [List.append_nil], by rw [ra.len]; exact hl, ?_⟩
      refine w _ G1 (.ref p) (g1.wr h2 h3 nb) ⟨fun b o ho m => ?_, s1.gg, s1.gn, s1.mm, fun b o ho => ?_⟩ ⟨p, rfl, h2, ⟨_, upd_same, ra.merge .nil⟩, h3, nb, .inr hp⟩
      · have hb : b ≠ p := fun z => by rw [z, hp] at ho; cases ho
        rw [upd_ne hb]; exact s1.fr b o ho m
      · obtain ⟨o', ho'⟩ := s1.al b o ho
        have hb : b ≠ p := fun z => by rw [z, hp] at ho; cases ho
        exact ⟨o', by rw [upd_ne hb]; exact ho'⟩
    · rw [if_neg hl] at w; exact w.elim
  | _, _, .cons hk hv r, H1, G1, e1, acc, us, g1, s1, h1, h2, h3, ra, w => by
    unfold eDisp at w
    refine base_step (ev_tk hk) g1 s1 w fun rk e2 H2 G2 x g2 s2 r2 w2 => ?_
    have keep : ∀ {H1 G1 H2 G2 : Hp} {e1 e2 : En}, Gd K cd ox H2 G2 e2 σ → Stp H1 G1 (Mn e1 σ) H2 G2 (Mn e2 σ) → H1 p = some (.dK []) → G1 p = none → ¬ Mn e1 σ p →
        H2 p = some (.dK []) ∧ G2 p = none ∧ ¬ Mn e2 σ p := fun {H1 G1 H2 G2 e1 e2} g s a1 a2 a3 => ⟨s.fr p _ a1 a3, s.gn p _ a1 a3 a2, fun q => by
      rcases s.mm p q with z | z
      · exact a3 z
      · rw [a1] at z; cases z⟩
    cases rk with
    | sl _ => exact w2.elim
    | ow _ => exact w2.elim
    | sh kd =>
      have w2' : RsW K cd ox E Q H G σ e ((eTk _ e2).bind fun rv e3 => (match rv with
        | .sh d => if (keyD kd).isSome = true then eDisp _ (acc ++ [(kd, d)]) e3 else .stuck
        | _ => .stuck)) := w2
      obtain ⟨b1, b2, b3⟩ := keep g2 s2 h1 h2 h3
      refine base_step (ev_tk hv) g2 (s1.trans s2) w2' fun rv e3 H3 G3 y g3 s3 r3 w3 => ?_
      cases rv with
      | sl _ => exact w3.elim
      | ow _ => exact w3.elim
      | sh d =>
        have w3' : RsW K cd ox E Q H G σ e (if (keyD kd).isSome = true then eDisp _ (acc ++ [(kd, d)]) e3 else .stuck) := w3
        by_cases hc : (keyD kd).isSome = true
        · rw [if_pos hc] at w3'
          obtain ⟨kk, hkk⟩ := Option.isSome_iff_exists.mp hc
          obtain ⟨c1, c2, c3⟩ := keep g3 s3 b1 b2 b3
          have rk2 : Rp K cd G3 kd x := Rp.mono s3.gg r2
          have ex : x = kV kk := keyD_kV (H := H3) (rk2.bv g3.sub) hkk
          have ra3 : RpK K cd G3 (acc ++ [(kd, d)]) (us ++ [(kk, y)]) := RpK.app (ra.mono (s2.gg.trans s3.gg)) (.cons hkk r3 .nil)
          have k := disp_low hp ho r g3 ((s1.trans s2).trans s3) c1 c2 c3 ra3 w3'
          subst ex
          simpa [List.map_append, List.append_assoc] using k
        · rw [if_neg hc] at w3'; exact w3'.elim
theorem ev_disp {trs : List (TE × TE)} {fs : List ((En → Rs) × (En → Rs))} (h : EvPs K cd E trs fs) : EvD K cd E (tDisp trs) (eDisp fs []) := fun {ox} H G e σ g Q w p hp => by
  have ho : ¬ ox p := fun z => by
    obtain ⟨o, q⟩ := g.old p z
    rw [hp] at q; cases q
  have gr : Gr H G (upd H p (.dK [])) G := .new g.sub hp
  have nm : ¬ Mn e σ p := fun ⟨i, d, h1, h2⟩ => by
    obtain ⟨b, x1, x2, x3⟩ := g.ow i d h1
    rw [h2] at x1; cases x1
    obtain ⟨o, q, _⟩ := x3.at
    rw [hp] at q; cases q
  exact disp_low hp ho h (g.grow gr) gr.stp upd_same (g.sub.some hp) nm .nil w
end
/-! d = {k: v for ..}, in one row -/
section
variable {X : Cx}
theorem ps_setDc {j : Nat} {y : Str} {yp : Pos} {kx vx tg it : Expr} {ifs : List Expr} {sc : Scope} {own : List (Str × Nat)} {p1 p2 : Pos} {wi : TI} {g : TG} {tt : TT} {tk tv : TE} (hc : X.calm = true) (hN : X.N.Nodup) (hy : X.N[j]? = some y) (yl : X.env.scope.names.lookup y = some .local) (hw : swapsWith (.DictComp kx vx [⟨tg, it, ifs, 0⟩] sc p1) (some (.Name y yp)) p2.line X.env = pure true) (hi : PI X tg it wi) (ok : BlkOk X.N X.env.scope sc own) (hg : ∀ (s : Shared) (H : Hp) (C : Addr) (cl : List (Str × Addr)) (fp : List Addr), PG (X.blk s H sc (compEnvC sc cl C X.env) fp) tg g) (ht : ∀ (s : Shared) (H : Hp) (C : Addr) (cl : List (Str × Addr)) (fp : List Addr), PTs (X.blk s H sc (compEnvC sc cl C X.env) fp) ifs tt) (hk : ∀ (s : Shared) (H : Hp) (C : Addr) (cl : List (Str × Addr)) (fp : List Addr), PE (X.blk s H sc (compEnvC sc cl C X.env) fp) kx tk) (hv : ∀ (s : Shared) (H : Hp) (C : Addr) (cl : List (Str × Addr)) (fp : List Addr), PE (X.blk s H sc (compEnvC sc cl C X.env) fp) vx tv) (hs : ∀ x, foldedSetIterable it X.env x = pure x := by intro _; rfl) :
    PS X (.Assign [.Name y yp] (.DictComp kx vx [⟨tg, it, ifs, 0⟩] sc p1) p2) (tAsg (tDc wi g tt tk tv (own.map (·.2))) (gName j)) := by
  refine ⟨fun pins s σ H Z J w => ?_⟩
  rw [exec_Assign_Name_used _ _ _ _ hw]
  refine wpAny_bind (wpAny_standAt (wpAny_bind ?_))
  show wpAny _ X.A (do let _ ← comprehension (.DictComp kx vx [⟨tg, it, ifs, 0⟩] sc p1) sc X.env (firstIterPos [⟨tg, it, ifs, 0⟩] p1) newDict false (eval it X.env) (some (assign (.Name y yp) X.env))) _ _ s
  have w' : tDc wi g tt tk tv (own.map (·.2)) σ H (fun x H1 => gName j x σ H1 Z.nx) := w
  refine wpAny_bind (thn (dc_core (Qf := fun _ s1 => SP X pins Z .next s1) hc hN J hi ok hg ht hk hv hs w' fun L C s1 m H1 J1 q nn fr => ?_) fun _ s1 hq => wpAny_pure (wpAny_pure hq))
  show wpAny _ _ (assign (.Name y yp) X.env (.ref L)) _ _ _
  refine wpAny_assign_Name (store_ok2 (v := V.ref L) J1 hN hy (.inl yl) rfl (fun s2 J2 ⟨a, sb, ha⟩ => ?_) (.inr yl))
  obtain ⟨q0, q1, q2, q3, q4, q5⟩ := fr
  have nca : C ≠ a := ha.elim (fun z => by rw [z]; exact q1) (fun z e => q4 y a z e.symm)
  exact ⟨m, nn.sameBut sb nca, fun h3 sb3 => ⟨_, H1, J2.turned (t' := s2.toks) (fun b o hb e => (sb3.2 b hb).trans e) q0 q1 q3 q4 q5, q⟩⟩
theorem sw_trueD {kx vx : Expr} {gs : List Comprehension} {sc : Scope} {p1 yp : Pos} {y : Str} {l : Nat} {env : Env} (hk : env.scope.kind = .function) (hy : env.scope.names.lookup y = some .local) (hl : (yp.line == p1.line) = true) (ha : (sc.names.any fun (n, k) => n == y && (k == .local || k == .cell)) = false) :
    swapsWith (.DictComp kx vx gs sc p1) (some (.Name y yp)) l env = pure true := by
  have k1 : env.kindOf y = some .local := hy
  have k2 : env.blockKind = .function := by unfold Env.blockKind; rw [hk]; rfl
  unfold swapsWith
  simp only [k2, k1, ha, Expr.pos, hl]
  rfl
/-- try .. except x as n, the reading told apart -/
theorem pTryAs {x nm : Str} {c : Value} {j : Nat} {bd su : List Stmt} {b0 : Stmt} {q1 q2 q3 : Pos} {tb : WX → TS} {ts : Addr → Value → Option Addr → TS} {Wout : WX} {t : TS} (hs : X.stack = X.env :: X.outer) (hf : X.env.frame = some X.env.locals) (hN : X.N.Nodup) (hi : X.N[j]? = some nm) (hl : X.env.kindOf nm = some .local) (hc : Names X x c) (tk : Takes X Wout)
    (hb : ∀ (W : WX) (pn : List (Addr × Obj)) (xe : Value → Shared → Prop), Takes (X.tr pn xe) W → PassesOwn (model X.prog X.w) X.A X.env xe → PSs (X.tr pn xe) bd (tb W)) (hsu : ∀ (a : Addr) (oe : Obj) (cls : Value) (d : Option Addr) (pn : List (Addr × Obj)), Zc cls d oe → (∃ vs, oe.data = .fields vs) → PSs (X.suite a ((a, oe) :: pn)) (b0 :: su) (ts a cls d))
    (ht : t = fun D σ H => tb (wAs X.K c j ts Wout D) D σ H) : PS X (.Try bd [.ExceptHandler (some (.Name x q1)) (some nm) (b0 :: su) q2] [] [] q3) t := by
  subst ht
  exact ps_try_as hs hf hN hi hl hc tk hb hsu
theorem pTryOnly {x : Str} {c : Value} {bd su : List Stmt} {b0 : Stmt} {q1 q2 q3 : Pos} {tb : WX → TS} {ts : Addr → Value → Option Addr → TS} {Wout : WX} {t : TS} (hs : X.stack = X.env :: X.outer) (hf : X.env.frame = some X.env.locals) (hc : Names X x c) (tk : Takes X Wout)
    (hb : ∀ (W : WX) (pn : List (Addr × Obj)) (xe : Value → Shared → Prop), Takes (X.tr pn xe) W → PassesOwn (model X.prog X.w) X.A X.env xe → PSs (X.tr pn xe) bd (tb W)) (hsu : ∀ (a : Addr) (oe : Obj) (cls : Value) (d : Option Addr) (pn : List (Addr × Obj)), Zc cls d oe → (∃ vs, oe.data = .fields vs) → PSs (X.suite a ((a, oe) :: pn)) (b0 :: su) (ts a cls d))
    (ht : t = fun D σ H => tb (wOnly X.K c ts Wout D) D σ H) : PS X (.Try bd [.ExceptHandler (some (.Name x q1)) none (b0 :: su) q2] [] [] q3) t := by
  subst ht
  exact ps_try_only hs hf hc tk hb hsu
/-- C(e, .., k = v, ..), the reading told apart -/
theorem pMakeK {CX : CXT} {k n : Nat} {f C : Addr} {fd : FuncData} {ps ks : List Str} {sp : Sp} {E : XK} {x : Str} {p q : Pos} {e : Expr} {es : List Expr} {kws : List Keyword} {t tk : TA} {u : TE} {g : List Value → List Value → List Value} {gV : List V → List V → List V} (M : Mk X.K C f) (F : FnOk X.prog X.w X.K X.mg X.base CX k f fd ps sp) (hr : Room (k + 1) X.A) (hg : Gl X x) (hm : X.mg x = some (.ref C)) (hb : KBn X.K fd ps (n + 1) ks g gV) (hx : Passes CX X E) (ha : PA X (e :: es) t) (hkw : PK X kws tk) (hu : u = tMakeK C n ks.length sp gV E t tk) (h1 : (backToKw q (keywordEach kws X.env)).all (·.1.isSome) = true := by rfl) (h2 : (backToKw q (keywordEach kws X.env)).filterMap (·.1) = ks := by rfl) (hdb : (x == ("__debug__" : Str)) = false := by decide) (he : starEach (e :: es) X.env = (false, eval e X.env) :: starEach es X.env := by rfl) (hpl : ((backTo q (starEach (e :: es) X.env)).any (·.1) || (backToKw q (keywordEach kws X.env)).any (·.1.isNone)) = false := by rfl) :
    PE X (.Call (.Name x p) (e :: es) kws q) u := by
  subst hu
  exact pe_makeK M F hr hg hm hb hx ha hkw h1 h2 hdb he hpl
end
end Dv
/-! the script: a list that stands in slot 0, told by no data -/
namespace Dv
open PySem PySem.Spec PyProof.Rows L2
open SX (S S_len S_cat)
/-- the number that the script tells at a place -/
def tA (ns : List Int) (k : Int) : Int := match ns[k.toNat]? with
  | some z => if z < 0 then -z else z
  | none => 0
def tpD (ns : List Int) (k : Int) : D := .lst [.int (tA ns k), .int (7919 * k + 104729)]
/-- _law_tape(script, k) -/
def spTapeF (K : PySem.W.Frag) : Sp := fun vs H Q _ => ∃ (a : Addr) (ns : List Int) (k : Int), vs = [.ref a, .int k] ∧ SqL K H a (ns.map V.int) ∧ 0 ≤ k ∧ k ≤ 1000 ∧
  ∀ p : Addr, H p = none → Q (.ref p) (upd H p (.lst [.int (tA ns k), .int (7919 * k + 104729)]))
structure IOk (K : PySem.W.Frag) (a : Addr) (us : List V) (e : En) (σ : St) (H : Hp) : Prop where
  at0 : σ[0]? = some (some (V.ref a))
  rd : (∀ H', SqL K H' a us) ∨ ∃ u, H a = some u ∧ (∀ H' : Hp, H' a = some u → SqL K H' a us) ∧ ¬ Mn e σ a
section
variable {K : PySem.W.Frag} {cd : Nat → Cd} {ox : Addr → Prop} {E : St → XK} {kp : Nat → Bool} {H G H' G' H1 G1 : Hp} {e e1 : En} {σ σ1 : St} {Q : VK} {Z : Ends} {ta : TE} {t u : TS} {b : En → Rs} {f h : En → Fl} {r : Fl} {a : Addr} {us : List V}
theorem IOk.sq (i : IOk K a us e σ H) : SqL K H a us := i.rd.elim (fun h => h H) fun ⟨_, h, q, _⟩ => q H h
theorem IOk.stp (i : IOk K a us e σ H) (s : Stp H G (Mn e σ) H1 G1 (Mn e1 σ1)) (k : Kp kp σ σ1) (k0 : kp 0 = true) : IOk K a us e1 σ1 H1 := ⟨(k 0 k0).trans i.at0, i.rd.imp id fun ⟨u, h, q, n⟩ => ⟨u, s.fr _ _ h n, q, fun m => by
  rcases s.mm _ m with z | z
  · exact n z
  · rw [h] at z; cases z⟩⟩
theorem IOk.of {H : Hp} (hS : SqL K H a us) (at0 : σ[0]? = some (some (V.ref a))) (n : ¬ Mn e σ a) : IOk K a us e σ H := ⟨at0, by
  rcases hS with (h | ⟨o, h⟩) | h
  · exact .inr ⟨_, h, fun _ q => .inl (.inl q), n⟩
  · exact .inr ⟨_, h, fun _ q => .inl (.inr ⟨o, q⟩), n⟩
  · exact .inl fun _ => .inr h⟩
def ESI (K : PySem.W.Frag) (cd : Nat → Cd) (E : St → XK) (kp : Nat → Bool) (a : Addr) (us : List V) (t : TS) (f : En → Fl) : Prop := ∀ {ox : Addr → Prop} (H G : Hp) (e : En) (σ : St), Gd K cd ox H G e σ → IOk K a us e σ H → ∀ D, FlW K cd ox E kp D H G σ e (f e) → t D σ H
theorem si_of (h : ES K cd E kp t f) : ESI K cd E kp a us t f := fun H G e σ g _ D w => h H G e σ g D w
theorem si_seq (k0 : kp 0 = true) (hf : ESI K cd E kp a us t f) (hh : ESI K cd E kp a us u h) : ESI K cd E kp a us (tSeq t u) (fSeq f h) := by
  intro ox H G e σ g i D w
  refine hf H G e σ g i { D with nx := u D } ?_
  have w' : FlW K cd ox E kp D H G σ e (match f e with | .nx e1 => h e1 | r => r) := w
  cases q : f e with
  | nx e1 =>
    rw [q] at w'
    exact fun H' G' σ' g' s' k' => hh H' G' e1 σ' g' (i.stp s' k' k0) D (FlW.stp w' s' k')
  | stuck => rw [q] at w'; exact w'
  | bk e' => rw [q] at w'; exact w'
  | ct e' => rw [q] at w'; exact w'
  | rt r e' => rw [q] at w'; exact w'
  | exc c fs e' => rw [q] at w'; exact w'
theorem si_if {tt : TT} {c : En → Rs} (k0 : kp 0 = true) (hc : EvT K cd E tt c) (hf : ESI K cd E kp a us t f) (hh : ESI K cd E kp a us u h) : ESI K cd E kp a us (tIfS tt t u) (fIf c f h) := fun {ox} H G e σ g i D w =>
  br_fl (Q' := fun b H1 => if b = true then t D σ H1 else u D σ H1) hc g w (fun H1 G1 e1 g1 s1 w1 => by show t D σ H1; exact hf H1 G1 e1 σ g1 (i.stp s1 .refl k0) D w1) (fun H1 G1 e1 g1 s1 w1 => by show u D σ H1; exact hh H1 G1 e1 σ g1 (i.stp s1 .refl k0) D w1)
theorem for_loopI {ox : Addr → Prop} {items : List Dv.D} {J : It} {P : Pins} {g : TG} {vs : List Nat} {tg : Dv.D → En → Option En} {D : Ends} (k0 : kp 0 = true) (hg : TgD K cd kp vs g tg) (hf : ESI K cd E kp a us t f) (g1 : Gd K cd ox H1 G1 e1 σ) (i1 : IOk K a us e1 σ H1) (p1 : PinOk P H1 e1 σ) (wk : Wk K cd G1 J P items) (w1 : FlW K cd ox E kp D H1 G1 σ e1 (forL tg f items e1)) :
    ∃ W : Nat → Nat → St → Hp → Prop, (∃ m, W 0 m σ H1) ∧ ∀ i m σ H, W i m σ H → (J.stop i H ∧ D.nx σ H) ∨ (J.go i H ∧ ∃ N : St → Hp → Prop, (∀ σ' H', N σ' H' → ∃ m', m' < m ∧ W (i + 1) m' σ' H') ∧ ∀ x H', J.yld i H x H' → g x σ H' fun σ2 H2 => t { D with nx := N, ct := N, bk := D.nx } σ2 H2) := by
  refine ⟨fun i m σ' H' => m = items.length - i ∧ i ≤ items.length ∧ ∃ G' e', Gd K cd ox H' G' e' σ' ∧ IOk K a us e' σ' H' ∧ Same G1 G' ∧ PinOk P H' e' σ' ∧ FlW K cd ox E kp D H' G' σ' e' (forL tg f (items.drop i) e'), ⟨items.length, rfl, Nat.zero_le _, G1, e1, g1, i1, Same.refl _, p1, w1⟩, ?_⟩
  rintro i m σ2 H2 ⟨rfl, hle, G2, e2, g2, i2, sg2, p2, w2⟩
  obtain ⟨j1, j2, j3⟩ := wk i H2 G2 sg2 g2.sub (fun p hp => (p2 p hp).1)
  by_cases lt : i < items.length
  · refine .inr ⟨j2 lt, fun σ' H' => ∃ G' e', Gd K cd ox H' G' e' σ' ∧ IOk K a us e' σ' H' ∧ Same G1 G' ∧ PinOk P H' e' σ' ∧ FlW K cd ox E kp D H' G' σ' e' (forL tg f (items.drop (i + 1)) e'),
      fun σ' H' q => ⟨items.length - (i + 1), by omega, rfl, lt, q⟩, fun x H3 y => ?_⟩
    obtain ⟨G3, d, gr, hd, r⟩ := j3 lt x H3 y
    have g3 := g2.grow gr
    have w3 := FlW.stp w2 (e1 := e2) (σ1 := σ2) gr.stp .refl
    have p3 := p2.stp (e1 := e2) (σ1 := σ2) (gr.stp (M := Mn e2 σ2))
    have i3 : IOk K a us e2 σ2 H3 := i2.stp (kp := kp) (gr.stp (M := Mn e2 σ2)) .refl k0
    have ed : items.drop i = d :: items.drop (i + 1) := by
      rw [List.drop_eq_getElem_cons lt]
      rw [List.getElem?_eq_getElem lt] at hd
      cases hd; rfl
    rw [ed] at w3
    unfold forL at w3
    cases q : tg d e2 with
    | none => rw [q] at w3; exact w3.elim
    | some e4 =>
      rw [q] at w3
      refine hg g3 r q fun σ4 g4 m4 k4 _ _ => ?_
      have s4 : Stp H3 G3 (Mn e2 σ2) H3 G3 (Mn e4 σ4) := Stp.refl.mono m4
      have i4 := i3.stp s4 k4 k0
      refine hf H3 G3 e4 σ4 g4 i4 _ ?_
      have w4 : FlW K cd ox E kp D H3 G3 σ4 e4 (match f e4 with | .nx e2 => forL tg f (items.drop (i + 1)) e2 | .ct e2 => forL tg f (items.drop (i + 1)) e2 | .bk e2 => .nx e2 | r => r) := FlW.stp w3 s4 k4
      have p4 := p3.stp s4
      have sg4 : Same G1 G3 := sg2.trans gr.gg
      cases q5 : f e4 with
      | stuck => rw [q5] at w4; exact w4
      | nx e5 => rw [q5] at w4; exact fun H' G' σ' g' s' k' => ⟨G', e5, g', i4.stp s' k' k0, sg4.trans s'.gg, p4.stp s', FlW.stp w4 s' k'⟩
      | ct e5 => rw [q5] at w4; exact fun H' G' σ' g' s' k' => ⟨G', e5, g', i4.stp s' k' k0, sg4.trans s'.gg, p4.stp s', FlW.stp w4 s' k'⟩
      | bk e5 => rw [q5] at w4; exact w4
      | rt r e5 => rw [q5] at w4; exact w4
      | exc c fs e5 => rw [q5] at w4; exact w4
  · obtain rfl : i = items.length := by omega
    refine .inl ⟨j1 (Nat.le_refl _), ?_⟩
    rw [List.drop_length] at w2
    exact w2 H2 G2 σ2 g2 .refl .refl
theorem si_for {wi : TI} {src : En → Is} {g : TG} {vs : List Nat} {tg : Dv.D → En → Option En} (k0 : kp 0 = true) (hi : EvI K cd E wi src) (hg : TgD K cd kp vs g tg) (hf : ESI K cd E kp a us t f) : ESI K cd E kp a us (tFor wi g t) (fFor src tg f) := by
  intro ox H G e σ gd i D w
  exact hi.s gd w fun items e1 H1 G1 J P g1 s1 p1 wk w1 => for_loopI k0 hg hf g1 (i.stp (kp := kp) s1 .refl k0) p1 wk w1
/-- the tape's call -/
def eTp (ns : List Int) (x : En → Rs) : En → Rs := fun e => (pubR (x e)).bind fun r e1 => match rdv e1 r with
  | some (.int k) => if 0 ≤ k ∧ k ≤ 1000 then .ok (.ow (tpD ns k)) e1 else .stuck
  | _ => .stuck
theorem tape_at {ns : List Int} {tx : TE} {x : En → Rs} {E1 : XK} (hx : EvD K cd E tx x) (g : Gd K cd ox H G e σ) (i : IOk K a (ns.map V.int) e σ H) {Q : VK} (w : RsW K cd ox E Q H G σ e (eTp ns x e)) : tCall (spTapeF K) [] E1 (tCons (tVar 0) (tCons tx tNil)) σ H Q := by
  refine ⟨_, i.at0, ?_⟩
  have w0 : RsW K cd ox E Q H G σ e ((pubR (x e)).bind fun r e1 => match rdv e1 r with
    | some (.int k) => if 0 ≤ k ∧ k ≤ 1000 then .ok (.ow (tpD ns k)) e1 else .stuck
    | _ => .stuck) := w
  refine hx.pub H G e σ g _ ?_
  show RsW K cd ox E _ H G σ e (pubR (x e))
  cases q0 : pubR (x e) with
  | stuck => rw [q0] at w0; exact w0
  | exc c fs e' => rw [q0] at w0; exact w0
  | ok r e1 =>
    rw [q0] at w0
    intro H1 G1 v g1 s1 q1
    have w2 : RsW K cd ox E Q H1 G1 σ e1 (match (generalizing := false) rdv e1 r with | some (.int k) => if 0 ≤ k ∧ k ≤ 1000 then .ok (.ow (tpD ns k)) e1 else .stuck | _ => .stuck) := RsW.stp w0 s1
    have p1 : ∀ d, rdv e1 r = some d → Pd K cd G1 σ r v := fun d hd => by
      cases r with
      | sl i => exact q1
      | sh d => exact q1
      | ow d => cases hd
    cases q : rdv e1 r with
    | none => rw [q] at w2; exact w2.elim
    | some d =>
      have bv := g1.rd (p1 d q) q
      rw [q] at w2
      cases d with
      | int k =>
        rw [bv_int bv]
        by_cases hk : 0 ≤ k ∧ k ≤ 1000
        · have w3 : RsW K cd ox E Q H1 G1 σ e1 (if 0 ≤ k ∧ k ≤ 1000 then .ok (.ow (tpD ns k)) e1 else .stuck) := w2
          rw [if_pos hk] at w3
          exact ⟨a, ns, k, rfl, (i.stp (kp := fun _ => true) s1 .refl rfl).sq, hk.1, hk.2, fun p hp => newO g1.sub (fun H' G' u gr rz => w3.gr g1 gr rz) hp fun H' e => ⟨_, e, .cons (.int _) (.cons (.int _) .nil)⟩⟩
        · have w3 : RsW K cd ox E Q H1 G1 σ e1 (if 0 ≤ k ∧ k ≤ 1000 then .ok (.ow (tpD ns k)) e1 else .stuck) := w2
          rw [if_neg hk] at w3
          exact w3.elim
      | _ => exact w2.elim
theorem si_asg {j : Nat} (hk : kp j = false) (ha : ∀ {ox : Addr → Prop} {H G : Hp} {e : En} {σ : St}, Gd K cd ox H G e σ → IOk K a us e σ H → ∀ Q : VK, RsW K cd ox E Q H G σ e (b e) → ta σ H Q) : ESI K cd E kp a us (tAsg ta (gName j)) (fAsg j b) := by
  intro ox H G e σ g io D w
  have w0 : FlW K cd ox E kp D H G σ e ((b e).fl fun r e1 => if j < e1.length then (match r with
    | .sh d => .nx (e1.set j (.sh d))
    | .ow d => .nx (e1.set j (.ow d))
    | .sl i => (match e1[i]? with
      | some (.sh d) => .nx (e1.set j (.sh d))
      | some (.ow d) => .nx ((e1.set i (.sh d)).set j (.sh d))
      | _ => .stuck)) else .stuck) := w
  refine ha g io _ ?_
  cases q : b e with
  | stuck => rw [q] at w0; exact w0
  | exc c fs e' => rw [q] at w0; exact fun H1 G1 od g1 s1 x => w0 H1 G1 σ od g1 s1 .refl x
  | ok r e1 =>
    rw [q] at w0
    intro H1 G1 v g1 s1 q1
    show D.nx (σ.set j (some v)) H1
    have w1 : FlW K cd ox E kp D H G σ e (if j < e1.length then (match (generalizing := false) r with
      | .sh d => .nx (e1.set j (.sh d))
      | .ow d => .nx (e1.set j (.ow d))
      | .sl i => (match e1[i]? with
        | some (.sh d) => .nx (e1.set j (.sh d))
        | some (.ow d) => .nx ((e1.set i (.sh d)).set j (.sh d))
        | _ => .stuck)) else .stuck) := w0
    by_cases hi : j < e1.length
    · rw [if_pos hi] at w1
      cases r with
      | sh d =>
        obtain ⟨g2, m2⟩ := g1.setSh hi q1
        exact w1 H1 G1 _ g2 (s1.mono m2) (kp_set hk)
      | ow d =>
        obtain ⟨a, rfl, h2, h3, h4, h5, h6⟩ := q1
        obtain ⟨g2, m2⟩ := g1.setOw hi h2 h3 h4 h5
        refine w1 H1 G1 _ g2 ⟨s1.fr, s1.gg, s1.gn, fun b hb => ?_, s1.al⟩ (kp_set hk)
        rcases m2 b hb with rfl | z
        · exact h6
        · exact s1.mm b z
      | sl i =>
        have q1' : σ[i]? = some (some v) := q1
        have w2 : FlW K cd ox E kp D H G σ e (match e1[i]? with | some (Sl.sh d) => .nx (e1.set j (.sh d)) | some (Sl.ow d) => .nx ((e1.set i (.sh d)).set j (.sh d)) | _ => .stuck) := w1
        cases q2 : e1[i]? with
        | none => rw [q2] at w2; exact w2.elim
        | some s =>
          rw [q2] at w2
          cases s with
          | no => exact w2.elim
          | bo d => exact w2.elim
          | sh d =>
            obtain ⟨u, hu, r⟩ := g1.sh i d q2
            rw [q1'] at hu; cases hu
            obtain ⟨g2, m2⟩ := g1.setSh hi r
            exact w2 H1 G1 _ g2 (s1.mono m2) (kp_set hk)
          | ow d =>
            obtain ⟨G2, u, hu, g2, s2, r⟩ := g1.pubSl q2
            rw [q1'] at hu; cases hu
            obtain ⟨g3, m3⟩ := g2.setSh (i := j) (by rw [List.length_set]; exact hi) r
            exact w2 H1 G2 _ g3 ((s1.trans s2).mono m3) (kp_set hk)
    · rw [if_neg hi] at w1
      exact w1.elim
theorem si_tape {ns : List Int} {j : Nat} {tx : TE} {x : En → Rs} {E1 : XK} (hk : kp j = false) (hx : EvD K cd E tx x) : ESI K cd E kp a (ns.map V.int) (tAsg (tCall (spTapeF K) [] E1 (tCons (tVar 0) (tCons tx tNil))) (gName j)) (fAsg j (eTp ns x)) :=
  si_asg hk fun g i _ w => tape_at hx g i w
/-- the law's body: nothing is known of its slots but the script -/
theorem law_body {n : Nat} {N : List Str} (hn : N.length = 1 + n) (hf : ESI K cd EN kp a us t f) (hS : SqL K H a us) (hq : ∀ H', Q (.bl true) H') (hr : ∃ e', f (Sl.no :: List.replicate n Sl.no) = .rt (.sh (.bl true)) e') : t { nx := fun _ H' => Q .non H', rt := Q } (L2.start N [.ref a]) H := by
  obtain ⟨e', hr⟩ := hr
  have hno : ∀ (i : Nat) (s : Sl), (Sl.no :: List.replicate n Sl.no)[i]? = some s → s = Sl.no := fun i s h => by
    have := List.mem_of_getElem? h
    rcases List.mem_cons.mp this with h | h
    · exact h
    · exact (List.mem_replicate.mp h).2
  have hst : L2.start N [.ref a] = some (.ref a) :: List.replicate n none := by
    unfold L2.start
    rw [hn]
    simp
  rw [hst]
  have hm : ∀ b : Addr, ¬ Mn (Sl.no :: List.replicate n Sl.no) (some (V.ref a) :: List.replicate n none) b := fun b ⟨i, d, h, _⟩ => by cases hno i _ h
  refine hf (ox := fun _ => False) H (fun _ => none) (Sl.no :: List.replicate n Sl.no) _ ⟨(fun _ _ h => nomatch h), by simp, (fun i d h => absurd (hno i _ h) (fun z => by cases z)), (fun i d h => absurd (hno i _ h) (fun z => by cases z)), (fun i d h => absurd (hno i _ h) (fun z => by cases z)), (fun _ h => h.elim), (fun i j d d' a h => absurd (hno i _ h) (fun z => by cases z))⟩ (.of hS rfl (hm _)) _ ?_
  rw [hr]
  exact fun H' G' σ' v g s k q => by
    rw [rp_bl q]
    exact hq H'
end
end Dv
/-! try with several clauses, each with a name of its own or with none -/
namespace L2
open PySem PySem.Spec PyProof.Rows
/-- a clause: the class that it takes, the slot of its name, its suite -/
structure Clz where
  c : Value
  i : Option Nat
  ts : Addr → Value → Option Addr → TS
/-- behind a suite its name is gone -/
def goneE : Option Nat → Ends → Ends
  | none, D => D
  | some i, D => ⟨fun q G => D.nx (q.set i none) G, D.rt, fun q G => D.bk (q.set i none) G, fun q G => D.ct (q.set i none) G⟩
def putN : Option Nat → St → Addr → St
  | none, q, _ => q
  | some i, q, a => q.set i (some (.ref a))
def wClz (K : PySem.W.Frag) (Wo : WX) (D : Ends) : List Clz → WX
  | [] => Wo
  | k :: r => fun cls d q G => ∃ y, PySem.W.exmOne K cls k.c = some y ∧ (y = true → ∀ a, G a = none → k.ts a cls d (goneE k.i D) (putN k.i q a) G) ∧ (y = false → wClz K Wo D r cls d q G)
inductive ClzOk (X : Cx) : List ExceptHandler → List Clz → Prop
  | nil : ClzOk X [] []
  | bare {x : Str} {c : Value} {u : Addr → Value → Option Addr → TS} {b1 : Stmt} {bs : List Stmt} {p1 p2 : Pos} {r : List ExceptHandler} {l : List Clz} : Names X x c →
      (∀ a ob cls d pn, Zc cls d ob → (∃ vs, ob.data = .fields vs) → PSs (X.suite a ((a, ob) :: pn)) (b1 :: bs) (u a cls d)) → ClzOk X r l → ClzOk X (.ExceptHandler (some (.Name x p1)) none (b1 :: bs) p2 :: r) (⟨c, none, u⟩ :: l)
  | named {x n : Str} {i : Nat} {c : Value} {u : Addr → Value → Option Addr → TS} {b1 : Stmt} {bs : List Stmt} {p1 p2 : Pos} {r : List ExceptHandler} {l : List Clz} : X.N.Nodup → X.N[i]? = some n → X.env.kindOf n = some .local → Names X x c →
      (∀ a ob cls d pn, Zc cls d ob → (∃ vs, ob.data = .fields vs) → PSs (X.suite a ((a, ob) :: pn)) (b1 :: bs) (u a cls d)) → ClzOk X r l → ClzOk X (.ExceptHandler (some (.Name x p1)) (some n) (b1 :: bs) p2 :: r) (⟨c, some i, u⟩ :: l)
section
variable {X : Cx} {bd : List Stmt} {e0 : ExceptHandler} {er : List ExceptHandler} {l : List Clz} {pos : Pos} {tb : WX → TS} {Wo : WX}
/-- an exception that hovers over the def, clause by clause -/
theorem clz_go {D : Ends} {pins : List (Addr × Obj)} {a : Addr} {B : Heap} {sI st : Shared} {q : St} {G : Hp} {cls : Value} {d : Option Addr} {g : Heap} (hst : X.stack = X.env :: X.outer) (hfm : X.env.frame = some X.env.locals) (tk : Takes X Wo)
    (J : Inv X pins q G sI) (nb : ∀ x o, sI.heap.get? x = some o → x ∉ frs X.stack → B.get? x = some o) (up : sI.heap.UpToSlots st.heap) (up2 : st.heap.UpToSlots g) (fl : HandSPX.FlyingZ B (X.env :: X.outer) a (Zc cls d) g) (na : G a = none) (os : st.os = sI.os) (ag : AllBare st.gens) :
    ∀ {hs : List ExceptHandler} {ks : List Clz}, ClzOk X hs ks → wClz X.K Wo D ks cls d q G → wpAny (model X.prog X.w) X.A (handleBy (.ref a) X.env hs) (SP X pins D) X.xe { st with heap := g } := by
  have okX := J.ok
  have JG : Inv X pins q G { st with heap := g } := J.landed nb fl.1 (up.trans up2) os ag
  obtain ⟨ob, fv, hob, hZ, hfv⟩ := fl.there
  have off : a ∉ frs (X.env :: X.outer) := fun hm => by
    obtain ⟨_, o1, z1, z2⟩ := fl.2.2.1.mem hm
    rw [hob] at z1
    cases z1
    exact z2 _ hfv
  have nL : a ≠ X.env.locals := fun z => off (List.mem_filterMap.mpr ⟨X.env, List.mem_cons_self, by rw [hfm, z]⟩)
  have nF : a ∉ X.fs := fun hm => by
    obtain ⟨v, hv, z⟩ := List.mem_filterMap.mp hm
    exact off (List.mem_filterMap.mpr ⟨v, List.mem_cons_of_mem _ hv, z⟩)
  have SG := JG.suite hob hfv na nL nF
  have LT : PySem.W.Looks (model X.prog X.w) g (typeOf (.ref a)) cls := fun _ _ _ _ k z => wpAny_typeOf_ref (k _ _ hob) (by rw [hZ.1]; exact z)
  -- the clause's class is read
  have look : ∀ {x : Str} {c : Value} {p : Pos}, Names X x c → ∀ {Q : Value → Shared → Prop} {E : Value → Shared → Prop}, Q c { st with heap := g } → wpAny (model X.prog X.w) (X.A.mark (some (.ref a))) (eval (.Name x p) X.env) Q E { st with heap := g } := fun {x c p} hc {Q E} z => by
    obtain ⟨hg, hdb, hm | ⟨hm, hv, hn⟩⟩ := hc
    · exact ld_glob (X := X.suite a ((a, ob) :: (X.pn ++ pins))) SG hg hm z hdb
    · exact ld_blt (X := X.suite a ((a, ob) :: (X.pn ++ pins))) SG hg hm hv z hn hdb
  intro hs ks hk
  induction hk with
  | nil =>
    intro w
    refine wpAny_handleBy_nil ?_
    obtain ⟨_, _, _, o2, v2, T, _, _, z1, _, z2, z3, _⟩ := id fl
    unfold PySem.passOn
    refine wpAny_bind (wpAny_field z1 z2 z3 ?_)
    rw [if_neg (by simp : ¬ ((Value.ref T == Value.none) = true))]
    have off2 : wpAny (model X.prog X.w) X.A (setFlight (.ref a) X.env.frame) (fun _ s4 => wpAny (model X.prog X.w) X.A (throw (.ref a) : Sem Flow) (SP X pins D) X.xe s4) X.xe { st with heap := g } := by
      rw [hfm]
      refine HandSPX.setFlight_upZ fl fun g4 hg4 up4 => wpAny_throw (tk _ _ ⟨a, B, sI, pins, q, G, cls, d, rfl, J, nb, (up.trans up2).trans up4, .inr (.inr ?_), na, os, ag, w⟩)
      rw [hst]
      exact hg4
    first
      | exact wpAny_bind (wpAny_pure (wpAny_bind off2))
      | exact wpAny_bind off2
  | @bare x c u b1 bs p1 p2 r l hc hsu _ ih =>
    rintro ⟨y, e1, yes, no⟩
    refine wpAny_handleBy_cons (codeAny_handlers_test ?_) (fun z => nomatch z)
    refine look hc ?_
    refine (PySem.W.exm_one (M := model X.prog X.w) JG.kIn LT e1).here ?_
    cases y with
    | false => exact ih (no rfl)
    | true =>
      refine codeAny_handlers_suite (HandSPX.lands_againZ fl fun g4 fl4 up4 => ?_)
      have J4 : Inv X pins q G { st with heap := g4 } := J.landed nb fl4.1 ((up.trans up2).trans up4) os ag
      obtain ⟨o4, v4, k1, k2, k3⟩ := fl4.there
      refine wpAny_mono ((hsu a o4 cls d (X.pn ++ pins) k2 ⟨_, k3⟩).run [] _ _ G _ (J4.suite k1 k3 na nL nF) (yes rfl a na)) (fun f s6 z => ?_) (fun _ _ z => z.elim)
      cases f with
      | ret u =>
        obtain ⟨v6, q6, G6, S6, rv, z6⟩ := z
        exact ⟨v6, q6, G6, S6.unsuite okX, rv, z6⟩
      | next => obtain ⟨q6, G6, S6, z6⟩ := z; exact ⟨q6, G6, S6.unsuite okX, z6⟩
      | brk => obtain ⟨q6, G6, S6, z6⟩ := z; exact ⟨q6, G6, S6.unsuite okX, z6⟩
      | cont => obtain ⟨q6, G6, S6, z6⟩ := z; exact ⟨q6, G6, S6.unsuite okX, z6⟩
  | @named x n i c u b1 bs p1 p2 r l hN hi hln hc hsu _ ih =>
    rintro ⟨y, e1, yes, no⟩
    refine wpAny_handleBy_cons (codeAny_handlers_test ?_) (fun z => nomatch z)
    refine look hc ?_
    refine (PySem.W.exm_one (M := model X.prog X.w) JG.kIn LT e1).here ?_
    cases y with
    | false => exact ih (no rfl)
    | true =>
      refine codeAny_handlers_suite_as (HandSPX.lands_againZ fl fun g4 fl4 up4 => ?_)
      have J4 : Inv X pins q G { st with heap := g4 } := J.landed nb fl4.1 ((up.trans up2).trans up4) os ag
      obtain ⟨o4, v4, k1, k2, k3⟩ := fl4.there
      refine store_ok (X := X.suite a ((a, o4) :: (X.pn ++ pins))) (v := .ref a) (J4.suite k1 k3 na nL nF) hN hi (.inl hln) rfl (fun s5 S5 => ?_) (.inr hln)
      refine wpAny_mono ((hsu a o4 cls d (X.pn ++ pins) k2 ⟨_, k3⟩).run [] s5 _ G _ S5 (yes rfl a na)) (fun f s6 z => ?_) (fun _ _ z => z.elim)
      cases f with
      | ret u =>
        obtain ⟨v6, q6, G6, S6, rv, z6⟩ := z
        exact gone_ok (S6.unsuite okX) hN hi hln fun s7 J7 => ⟨v6, _, G6, J7, rv, z6⟩
      | next => obtain ⟨q6, G6, S6, z6⟩ := z; exact gone_ok (S6.unsuite okX) hN hi hln fun s7 J7 => ⟨_, G6, J7, z6⟩
      | brk => obtain ⟨q6, G6, S6, z6⟩ := z; exact gone_ok (S6.unsuite okX) hN hi hln fun s7 J7 => ⟨_, G6, J7, z6⟩
      | cont => obtain ⟨q6, G6, S6, z6⟩ := z; exact gone_ok (S6.unsuite okX) hN hi hln fun s7 J7 => ⟨_, G6, J7, z6⟩
/-- try: bd / except ..: .. / except ..: .. -/
theorem ps_try_clz {t : TS} (hst : X.stack = X.env :: X.outer) (hfm : X.env.frame = some X.env.locals) (tk : Takes X Wo)
    (hb : ∀ (W : WX) (pn : List (Addr × Obj)) (xe : Value → Shared → Prop), Takes (X.tr pn xe) W → PassesOwn (model X.prog X.w) X.A X.env xe → PSs (X.tr pn xe) bd (tb W))
    (hh : ClzOk X (e0 :: er) l) (ht : t = fun D q G => tb (wClz X.K Wo D l) D q G) : PS X (.Try bd (e0 :: er) [] [] pos) t := by
  subst ht
  refine ⟨fun pins s q G D I w => ?_⟩
  have okX := I.ok
  have hA : X.A.frames = some (X.env :: X.outer) := by rw [okX.frames, hst]
  refine wpAny_Try_except (wpAny_mono ((hb (wClz X.K Wo D l) (X.pn ++ pins) (fun e t1 => wpAny (model X.prog X.w) X.A (noteFrame e X.env) (fun _ t2 => wpAny (model X.prog X.w) X.A (setFlight e none) (fun _ t3 =>
    wpAny (model X.prog X.w) X.A (handleBy e X.env (e0 :: er)) (SP X pins D) X.xe t3) X.xe t2) X.xe t1) (fun u st x => ?_) PassesOwn.looking).run [] s q G D (I.toTry _) w) (fun f s1 z => ?_) (fun _ _ z => z))
  · obtain ⟨a, B, sI, _, q', G', cls, d, rfl, J', nb, up, sky, na, os, ag, w'⟩ := x
    have sky' : Sky B (X.env :: X.outer) a (Zc cls d) X.env.locals st.heap := by
      rw [← hst]
      exact sky
    show wpAny (model X.prog X.w) X.A (noteFrame (.ref a) X.env) _ _ _
    exact Sky.land Zc.steady hA hfm sky' fun g fl up2 => clz_go hst hfm tk (J'.ofTry okX) nb up up2 fl na os ag hh w'
  · cases f with
    | ret u =>
      obtain ⟨v, q', G', J', rv, z'⟩ := z
      exact ⟨v, q', G', J'.ofTry okX, rv, z'⟩
    | next => obtain ⟨q', G', J', z'⟩ := z; exact wpAny_execs_nil ⟨q', G', J'.ofTry okX, z'⟩
    | brk => obtain ⟨q', G', J', z'⟩ := z; exact ⟨q', G', J'.ofTry okX, z'⟩
    | cont => obtain ⟨q', G', J', z'⟩ := z; exact ⟨q', G', J'.ofTry okX, z'⟩
end
end L2
/-! an own object times a value of a built-in type, own ==, str of an own object, repr of plain lists; defs that know that nothing is being shown -/
namespace Dv
open PySem PySem.Spec PyProof.Rows L2
open SX (S S_len S_cat)
section
open PySem.W PySem.Calls
variable {prog : Program} {w : World} {A : Around} {E : Value → Shared → Prop} {s : Shared} {K : PySem.W.Frag} {x C L f : Addr} {h₀ : Heap} {m : Str → Option Value} {ox : Obj} {od : Option Obj} {T : String}
/-- the answer stands in the object's own method, whatever the other's type tells -/
theorem bin_ty {op : Operator} {b : Value} {fo ro : Option Value} {Q : Value → Shared → Prop} (F : Fr h₀ L s.heap m) (X₀ : K.In h₀) (I : InstAt s.heap x ox C od) (hb : Looks (model prog w) s.heap (typeOf b) (.type T)) (hc : selfFirst K C = true)
    (hs : findIn K (.ref C) (PySem.dunder op.info.2) = some (some (.ref f))) (hf : isFn K (.ref f) = true) (hr : findIn K (.ref C) (dunderR op.info.2) = some none)
    (h1 : findIn K (.type T) (PySem.dunder op.info.2) = some fo) (h2 : findIn K (.type T) (dunderR op.info.2) = some ro) (hsub : subIn K (.type T) (.ref C) = some false)
    (h : wpAny (model prog w) A (call (.ref f) [.ref x, b]) (PySem.W.CmpBack Q) E s) : wpAny (model prog w) A (binaryOp op (.ref x) b) Q E s := by
  have KX := X₀.keeps F.keep
  obtain ⟨cd, rest, k1, k2⟩ := ksp_first hc
  rcases hi : op.info with ⟨sym, nm⟩
  rw [hi] at hs hr h1 h2
  dsimp only at hs hr h1 h2
  have go := ksp_try KX I hs hf h
  obtain ⟨hp, g, d, tk, os⟩ := s
  have A1 : Looks (model prog w) hp (typeOf (.ref x)) (.ref C) := I.type
  have A2 : Looks (model prog w) hp (typeOf b) (.type T) := hb
  have A3 : Looks (model prog w) hp (fillsNumberSlot (.ref C) nm) true := fills_K KX k1 k2 hs
  have A4 : Looks (model prog w) hp (fillsNumberSlot (.type T) nm) ((fo.isSome && !isSeqSlot fo) || (ro.isSome && !isSeqSlot ro)) := ksp_fillsT KX h1 h2
  have A5 : Looks (model prog w) hp (isSubtype (.type T) (.ref C)) false := looks_subIn KX hsub
  have A6 : Looks (model prog w) hp (numberSlotInPython (.ref C) nm) true := ksp_inPy KX hs hr (.inl rfl)
  have A7 : Looks (model prog w) hp (numberSlotInPython (.type T) nm) false := Looks.of_pure rfl
  have A8 : Looks (model prog w) hp (typeLookup (.type T) (dunderR nm)) ro := looks_findIn KX h2
  have ne : (Value.ref C == Value.type T) = false := Bool.eq_false_iff.mpr fun q => by cases beq_iff_eq.mp q
  generalize ((fo.isSome && !isSeqSlot fo) || (ro.isSome && !isSeqSlot ro)) = r at A4
  simp only [binaryOp, hi]
  refine wpAny_holding (wpAny_bind ?_)
  unfold binaryOp1
  refine wpAny_bind (A1.at (wpAny_bind (A2.at (wpAny_bind (A3.at ?_)))))
  simp only [ne, Bool.false_eq_true, if_false]
  cases r <;>
  · ksp_lk
    refine wpAny_mono go (fun r s' hr' => ?_) fun _ _ e => e
    obtain ⟨v, rfl, hq⟩ := hr'
    ksp_lk
    exact hq
end
def mulT (K : PySem.W.Frag) (C : Addr) (nm : String) (T : String) : Bool := (PySem.W.findIn K (.type T) (PySem.dunder nm)).isSome && (PySem.W.findIn K (.type T) (PySem.dunderR nm)).isSome && (match PySem.W.subIn K (.type T) (.ref C) with | some false => true | _ => false)
def mulB (K : PySem.W.Frag) (C : Addr) (nm : String) : Bool := (match PySem.W.findIn K (.ref C) (PySem.dunderR nm) with | some none => true | _ => false) && mulT K C nm "int" && mulT K C nm "bool" && mulT K C nm "NoneType" && mulT K C nm "str" && mulT K C nm "list"
def rMulOwn (K : PySem.W.Frag) (C : Addr) (sp : Sp) (E : XK) : R2 := fun x y H Q => ∃ (p dp : Addr) (us : List (Str × V)) (T : String), x = .ref p ∧ H p = some (.ins C dp us) ∧ TyX K H y (.type T) ∧ T ∈ ["int", "bool", "NoneType", "str", "list"] ∧
  sp [x, y] H (fun z H2 => (∃ r, z = .ref r) ∧ Q z H2) E
theorem mulB_at {K : PySem.W.Frag} {C : Addr} {nm T : String} (h : mulB K C nm = true) (m : T ∈ ["int", "bool", "NoneType", "str", "list"]) : PySem.W.findIn K (.ref C) (PySem.dunderR nm) = some none ∧ ∃ fo ro, PySem.W.findIn K (.type T) (PySem.dunder nm) = some fo ∧ PySem.W.findIn K (.type T) (PySem.dunderR nm) = some ro ∧ PySem.W.subIn K (.type T) (.ref C) = some false := by
  have one : ∀ {T : String}, mulT K C nm T = true → ∃ fo ro, PySem.W.findIn K (.type T) (PySem.dunder nm) = some fo ∧ PySem.W.findIn K (.type T) (PySem.dunderR nm) = some ro ∧ PySem.W.subIn K (.type T) (.ref C) = some false := fun {T} q => by
    unfold mulT at q
    rw [Bool.and_eq_true, Bool.and_eq_true] at q
    obtain ⟨⟨q1, q2⟩, q3⟩ := q
    obtain ⟨fo, q1⟩ := Option.isSome_iff_exists.mp q1
    obtain ⟨ro, q2⟩ := Option.isSome_iff_exists.mp q2
    refine ⟨fo, ro, q1, q2, ?_⟩
    revert q3
    cases PySem.W.subIn K (.type T) (.ref C) with
    | none => exact fun q => nomatch q
    | some b => cases b with
      | true => exact fun q => nomatch q
      | false => exact fun _ => rfl
  unfold mulB at h
  simp only [Bool.and_eq_true] at h
  obtain ⟨⟨⟨⟨⟨h0, h1⟩, h2⟩, h3⟩, h4⟩, h5⟩ := h
  constructor
  · revert h0
    cases PySem.W.findIn K (.ref C) (PySem.dunderR nm) with
    | none => exact fun q => nomatch q
    | some b => cases b with
      | none => exact fun _ => rfl
      | some _ => exact fun q => nomatch q
  · simp only [List.mem_cons, List.not_mem_nil, or_false] at m
    rcases m with rfl | rfl | rfl | rfl | rfl
    · exact one h1
    · exact one h2
    · exact one h3
    · exact one h4
    · exact one h5
section
variable {X : Cx} {CX : CXT} {k : Nat} {f C : Addr} {fd : FuncData} {ps : List Str} {sp : Sp} {E : XK}
theorem op_mulOwn {o : Operator} (F : FnOk X.prog X.w X.K X.mg X.base CX k f fd ps sp) (hr : Room k X.A) (hc : PySem.W.selfFirst X.K C = true) (hs : PySem.W.findIn X.K (.ref C) (PySem.dunder o.info.2) = some (some (.ref f))) (hf : PySem.W.isFn X.K (.ref f) = true) (hm : mulB X.K C o.info.2 = true) (hb : Binds X.K fd ps []) (hx : Passes CX X E) :
    OpR X (binaryOp o) (rMulOwn X.K C sp E) := by
  intro pins s σ H x y v u Q J rx ry h
  obtain ⟨p, dp, us, T, rfl, hp, ty, mT, w⟩ := h
  cases rx
  obtain ⟨m1, O1, _⟩ := ins_get J.hok hp
  obtain ⟨od1, I1, _⟩ := O1.look
  obtain ⟨m, hF⟩ := J.fr
  obtain ⟨P, Z, z, _⟩ := kit_of J ry ty
  obtain ⟨h0, fo, ro, h1, h2, h3⟩ := mulB_at hm mT
  refine bin_ty hF J.ok.mod.kin I1 (Z.ty _ _ J.kIn z) hc hs hf h0 h1 h2 h3 ?_
  refine thn (run_fn F hr hb .nil hx J (show Vals [V.ref p, y] [Value.ref p, u] from .cons rfl (.cons ry .nil)) w) fun r s' ⟨z, H2, J2, rz, ⟨a, ez⟩, qz⟩ => ?_
  subst ez
  cases rz
  exact ⟨.ref a, H2, J2, rfl, qz⟩
theorem pe_mulOwn {K : PySem.W.Frag} (hK : X.K = K) {a b : Expr} {ta tb : TE} {pos : Pos} (F : FnOk X.prog X.w X.K X.mg X.base CX k f fd ps sp) (hr : Room k X.A) (hc : PySem.W.selfFirst X.K C = true) (hs : PySem.W.findIn X.K (.ref C) "__mul__" = some (some (.ref f))) (hf : PySem.W.isFn X.K (.ref f) = true) (hm : mulB X.K C "mul" = true) (hb : Binds X.K fd ps []) (hx : Passes CX X E)
    (ha : PE X a ta) (hb' : PE X b tb) : PE X (.BinOp a .Mult b pos) (tOp (rMulOwn K C sp E) ta tb) := hK ▸ pe_op (op_mulOwn (o := .Mult) F hr hc hs hf hm hb hx) ha hb'
/-- str(x), x an own object -/
def rStrOwn (C : Addr) (sp : Sp) (E : XK) : List V → Hp → VK → Prop := fun xs H Q => ∃ (a dx : Addr) (fs : List (Str × V)), xs = [.ref a] ∧ H a = some (.ins C dx fs) ∧ sp xs H (fun z H2 => (∃ r, z = .str r) ∧ Q z H2) E
theorem Room.in2 {k : Nat} {A : Around} (r : Room (k + 1) A) : Room k A.in1.in1 := ⟨r.hd, by have := r.dp; show A.depth + 3 * k + 5 < _; omega, by have := r.un; show A.units + 1 + 1 + 16 * k + 200 < _; omega⟩
theorem call_strOwn (F : FnOk X.prog X.w X.K X.mg X.base CX k f fd ps sp) (hr : Room (k + 1) X.A) (hs : PySem.W.findIn X.K (.ref C) "__str__" = some (some (.ref f))) (hf : PySem.W.isFn X.K (.ref f) = true) (hb : Binds X.K fd ps []) (hx : Passes CX X E) :
    CallR X (.type "str") (rStrOwn C sp E) := by
  intro pins s σ H xs us Q J r h
  obtain ⟨a, dx, fs, rfl, ha, w⟩ := h
  cases r with
  | cons r1 r2 =>
  cases r2
  cases r1
  obtain ⟨m1, O1, _⟩ := ins_get J.hok ha
  obtain ⟨od1, I1, _⟩ := O1.look
  have hu : X.A.in1.in1.units < cLine := by have := hr.un; show X.A.units + 1 + 1 < _; omega
  refine PySem.W.kso_call hu J.kIn I1 hs hf ?_
  have hl : ([Value.ref a] ++ ([] : List Value)).length = ps.length := F.len _ _ _ _ w
  refine wpAny_call (codeAny_mono (F.run X.A.in1.in1 X.stack s H ⟨[.ref a], []⟩ [.ref a] [.ref a] _ E (Room.in2 hr) J.env0.in1.in1 (hb s [.ref a] J.kIn hl) (.cons rfl .nil) w) fun r s' hq => ?_)
  cases r with
  | error e => exact hx pins σ H s e s' J hq
  | ok fl =>
    cases fl with
    | ret u =>
      obtain ⟨z, H', J', rz, ⟨y, ez⟩, qz⟩ := J.after hq
      subst ez
      obtain ⟨t, rfl⟩ := rz
      exact ⟨.str y, H', J', ⟨t, rfl⟩, qz⟩
    | next => exact False.elim hq
    | brk => exact False.elim hq
    | cont => exact False.elim hq
/-! repr of plain lists -/
def okRp (p : PyData) : Bool := p.showable && !p.hasDict && decide (p.depth < 100) && decide (p.shown.length ≤ sizeLine)
def rRepr (K : PySem.W.Frag) : List V → Hp → VK → Prop := fun xs H Q => ∃ (a : Addr) (p : PyData), xs = [.ref a] ∧ Dp K H (.ref a) p ∧ okRp p = true ∧ Q (.str p.shown) H
theorem call_repr (hg : X.A.guards = some []) (hr : Room k X.A) : CallR X (.builtin "repr") (rRepr X.K) := by
  intro pins s σ H xs us Q J r h
  obtain ⟨a, p, rfl, hd, ok, q⟩ := h
  cases r with
  | cons r1 r2 =>
  cases r2
  cases r1
  obtain ⟨as, rd⟩ := Dp.reads J p _ _ hd rfl
  unfold okRp at ok
  simp only [Bool.and_eq_true, Bool.not_eq_true', decide_eq_true_eq] at ok
  obtain ⟨⟨⟨h1, h2⟩, h3⟩, h4⟩ := ok
  refine repr_of_reads' rd h1 (PyData.noDict_hsm h2) hg (by have := hr.un; omega) (fun _ _ e => e) (fun h' u tk kp => ?_) h4
  exact ⟨.str p.shown, H, J.kept (h' := h') (t' := tk) kp, ⟨u, rfl⟩, q⟩
end
section
variable {K : PySem.W.Frag} {cd : Nat → Cd} {ox : Addr → Prop} {E : St → XK} {E' : XK} {kp : Nat → Bool} {H G H' G' H1 G1 : Hp} {e e1 : En} {σ : St} {Q : VK} {X : Cx} {ta tb tc te : TE} {a b c : En → Rs}
def objR (c : Nat) (e : En) (r : Rv) : Bool := match rdv e r with | some d => isObj c d | none => false
def tyR (e : En) (r : Rv) : Bool := match rdv e r with
  | some (.int _) => true
  | some (.bl _) => true
  | some .non => true
  | some (.str _) => true
  | some (.lst _) => true
  | _ => false
theorem tyR_at {r : Rv} {v : V} (g : Gd K cd ox H G e σ) (p : Pd K cd G σ r v) (h : tyR e r = true) : ∃ T, TyX K H v (.type T) ∧ T ∈ ["int", "bool", "NoneType", "str", "list"] := by
  unfold tyR at h
  cases q : rdv e r with
  | none => rw [q] at h; cases h
  | some d =>
    have bv := g.rd p q
    rw [q] at h
    cases d with
    | int _ => exact ⟨_, tyN_x bv rfl, by simp⟩
    | bl _ => exact ⟨_, tyN_x bv rfl, by simp⟩
    | non => exact ⟨_, tyN_x bv rfl, by simp⟩
    | str _ => exact ⟨_, tyN_x bv rfl, by simp⟩
    | lst _ => exact ⟨_, tyN_x bv rfl, by simp⟩
    | _ => cases h
def eMulOwn (c : Nat) (ms : List Md) (f : En → Rs) (a b : En → Rs) : En → Rs := fun e => (pubR (a e)).bind fun r1 e1 => (pubR (b e1)).bind fun r2 e2 =>
  if (objR c e2 r1 && tyR e2 r2) = true then isRefR (runF ms f [r1, r2] e2) else .stuck
theorem ev_mulOwnW {c : Nat} {ms : List Md} {f : En → Rs} {sp : Sp} {E1 : XK} (hsp : ∀ {ox : Addr → Prop} {H1 G1 : Hp} {e2 : En} {σ : St} {Q : VK} {rs : List Rv} {vs : List V}, Gd K cd ox H1 G1 e2 σ → PdL K cd G1 σ rs vs → RsW K cd ox E Q H1 G1 σ e2 (runF ms f rs e2) → sp vs H1 Q E1)
    (ha : EvD K cd E ta a) (hb : EvD K cd E tb b) : EvD K cd E (tOp (rMulOwn K (cd c).C sp E1) ta tb) (eMulOwn c ms f a b) := fun {ox} H G e σ g Q w =>
  ha.seq g (fun r1 e1 H1 G1 v1 g1 _ p1 w1 => hb.seq g1 (fun r2 e2 H2 G2 v2 g2 s2 p2 w2 => by
    have w3 : RsW K cd ox E Q H2 G2 σ e2 (if (objR c e2 r1 && tyR e2 r2) = true then isRefR (runF ms f [r1, r2] e2) else .stuck) := w2
    by_cases hc : (objR c e2 r1 && tyR e2 r2) = true
    · rw [if_pos hc] at w3
      rw [Bool.and_eq_true] at hc
      obtain ⟨p, dp, us, _, rfl, hp, _⟩ := isObj_at g2 (p1.mono s2) hc.1
      obtain ⟨T, h1, h2⟩ := tyR_at g2 p2 hc.2
      exact ⟨p, dp, us, T, rfl, hp, h1, h2, hsp g2 (.cons (p1.mono s2) (.cons p2 .nil)) (isRef_w w3)⟩
    · rw [if_neg hc] at w3; exact w3.elim) w1) w
theorem ev_mulOwn {c : Nat} {ms : List Md} {f : En → Rs} (ha : EvD K cd (fun _ => E') ta a) (hb : EvD K cd (fun _ => E') tb b) : EvD K cd (fun _ => E') (tOp (rMulOwn K (cd c).C (spD K cd f) E') ta tb) (eMulOwn c ms f a b) := ev_mulOwnW (sp := spD K cd f) (E := fun _ => E') (E1 := E') (fun g p w => sp_run g p w) ha hb
theorem ev_mulOwn0 {c : Nat} {ms : List Md} {f : En → Rs} {E1 : XK} (ha : EvD K cd E ta a) (hb : EvD K cd E tb b) : EvD K cd E (tOp (rMulOwn K (cd c).C (spD0 K cd f) E1) ta tb) (eMulOwn c ms (fun e => noX (f e)) a b) := ev_mulOwnW (f := fun e => noX (f e)) (fun g p w => sp_run0 (f := f) g p w) ha hb
/-! own == -/
def isBlR : Rs → Rs
  | .ok (.sh (.bl b)) e => .ok (.sh (.bl b)) e
  | .ok _ _ => .stuck
  | r => r
theorem isBl_w {r : Rs} (w : RsW K cd ox E Q H G σ e (isBlR r)) : RsW K cd ox E (fun z H2 => (∃ b : Bool, z = .bl b) ∧ Q z H2) H G σ e r := by
  cases r with
  | stuck => exact w
  | exc c fs e' => exact w
  | ok r e' =>
    cases r with
    | sl i => exact w.elim
    | ow d => exact w.elim
    | sh d =>
      cases d with
      | bl b => exact fun H1 G1 v g s p => ⟨by have p' : Rp K cd G1 (.bl b) v := p; cases p'; exact ⟨b, rfl⟩, w H1 G1 v g s p⟩
      | _ => exact w.elim
def eEqOwn (c : Nat) (ms : List Md) (f : En → Rs) (a b : En → Rs) : En → Rs := fun e => (pubR (a e)).bind fun r1 e1 => (pubR (b e1)).bind fun r2 e2 =>
  if (objR c e2 r1 && objR c e2 r2) = true then isBlR (runF ms f [r1, r2] e2) else .stuck
theorem ev_eqOwn0 {c : Nat} {ms : List Md} {f : En → Rs} {E1 : XK} (ha : EvD K cd E ta a) (hb : EvD K cd E tb b) : EvD K cd E (tOp (rEqOwn K (cd c).C (spD0 K cd f) E1) ta tb) (eEqOwn c ms (fun e => noX (f e)) a b) := fun {ox} H G e σ g Q w =>
  ha.seq g (fun r1 e1 H1 G1 v1 g1 _ p1 w1 => hb.seq g1 (fun r2 e2 H2 G2 v2 g2 s2 p2 w2 => by
    have w3 : RsW K cd ox E Q H2 G2 σ e2 (if (objR c e2 r1 && objR c e2 r2) = true then isBlR (runF ms (fun e => noX (f e)) [r1, r2] e2) else .stuck) := w2
    by_cases hc : (objR c e2 r1 && objR c e2 r2) = true
    · rw [if_pos hc] at w3
      rw [Bool.and_eq_true] at hc
      obtain ⟨p, dp, us, _, rfl, hp, _⟩ := isObj_at g2 (p1.mono s2) hc.1
      obtain ⟨q, dq, ws, _, rfl, hq, _⟩ := isObj_at g2 p2 hc.2
      exact ⟨p, dp, us, rfl, hp, .inl ⟨q, dq, ws, rfl, hq⟩, sp_run0 (f := f) g2 (.cons (p1.mono s2) (.cons p2 .nil)) (isBl_w w3)⟩
    · rw [if_neg hc] at w3; exact w3.elim) w1) w
/-! str of an own object -/
def isStrR : Rs → Rs
  | .ok (.sh (.str b)) e => .ok (.sh (.str b)) e
  | .ok _ _ => .stuck
  | r => r
theorem isStr_w {r : Rs} (w : RsW K cd ox E Q H G σ e (isStrR r)) : RsW K cd ox E (fun z H2 => (∃ b : Str, z = .str b) ∧ Q z H2) H G σ e r := by
  cases r with
  | stuck => exact w
  | exc c fs e' => exact w
  | ok r e' =>
    cases r with
    | sl i => exact w.elim
    | ow d => exact w.elim
    | sh d =>
      cases d with
      | str b => exact fun H1 G1 v g s p => ⟨by have p' : Rp K cd G1 (.str b) v := p; cases p'; exact ⟨S b, rfl⟩, w H1 G1 v g s p⟩
      | _ => exact w.elim
def eStrOwn (c : Nat) (ms : List Md) (f : En → Rs) (a : En → Rs) : En → Rs := fun e => (pubR (a e)).bind fun r1 e1 =>
  if objR c e1 r1 = true then isStrR (runF ms f [r1] e1) else .stuck
theorem ev_strOwn0 {c : Nat} {ms : List Md} {f : En → Rs} {E1 : XK} (ha : EvD K cd E ta a) : EvD K cd E (tCB (rStrOwn (cd c).C (spD0 K cd f) E1) (tCons ta tNil)) (eStrOwn c ms (fun e => noX (f e)) a) := fun {ox} H G e σ g Q w =>
  ha.seq g (fun r1 e1 H1 G1 v1 g1 _ p1 w1 => by
    have w3 : RsW K cd ox E Q H1 G1 σ e1 (if objR c e1 r1 = true then isStrR (runF ms (fun e => noX (f e)) [r1] e1) else .stuck) := w1
    by_cases hc : objR c e1 r1 = true
    · rw [if_pos hc] at w3
      obtain ⟨p, dp, us, _, rfl, hp, _⟩ := isObj_at g1 p1 hc
      exact ⟨p, dp, us, rfl, hp, sp_run0 (f := f) g1 (.cons p1 .nil) (isStr_w w3)⟩
    · rw [if_neg hc] at w3; exact w3.elim) w
/-! repr -/
def dRepr : List D → Option Rv
  | [.lst ds] => (pyD (.lst ds)).bind fun p => if okRp p = true then some (.sh (.str p.shown.cps.toList)) else none
  | _ => none
theorem ol_repr : OL K cd (rRepr K) dRepr := by
  intro H G ds vs z s b h Q q
  match ds, h with
  | [.lst ds], h =>
    obtain ⟨p, h1, h⟩ := bind_some h
    obtain ⟨h2, h⟩ := if_some h
    cases h
    cases b with
    | cons b1 b2 =>
    cases b2
    obtain ⟨a, vs, rfl, e, r⟩ := (show Bv K cd H G (.lst ds) _ from b1)
    exact ⟨a, p, rfl, dp_bv s (show Bv K cd H G (.lst ds) (.ref a) from ⟨a, vs, rfl, e, r⟩) h1, h2, Rz.sh s (.str p.shown.cps.toList) q⟩
end
/-! ### a def that runs where no object is being shown -/
structure FnOkG (P : Program) (w : World) (K : PySem.W.Frag) (mg : Str → Option Value) (base : Heap) (CX : CXT) (k : Nat) (f : Addr) (fd : FuncData) (ps : List Str) (sp : Sp) : Prop where
  len : ∀ vs H Q E, sp vs H Q E → vs.length = ps.length
  run : ∀ (A : Around) (outer : List Env) (s : Shared) (H : Hp) (args : Args) (us : List Value) (vs : List V) (Q : VK) (E : XK), A.guards = some [] → Room k A → Env0 P w K mg base A outer s H → BindsTo s fd args (ps.zip us) → Vals vs us → sp vs H Q E →
    codeAny (model P w) A (.call (.ref f) args) (CR CX outer P w H s Q E) s
structure CalG (P : Program) (w : World) (K : PySem.W.Frag) (mg : Str → Option Value) (base : Heap) (CX : CXT) (k : Nat) (x : Str) (sp : Sp) : Prop where
  ex : ∃ (f : Addr) (fd : FuncData) (ps : List Str), FnOkG P w K mg base CX k f fd ps sp ∧ mg x = some (.ref f) ∧ PySem.W.keepIn K (.ref f) = true ∧ Binds K fd ps []
section
variable {P : Program} {w : World} {K : PySem.W.Frag} {mg : Str → Option Value} {base : Heap}
theorem calG_of {CX : CXT} {k : Nat} {x : Str} {st : Stmt} {ps : List Str} {sp : Sp} (D : Pt.DefAt K mg x st ps) (h : ∀ (f : Addr) (fd : FuncData), Fun K x x st f fd → FnOkG P w K mg base CX k f fd ps sp) : CalG P w K mg base CX k x sp := by
  obtain ⟨f, fd, F, m, b⟩ := D.ex
  exact ⟨⟨f, fd, ps, h f fd F, m, F.kp, b⟩⟩
theorem okG {x qual : Str} {st : Stmt} {f : Addr} {fd : FuncData} {N ps : List Str} {k : Nat} {sp : Sp} (F : Fun K x qual st f fd) (S : FnScope N ps (defScope st)) (len : ∀ vs H Q E, sp vs H Q E → vs.length = ps.length)
    (hbody : ∀ (cdv : Value) (A : Around) (outer : List Env) (s : Shared) (H : Hp) (vs : List V) (Q : VK) (E : XK), A.guards = some [] → Room k (A.deeper (envOfC qual (defScope st) s.heap.objs.size f cdv)) → sp vs H Q E →
      ∃ t, PSs (cxOf CX0 P w K mg base N qual (defScope st) f cdv A outer s H E).nox (defBody st) t ∧ t { nx := fun _ H' => Q .non H', rt := Q } (start N vs) H) : FnOkG P w K mg base CX0 (k + 1) f fd ps sp := by
  obtain ⟨oc, od, kV, doc, pm, an, cdv, ct, osl, rfl, lk, hcd⟩ := F.ex
  refine ⟨len, fun A outer s H args us vs Q E hG hr e0 hb r hsp => ?_⟩
  have hl := len _ _ _ _ hsp
  have kin : K.In s.heap := e0.mod.kin.keeps fun b o e => (e0.bs b o e).1
  have nol : s.heap.NoLimit := e0.mod.nolimit.keeps fun b o e => (e0.bs b o e).1
  have kinds : ∀ y ∈ ps.zip us, (defScope st).names.lookup y.1 = some .local ∨ ((defScope st).names.lookup y.1 = some .cell ∧ ((cellsFrom (s.heap.objs.size + 1) (defScope st).names []).lookup y.1).isSome = true) := fun y hy =>
    (S.par y.1 (List.of_mem_zip (a := y.1) (b := y.2) hy).1).imp id fun q => ⟨q, PySem.W.cellsFrom_some _ _ _ (.inl q)⟩
  obtain ⟨t, ht, hq⟩ := hbody cdv A outer s H vs Q E hG (hr.deeper _) hsp
  refine codeAny_call_function hr.depth (kin _ _ lk) rfl S.co S.gen rfl (PySem.W.codeRec_of kin hcd) (hb _ _ _ _ (wpAny_newFunctionEnv_cells S.kind kinds fun env he s1 x => ?_))
  subst he
  refine ⟨nol.keeps x.toInCall.keep, codeAny_func (wpAny_mono (ht.nox.run [] s1 (start N vs) H _ (inv_start S hr.hd e0 hl r x) hq) (fun fl s' hs => ?_) fun e s' hs => hs)⟩
  cases fl with
  | ret u =>
    obtain ⟨v, σ', H', J, rv, q⟩ := hs
    exact ⟨v, H', J.os, J.bare, J.base, J.hok, rv, q⟩
  | next =>
    obtain ⟨σ', H', J, q⟩ := hs
    exact ⟨V.non, H', J.os, J.bare, J.base, J.hok, rfl, q⟩
  | brk => obtain ⟨_, _, _, q⟩ := hs; exact q.elim
  | cont => obtain ⟨_, _, _, q⟩ := hs; exact q.elim
end
section
variable {X : Cx} {j k : Nat} {x : Str} {sp : Sp} {p pos : Pos} {e : Expr} {es : List Expr} {t : TA}
theorem pe_cG (c : CalG X.prog X.w X.K X.mg X.base CX0 k x sp) (hG : X.A.guards = some []) (hr : Room j X.A) (hk : k ≤ j) (hg : Gl X x) (ha : PA X (e :: es) t)
    (hdb : (x == ("__debug__" : Str)) = false := by decide) (he : starEach (e :: es) X.env = (false, eval e X.env) :: starEach es X.env := by rfl) (hpl : (backTo pos (starEach es X.env)).any (·.1) = false := by rfl) :
    PE X (.Call (.Name x p) (e :: es) [] pos) (tCall sp [] E0 t) := by
  obtain ⟨f, fd, ps, F, hm, kp, b⟩ := c.ex
  refine ⟨fun pins s σ H Q I h => ?_⟩
  refine wpAny_Call_Name_kw (ld_glob I hg hm ?_ hdb)
  refine PySem.W.callWith_K (h₀ := X.base) I.ok.mod.kin kp (thn (ha.run pos pins s σ H _ I h) fun us s1 ⟨vs, H1, I1, r, q⟩ => ⟨I1.kIn, ?_⟩) he hpl
  have q' : sp (vs ++ []) H1 Q E0 := q
  rw [List.append_nil] at q'
  have hl : (us ++ []).length = ps.length := by rw [List.append_nil, ← r.length]; exact F.len _ _ _ _ q'
  have hb := b s1 us I1.kIn hl
  rw [List.append_nil] at hb
  refine wpAny_call (codeAny_mono (F.run X.A X.stack s1 H1 ⟨us, []⟩ us vs Q E0 hG (hr.mono hk) I1.env0 hb r q') fun r s' hq => ?_)
  cases r with
  | error e => exact hq.elim
  | ok fl =>
    cases fl with
    | ret u => exact I1.after hq
    | next => exact False.elim hq
    | brk => exact False.elim hq
    | cont => exact False.elim hq
end
/-! ### the end for such a law -/
theorem hp_script {P : Program} {w : World} {K : PySem.W.Frag} {a : Addr} {s₁ : Shared} {vs : List Value} {ns : List Int} (KX : K.In s₁.heap) (ha : s₁.heap.get? a = some { cls := .type "list", data := .seq vs.toArray }) (hi : IntsAre vs ns) (hl : ns.length ≤ sizeLine) :
    ∃ H : Hp, SqL K H a (ns.map V.int) ∧ HOk P w H s₁.heap ∧ ∀ b, H b ≠ none → b = a ∧ K.lookup a = none ∧ ∃ o xs, H b = some (.frz o (.lst xs)) := by
  have rv := vals_ints hi
  cases hk : K.lookup a with
  | some o =>
    have e := KX a o hk
    rw [ha] at e
    cases e
    exact ⟨fun _ => none, .inr ⟨_, vs.toArray, _, hk, rfl, rfl, rfl, by rw [List.size_toArray, hi.length]; exact hl, by simpa using rv⟩, (fun b u z => by have z' : (none : Option HO) = some u := z; cases z'), fun b z => absurd rfl z⟩
  | none =>
    refine ⟨fun b => if b = a then some (.frz { cls := .type "list", data := .seq vs.toArray } (.lst (ns.map V.int))) else none, .inl (.inr ⟨{ cls := .type "list", data := .seq vs.toArray }, if_pos rfl⟩), fun b u z => ?_, fun b z => ?_⟩
    · by_cases hb : b = a
      · have z' := (if_pos hb).symm.trans z
        cases z'
        subst hb
        exact ⟨ha, by rw [List.length_map]; exact hl, vs, _, rv, ha⟩
      · have z' := (if_neg hb).symm.trans z
        cases z'
    · by_cases hb : b = a
      · exact ⟨hb, rfl, _, _, if_pos hb⟩
      · exact absurd (if_neg hb) z
theorem walk_ofG {l : PySem.W.OpenLaw} {n k : Nat} {q : Program} {loose : List Str} {XP : (Str → Option Value) → Heap → Prop} {YP : World → Heap → Prop} {d : DefRec} {K : Params → PySem.W.Frag} {sp : World → Sp} {x : Str}
    (hn : l.most = some n) (hn2 : n ≤ sizeLine) (hdf : d.params.defaults = []) (hr : Room k callerA)
    (hY : ∀ (w : World) (h : Heap), YP w h → (K w.params).In h)
    (F : ∀ (w : World) (mg : Str → Option Value) (fa : Addr) (h : Heap), (K w.params).In h → h.Ns mainGlobals mg → mg d.name = some (.ref fa) →
      ∃ fd : FuncData, (∀ (s : Shared) (u : Value), BindsTo s fd ⟨[u], []⟩ [(x, u)]) ∧
        ∀ base : Heap, (K w.params).In base → base.Ns mainGlobals mg → FnOkG l.prog w (K w.params) mg base CX0 k fa fd [x] (sp w))
    (hsp : ∀ (w : World) (H : Hp) (a : Addr) (ns : List Int), ns.length ≤ n → SqL (K w.params) H a (ns.map V.int) → sp w [.ref a] H (fun v _ => v = .bl true) fun _ _ _ => False) :
    PySem.W.WalkO q loose XP YP l.row.toRowW d [] (fun f vs => PySem.call f vs) := by
  refine Att.attach_call hn hdf fun w s₀ s₁ mg mb fa o pm cd doc a vs ns G Y ho hd hcd hmg hobj hints hlen hg => ?_
  have KX := hY w _ Y
  obtain ⟨fd, hbind, hF⟩ := F w mg fa _ KX G.T.g hmg
  obtain ⟨H, hS, hok, hH⟩ := hp_script (P := l.prog) (w := w) KX hobj hints (Nat.le_trans hlen hn2)
  have stay : ∀ {b : Addr} {o : Obj}, s₁.heap.get? b = some o → H b = none → (hidT s₁.heap H).get? b = some o := fun e n => hidT_get e n
  have noD : ∀ {b : Addr} {o : Obj} {es : Array DictEntry} {ep : Nat}, s₁.heap.get? b = some o → o.data = .dict es ep → H b = none := fun {b o es ep} e dd => by
    cases q : H b with
    | none => rfl
    | some u =>
      obtain ⟨rfl, _, _⟩ := hH b (by rw [q]; simp)
      rw [hobj] at e
      cases e
      cases dd
  have nsK : ∀ {b : Addr} {m : Str → Option Value}, s₁.heap.Ns b m → (hidT s₁.heap H).Ns b m := fun ⟨o, es, ep, e, dd, r⟩ => ⟨o, es, ep, stay e (noD e dd), dd, r⟩
  have hKb : K w.params |>.In (hidT s₁.heap H) := fun b o e => stay (KX b o e) (by
    cases q : H b with
    | none => rfl
    | some u =>
      obtain ⟨rfl, z, _⟩ := hH b (by rw [q]; simp)
      rw [z] at e
      cases e)
  have hM : Mod (K w.params) mg (hidT s₁.heap H) := ⟨hKb, nsK G.T.g, ⟨mb, nsK G.T.b, G.T.builtins⟩, let ⟨mc, h1, h2⟩ := G.T.nolimit; ⟨mc, nsK h1, h2⟩⟩
  have e0 : Env0 l.prog w (K w.params) mg (hidT s₁.heap H) callerA [] s₁ H := ⟨rfl, hM, fun b o e => of_hidT e, Nat.le_of_eq (hidT_size _ _), trivial, fun b hb => absurd (show b ∈ ([] : List Addr) from hb) (by simp), hok, .of_eq hg⟩
  refine codeAny_mono ((hF _ hKb (nsK G.T.g)).run callerA [] s₁ H ⟨[.ref a], []⟩ [.ref a] [.ref a] _ _ rfl hr e0 (hbind s₁ (.ref a)) (.cons rfl .nil) (hsp w H a ns hlen hS)) fun r s' h => ?_
  cases r with
  | error e => exact False.elim h
  | ok fl =>
    cases fl with
    | next => exact False.elim h
    | brk => exact False.elim h
    | cont => exact False.elim h
    | ret u =>
      obtain ⟨v, H', os, bare, un, hok', r', q⟩ := h
      have q' : v = .bl true := q
      subst q'
      obtain rfl : u = Value.bool true := r'
      refine ⟨rfl, PySem.OldK.of_keep fun b o e => ?_, os, bare⟩
      cases q : H b with
      | none => exact un.keep b o e q (by intro z; exact absurd (show b ∈ ([] : List Addr) from z) (by simp)) (by simp)
      | some u =>
        obtain ⟨_, _, ob, xs, z⟩ := hH b (by rw [q]; simp)
        obtain ⟨e1, _⟩ := hok b _ z
        obtain ⟨e2, _⟩ := hok' b _ (un.frzs b ob _ z)
        rw [e] at e1
        cases e1
        exact e2
/-! the script's length in the law's loop -/
section
variable {K : PySem.W.Frag} {cd : Nat → Cd} {E : St → XK} {kp : Nat → Bool} {a : Addr} {us : List V}
theorem si_iter {wi wi' : TI} {g : TG} {t : TS} {f : En → Fl} (h : ∀ {e : En} {σ : St} {H : Hp}, IOk K a us e σ H → ∀ R, wi' σ H R → wi σ H R) (hs : ESI K cd E kp a us (tFor wi' g t) f) : ESI K cd E kp a us (tFor wi g t) f := fun H G e σ gd i D w => h i _ (hs H G e σ gd i D w)
def mmS (ns : List Int) : Int := if (if (ns.length : Int) < 6 then (ns.length : Int) else 6) > 2 then (if (ns.length : Int) < 6 then (ns.length : Int) else 6) else 2
theorem mm_rng {ns : List Int} {e : En} {σ : St} {H : Hp} (i : IOk K a (ns.map V.int) e σ H) (R : It → Hp → Prop) (q : iRng1 (tCons (tC (.int (mmS ns))) tNil) σ H R) :
    iRng1 (tCons (tCB (fun xs H Q => ∃ i j, xs = [.int i, .int j] ∧ Q (.int (if j > i then j else i)) H) (tCons (tC (.int 2)) (tCons (tCB (fun xs H Q => ∃ i j, xs = [.int i, .int j] ∧ Q (.int (if j < i then j else i)) H) (tCons (tC (.int 6)) (tCons (tCB (rLenA K) (tCons (tVar 0) tNil)) tNil))) tNil))) tNil) σ H R :=
  ⟨_, i.at0, .inl ⟨a, _, rfl, .inl i.sq, 6, ((ns.map V.int).length : Int), rfl, 2, _, rfl, by rw [List.length_map]; exact q⟩⟩
end
end Dv
namespace Pt
open PySem PySem.Spec PyProof.Rows L2 Dv
open SX (S S_len S_cat)
open SX (S S_len S_cat)
def top (i : Nat) : Stmt := PySem.Challenge.pw_partlabels_k62_powers_of_actions.main.body.getD i (.Pass ⟨0, 0, 0, 0⟩)
structure Cs where
  CN : Addr
  fN : Addr
  fdN : FuncData
  CG : Addr
  fG : Addr
  fdG : FuncData
  CM : Addr
  fM : Addr
  fdM : FuncData
  CA : Addr
  mAc : Addr
  fdAc : FuncData
  mAo : Addr
  fdAo : FuncData
  mAd : Addr
  fdAd : FuncData
  mAm : Addr
  fdAm : FuncData
  mAe : Addr
  fdAe : FuncData
  mAs : Addr
  fdAs : FuncData
  iA : Addr
  fdIA : FuncData
  CP : Addr
structure Txt (w : World) (K : PySem.W.Frag) (mg : Str → Option Value) (c : Cs) : Prop where
  z_abs : mg "abs" = none
  z_bool : mg "bool" = none
  z_dict : mg "dict" = none
  z_int : mg "int" = none
  z_isinstance : mg "isinstance" = none
  z_len : mg "len" = none
  z_list : mg "list" = none
  z_max : mg "max" = none
  z_min : mg "min" = none
  z_range : mg "range" = none
  z_repr : mg "repr" = none
  z_sorted : mg "sorted" = none
  z_str : mg "str" = none
  z_tuple : mg "tuple" = none
  g_LONGEST : ∃ u, mg "LONGEST" = some u ∧ RelV (.int 8) u
  xN : XC K mg "BadNumber" c.CN
  noN : PySem.W.findIn K (.ref c.CN) "number" = some none
  iN : PySem.W.findIn K (.ref c.CN) "__init__" = some (some (.ref c.fN))
  tN : PySem.W.typeIn K (.ref c.fN) = some (.type "function")
  fnN : Fun K "__init__" "BadNumber.__init__" (inClass (top 2) 0) c.fN c.fdN
  bN : Binds K c.fdN ["self", "number"] []
  xG : XC K mg "BadChange" c.CG
  noG : PySem.W.findIn K (.ref c.CG) "counter" = some none
  iG : PySem.W.findIn K (.ref c.CG) "__init__" = some (some (.ref c.fG))
  tG : PySem.W.typeIn K (.ref c.fG) = some (.type "function")
  fnG : Fun K "__init__" "BadChange.__init__" (inClass (top 3) 0) c.fG c.fdG
  bG : Binds K c.fdG ["self", "counter"] []
  xM : XC K mg "BadTimes" c.CM
  noM : PySem.W.findIn K (.ref c.CM) "times" = some none
  iM : PySem.W.findIn K (.ref c.CM) "__init__" = some (some (.ref c.fM))
  tM : PySem.W.typeIn K (.ref c.fM) = some (.type "function")
  fnM : Fun K "__init__" "BadTimes.__init__" (inClass (top 4) 0) c.fM c.fdM
  bM : Binds K c.fdM ["self", "times"] []
  gCA : mg "Action" = some (.ref c.CA)
  clA : Cls K c.CA
  tyA : ∀ {H : Hp} {a dx : Addr} {fs : List (Str × V)}, H a = some (.ins c.CA dx fs) → TyX K H (.ref a) (.ref c.CA)
  kkA : PySem.W.kitOne K (.ref c.CA) (.ref c.CA) = some true
  ksA : PySem.W.kitOne K (.type "str") (.ref c.CA) = some false
  suA : PySem.W.subIn K (.type "str") (.ref c.CA) = some false
  naA__changes : NoAttr K c.CA "_changes"
  FAc : Fun K "changes" "Action.changes" (inClass (top 12) 1) c.mAc c.fdAc
  bAc : Binds K c.fdAc ["self"] []
  MAc : Meth K c.CA "changes" c.mAc
  FAo : Fun K "of" "Action.of" (inClass (top 12) 2) c.mAo c.fdAo
  bAo : Binds K c.fdAo ["self", "values"] []
  MAo : Meth K c.CA "of" c.mAo
  FAd : Fun K "__add__" "Action.__add__" (inClass (top 12) 3) c.mAd c.fdAd
  bAd : Binds K c.fdAd ["self", "other"] []
  MAd : Meth K c.CA "__add__" c.mAd
  FAm : Fun K "__mul__" "Action.__mul__" (inClass (top 12) 4) c.mAm c.fdAm
  bAm : Binds K c.fdAm ["self", "other"] []
  MAm : Meth K c.CA "__mul__" c.mAm
  FAe : Fun K "__eq__" "Action.__eq__" (inClass (top 12) 5) c.mAe c.fdAe
  bAe : Binds K c.fdAe ["self", "other"] []
  MAe : Meth K c.CA "__eq__" c.mAe
  FAs : Fun K "__str__" "Action.__str__" (inClass (top 12) 6) c.mAs c.fdAs
  bAs : Binds K c.fdAs ["self"] []
  MAs : Meth K c.CA "__str__" c.mAs
  FIA : Fun K "__init__" "Action.__init__" (inClass (top 12) 0) c.iA c.fdIA
  bIA : Binds K c.fdIA ["self", "changes"] []
  mkA : Mk K c.CA c.iA
  gCP : mg "PartError" = some (.ref c.CP)
  kGP : PySem.W.kitOne K (.ref c.CG) (.ref c.CP) = some true
  sfA : PySem.W.selfFirst K c.CA = true
  d_is_number : DefAt K mg "is_number" (top 6) ["value"]
  d_is_natural : DefAt K mg "is_natural" (top 7) ["value"]
  d_is_name : DefAt K mg "is_name" (top 10) ["text"]
  d_is_change : DefAt K mg "is_change" (top 13) ["value"]
  d_changed : DefAt K mg "changed" (top 14) ["value", "change"]
  d_one_and_then : DefAt K mg "one_and_then" (top 15) ["first", "second"]
  d_repeated : DefAt K mg "repeated" (top 16) ["change", "times"]
  d__law_tape : DefAt K mg "_law_tape" (top 18) ["_law_script", "_law_k"]
  d__law_pick : DefAt K mg "_law_pick" (top 19) ["_law_tape_here", "_law_many"]
  d__law_shuffled : DefAt K mg "_law_shuffled" (top 20) ["_law_tape_here", "_law_items"]
  d__law_changes : DefAt K mg "_law_changes" (top 21) ["_law_tape_here"]
  d__law_power : DefAt K mg "_law_power" (top 22) ["_law_changes_here", "_law_times_here"]
  d__law_made : DefAt K mg "_law_made" (top 23) ["_law_changes_here"]
  d__law_times : DefAt K mg "_law_times" (top 24) ["_law_made_here", "_law_times_here"]
  d__law_of : DefAt K mg "_law_of" (top 25) ["_law_made_here", "_law_numbers"]
  d__law_refused : DefAt K mg "_law_refused" (top 26) ["_law_tape_here", "_law_changes_here", "_law_made_here"]
  muA : mulB K c.CA "mul" = true
end Pt
namespace Pt
open PySem PySem.Spec PyProof.Rows L2 Dv
open SX (S S_len S_cat)
def cdF (c : Cs) : Nat → Cd
  | 0 => ⟨c.CA, ["_changes"]⟩
  | 3 => ⟨c.CN, ["number"]⟩
  | 4 => ⟨c.CG, ["counter"]⟩
  | _ => ⟨c.CM, ["times"]⟩
theorem nd1 {C : Addr} {f : Str} : (⟨C, [f]⟩ : Cd).fl.Nodup := List.nodup_cons.mpr ⟨List.not_mem_nil, List.nodup_nil⟩
theorem ndF (c : Cs) (k : Nat) : (cdF c k).fl.Nodup := by
  unfold cdF
  split <;> exact nd1
theorem ln1 {C : Addr} {f : Str} : (⟨C, [f]⟩ : Cd).fl.length < 1000 := (by decide : 1 < 1000)
theorem lnF (c : Cs) (k : Nat) : (cdF c k).fl.length < 1000 := by
  unfold cdF
  split <;> exact ln1
/-- isinstance of a value against Action -/
def ownC : Nat → D → Option Bool
  | 0, .obj 0 _ => some true
  | _, _ => none
theorem ownC_ok {w : World} {K : PySem.W.Frag} {mg : Str → Option Value} {c : Cs} (T : Txt w K mg c) : OwnOk K (cdF c) ownC := fun H G k d v b h q => by
  unfold ownC at q
  split at q
  · cases q
    obtain ⟨a, dx, fs, rfl, ha, _⟩ := h
    exact ⟨_, T.tyA ha, T.kkA⟩
  · cases q
section
variable {P : Program} {w : World} {K : PySem.W.Frag} {mg : Str → Option Value} {base : Heap} {c : Cs}
abbrev sisnumber : Stmt := top 6
theorem scisnumber : FnScope ["value"] ["value"] (defScope sisnumber) := ⟨rfl, rfl, rfl, by decide +kernel, rfl, by decide +kernel, by decide +kernel⟩
def g_is_number : En → Fl := (fRet (eBr (eTest (eCB (dIsi ownC) (aCons (eVar 0) (aCons (eC (.ty "int")) aNil)))) (eBr (eTest (eCB (dIsi ownC) (aCons (eVar 0) (aCons (eC (.ty "bool")) aNil)))) (eBl false) (eBl true)) (eBl false)))
def f_is_number : En → Rs := fnF 1 0 (kpL [0]) g_is_number
theorem ok_is_number (T : Txt w K mg c) {f : Addr} {fd : FuncData} (F : Fun K "is_number" "is_number" sisnumber f fd) : FnOk P w K mg base CX0 1 f fd ["value"] (spD0 K (cdF c) f_is_number) := by
  refine F.ok scisnumber (fun vs H Q E h => spD0_len h) (fun cdv A outer s H vs Q E hr h => ?_)
  refine ⟨_, ?T, body_ok0 (K := K) (cd := cdF c) (np := 1) (n := 0) (kp := (kpL [0])) (f := g_is_number) rfl (es_ret (ev_andV (ev_cb (ol_isi (ownC_ok T)) (ea_cons ev_var (ea_cons ev_ty ea_nil))) (ev_notV (ev_cb (ol_isi (ownC_ok T)) (ea_cons ev_var (ea_cons ev_ty ea_nil)))))) h⟩
  exact (pss_one (ps_ret (pe_and (pe_callB call_isi (by rfl) T.z_isinstance (by decide +kernel) (pa_cons (pv 0) (pa_cons (pe_bltn (v := .ty "int") (by rfl) T.z_int (by decide +kernel) rfl) pa_nil))) (pe_one (pe_not (pe_callB call_isi (by rfl) T.z_isinstance (by decide +kernel) (pa_cons (pv 0) (pa_cons (pe_bltn (v := .ty "bool") (by rfl) T.z_bool (by decide +kernel) rfl) pa_nil))))))))
abbrev sisnatural : Stmt := top 7
theorem scisnatural : FnScope ["value"] ["value"] (defScope sisnatural) := ⟨rfl, rfl, rfl, by decide +kernel, rfl, by decide +kernel, by decide +kernel⟩
def g_is_natural : En → Fl := (fRet (eBr (eTest (eCall [.bo] (fun e => noX (f_is_number e)) (aCons (eVar 0) aNil))) (eOp2 dGe (eVar 0) (eC (.int 0))) (eBl false)))
def f_is_natural : En → Rs := fnF 1 0 (kpL [0]) g_is_natural
theorem ok_is_natural (T : Txt w K mg c) (cis_number : Cal P w K mg base CX0 1 "is_number" (spD0 K (cdF c) f_is_number)) {f : Addr} {fd : FuncData} (F : Fun K "is_natural" "is_natural" sisnatural f fd) : FnOk P w K mg base CX0 2 f fd ["value"] (spD0 K (cdF c) f_is_natural) := by
  refine F.ok scisnatural (fun vs H Q E h => spD0_len h) (fun cdv A outer s H vs Q E hr h => ?_)
  refine ⟨_, ?T, body_ok0 (K := K) (cd := cdF c) (np := 1) (n := 0) (kp := (kpL [0])) (f := g_is_natural) rfl (es_ret (ev_andV (ev_call0 (E1 := E0) (ea_cons ev_var ea_nil)) (ev_op2 o2_cmp ev_var ev_int))) h⟩
  exact (pss_one (ps_ret (pe_and (pe_c cis_number hr (by decide) rfl (pa_cons (pv 0) pa_nil)) (pe_one (pe_cmpR op_geA (pv 0) pe_int (nomark _))))))
abbrev sisname : Stmt := top 10
theorem scisname : FnScope ["text"] ["text"] (defScope sisname) := ⟨rfl, rfl, rfl, by decide +kernel, rfl, by decide +kernel, by decide +kernel⟩
def g_is_name : En → Fl := (fSeq (fIf (eBr (eBr (eTest (eCB (dIsi ownC) (aCons (eVar 0) (aCons (eC (.ty "str")) aNil)))) (eBl false) (eBl true)) (eBl true) (eTest (eOp2 dGt (eCB dLen (aCons (eVar 0) aNil)) (eC (.int 8))))) (fRet (eC (.bl false))) fNx)
  (fRet (eBr (eTest (eBM0 isStr dAscii (eVar 0))) (eBr (eTest (eBM0 isStr dAlpha (eVar 0))) (eBM0 isStr dLower (eVar 0)) (eBl false)) (eBl false))))
def f_is_name : En → Rs := fnF 1 0 (kpL [0]) g_is_name
theorem ok_is_name (T : Txt w K mg c) {f : Addr} {fd : FuncData} (F : Fun K "is_name" "is_name" sisname f fd) : FnOk P w K mg base CX0 1 f fd ["text"] (spD0 K (cdF c) f_is_name) := by
  refine F.ok scisname (fun vs H Q E h => spD0_len h) (fun cdv A outer s H vs Q E hr h => ?_)
  refine ⟨_, ?T, body_ok0 (K := K) (cd := cdF c) (np := 1) (n := 0) (kp := (kpL [0])) (f := g_is_name) rfl (es_seq (es_if (et_or (et_not (et_B (ev_cb (ol_isi (ownC_ok T)) (ea_cons ev_var (ea_cons ev_ty ea_nil))))) (et_test (ev_op2 o2_cmp (ev_cb ol_len (ea_cons ev_var ea_nil)) ev_int))) (es_ret ev_bl) es_next)
  (es_ret (ev_andV (ev_bm0 ty_str om_isascii ev_var) (ev_andV (ev_bm0 ty_str om_isalpha ev_var) (ev_bm0 ty_str om_islower ev_var))))) h⟩
  exact (pss_cons (ps_if (PW.pt (pw_or (pt_not (pt_val (pe_callB call_isi (by rfl) T.z_isinstance (by decide +kernel) (pa_cons (pv 0) (pa_cons (pe_bltn (v := .ty "str") (by rfl) T.z_str (by decide +kernel) rfl) pa_nil))))) (pw_or1 (pt_cmpR op_gtA (pe_callB call_lenA (by rfl) T.z_len (by decide +kernel) (pa_cons (pv 0) pa_nil)) (C8.pe_gc rfl T.g_LONGEST) (nomark _))))) (pss_one (ps_ret pe_bl)) pss_nil)
  (pss_one (ps_ret (pe_and (pe_bm0 PySem.F.plainAttrs_str PySem.F.slot_str_isascii PySem.F.type_str_isascii mt_isascii (pv 0)) (pe_and (pe_bm0 PySem.F.plainAttrs_str PySem.F.slot_str_isalpha PySem.F.type_str_isalpha mt_isalpha (pv 0)) (pe_one (pe_bm0 PySem.F.plainAttrs_str PySem.F.slot_str_islower PySem.F.type_str_islower mt_islower (pv 0))))))))
abbrev sischange : Stmt := top 13
theorem scischange : FnScope ["value"] ["value"] (defScope sischange) := ⟨rfl, rfl, rfl, by decide +kernel, rfl, by decide +kernel, by decide +kernel⟩
def g_is_change : En → Fl := (fSeq (fIf (eBr (eBr (eTest (eCB (dIsi ownC) (aCons (eVar 0) (aCons (eC (.ty "tuple")) aNil)))) (eBl false) (eBl true)) (eBl true) (eTest (eOp2 dNe (eCB dLen (aCons (eVar 0) aNil)) (eC (.int 2))))) (fRet (eC (.bl false))) fNx)
  (fRet (eBr (eTest (eCB (dIsi ownC) (aCons (eOp2 dIx (eVar 0) (eC (.int 0))) (aCons (eC (.ty "str")) aNil)))) (eBr (eTest (eOp2 (dIn false) (eOp2 dIx (eVar 0) (eC (.int 0))) (eTup (aCons (eTk (eC (.str [97, 100, 100]))) (aCons (eTk (eC (.str [115, 101, 116]))) aNil))))) (eCall [.bo] (fun e => noX (f_is_natural e)) (aCons (eOp2 dIx (eVar 0) (eC (.int 1))) aNil)) (eBl false)) (eBl false))))
def f_is_change : En → Rs := fnF 1 0 (kpL [0]) g_is_change
theorem ok_is_change (T : Txt w K mg c) (cis_natural : Cal P w K mg base CX0 2 "is_natural" (spD0 K (cdF c) f_is_natural)) {f : Addr} {fd : FuncData} (F : Fun K "is_change" "is_change" sischange f fd) : FnOk P w K mg base CX0 3 f fd ["value"] (spD0 K (cdF c) f_is_change) := by
  refine F.ok scischange (fun vs H Q E h => spD0_len h) (fun cdv A outer s H vs Q E hr h => ?_)
  refine ⟨_, ?T, body_ok0 (K := K) (cd := cdF c) (np := 1) (n := 0) (kp := (kpL [0])) (f := g_is_change) rfl (es_seq (es_if (et_or (et_not (et_B (ev_cb (ol_isi (ownC_ok T)) (ea_cons ev_var (ea_cons ev_ty ea_nil))))) (et_test (ev_op2 o2_ne (ev_cb ol_len (ea_cons ev_var ea_nil)) ev_int))) (es_ret ev_bl) es_next)
  (es_ret (ev_andV (ev_cb (ol_isi (ownC_ok T)) (ea_cons (ev_op2 o2_ix ev_var ev_int) (ea_cons ev_ty ea_nil))) (ev_andV (ev_op2 o2_in (ev_op2 o2_ix ev_var ev_int) (ev_tup (ea_cons (ev_tk ev_str) (ea_cons (ev_tk ev_str) ea_nil)))) (ev_call0 (E1 := E0) (ea_cons (ev_op2 o2_ix ev_var ev_int) ea_nil)))))) h⟩
  exact (pss_cons (ps_if (PW.pt (pw_or (pt_not (pt_val (pe_callB call_isi (by rfl) T.z_isinstance (by decide +kernel) (pa_cons (pv 0) (pa_cons (pe_bltn (v := .ty "tuple") (by rfl) T.z_tuple (by decide +kernel) rfl) pa_nil))))) (pw_or1 (pt_cmpR (op_neA (u65 hr)) (pe_callB call_lenA (by rfl) T.z_len (by decide +kernel) (pa_cons (pv 0) pa_nil)) pe_int (nomark _))))) (pss_one (ps_ret pe_bl)) pss_nil)
  (pss_one (ps_ret (pe_and (pe_callB call_isi (by rfl) T.z_isinstance (by decide +kernel) (pa_cons (pe_ix (ix_any (hu_of hr)) (pv 0) pe_int (fun _ _ => rfl)) (pa_cons (pe_bltn (v := .ty "str") (by rfl) T.z_str (by decide +kernel) rfl) pa_nil))) (pe_and (pe_cmpR (op_inA (hu_of hr)) (pe_ix (ix_any (hu_of hr)) (pv 0) pe_int (fun _ _ => rfl)) (pe_tup (pa_cons (pe_strS [97, 100, 100] (by decide +kernel)) (pa_cons (pe_strS [115, 101, 116] (by decide +kernel)) pa_nil))) (by rfl)) (pe_one (pe_c cis_natural hr (by decide) rfl (pa_cons (pe_ix (ix_any (hu_of hr)) (pv 0) pe_int (fun _ _ => rfl)) pa_nil))))))))
abbrev schanged : Stmt := top 14
theorem scchanged : FnScope ["value", "change", "word", "number"] ["value", "change"] (defScope schanged) := ⟨rfl, rfl, rfl, by decide +kernel, rfl, by decide +kernel, by decide +kernel⟩
def g_changed : En → Fl := (fSeq (fAsgT (tgTup (tgCons (tgN 2) (tgCons (tgN 3) tgNil))) (eVar 1))
  (fSeq (fIf (eTest (eOp2 dEq (eVar 2) (eC (.str [115, 101, 116])))) (fRet (eVar 3)) fNx)
  (fRet (eOp2 dAdd (eVar 0) (eVar 3)))))
def f_changed : En → Rs := fnF 2 2 (kpL [0, 1]) g_changed
theorem ok_changed (T : Txt w K mg c) {f : Addr} {fd : FuncData} (F : Fun K "changed" "changed" schanged f fd) : FnOk P w K mg base CX0 1 f fd ["value", "change"] (spD0 K (cdF c) f_changed) := by
  refine F.ok scchanged (fun vs H Q E h => spD0_len h) (fun cdv A outer s H vs Q E hr h => ?_)
  refine ⟨_, ?T, body_ok0 (K := K) (cd := cdF c) (np := 2) (n := 2) (kp := (kpL [0, 1])) (f := g_changed) rfl (es_seq (es_asgT (tg_tup (n := 2) (tgCons_len (tgCons_len tgNil_len)) (tgs_cons (tg_name rfl) (tgs_cons (tg_name rfl) tgs_nil))) ev_var)
  (es_seq (es_if (et_test (ev_op2 o2_eq ev_var ev_str)) (es_ret ev_var) es_next)
  (es_ret (ev_op2 o2_add ev_var ev_var)))) h⟩
  exact (pss_cons (ps_asg (pv 1) (pg_tup (by rfl) (pgs_cons (pg_name (i := 2) scchanged.nd rfl (Or.inl rfl)) (pgs_cons (pg_name (i := 3) scchanged.nd rfl (Or.inl rfl)) pgs_nil))))
  (pss_cons (ps_if (pt_cmpR (op_eqA (u65 hr)) (pv 2) (pe_strS [115, 101, 116] (by decide +kernel)) (nomark _)) (pss_one (ps_ret (pv 3))) pss_nil)
  (pss_one (ps_ret (pe_op op_addA (pv 0) (pv 3))))))
abbrev sActioninit : Stmt := inClass (top 12) 0
theorem scActioninit : FnScope ["self", "changes", "counter"] ["self", "changes"] (defScope sActioninit) := ⟨rfl, rfl, rfl, by decide +kernel, rfl, by decide +kernel, by decide +kernel⟩
def b0_Action_init : En → Fl := (fIf (eBr (eBr (eTest (eCall [.bo] (fun e => noX (f_is_name e)) (aCons (eVar 2) aNil))) (eBl false) (eBl true)) (eBl true) (eBr (eTest (eCall [.bo] (fun e => noX (f_is_change e)) (aCons (eOp2 dIx (eVar 1) (eVar 2)) aNil))) (eBl false) (eBl true))) (fRaise 4 (eVar 2)) fNx)
def g_Action_init : En → Fl := (fSeq (fFor (iSeq (eCB dSort (aCons (eVar 1) aNil))) (tgN 2)
  b0_Action_init)
  (fSetF 0 0 0 (eDc (iSeq (eCB dSort (aCons (eVar 1) aNil))) (tgN 2) (eTest (eOp2 dNe (eOp2 dIx (eVar 1) (eVar 2)) (eTup (aCons (eTk (eC (.str [97, 100, 100]))) (aCons (eTk (eC (.int 0))) aNil))))) (eVar 2) (eOp2 dIx (eVar 1) (eVar 2)) [2])))
def f_Action_init : En → Rs := fnF 2 1 (kpL [0, 1]) g_Action_init
theorem ok_Action_init (T : Txt w K mg c) (cis_name : Cal P w K mg base CX0 1 "is_name" (spD0 K (cdF c) f_is_name)) (cis_change : Cal P w K mg base CX0 3 "is_change" (spD0 K (cdF c) f_is_change)) (GG : FnOk P w K mg base CX0 1 c.fG c.fdG ["self", "counter"] (spXI c.CG "counter")) : FnOk P w K mg base (L2.CX P w) 4 c.iA c.fdIA ["self", "changes"] (spD K (cdF c) f_Action_init) := by
  refine T.FIA.okX scActioninit (fun vs H Q E h => spD_len h) (fun cdv A outer s H vs Q E hr h => ?_)
  refine ⟨_, ?T, body_ok (K := K) (cd := cdF c) (np := 2) (n := 1) (kp := (kpL [0, 1])) (f := g_Action_init) rfl (es_seq (es_for (ei_seq (ev_cb ol_sort (ea_cons ev_var ea_nil))) (tg_name rfl)
  (es_if (et_or (et_not (et_B (ev_call0 (E1 := E0) (ea_cons ev_var ea_nil)))) (et_not (et_B (ev_call0 (E1 := E0) (ea_cons (ev_op2 o2_ix ev_var ev_var) ea_nil))))) (es_raise (c := 4) rfl ev_var) es_next))
  (es_setF (c := 0) (j := 0) T.clA T.naA__changes (ndF c _) rfl (lnF c _) (ev_dc (vs := [2]) (ei_seq (ev_cb ol_sort (ea_cons ev_var ea_nil))) (tg_name rfl) (fun _ h => h) (et_test (ev_op2 o2_ne (ev_op2 o2_ix ev_var ev_var) (ev_tup (ea_cons (ev_tk ev_str) (ea_cons (ev_tk ev_int) ea_nil))))) ev_var (ev_op2 o2_ix ev_var ev_var)))) h⟩
  exact (pss_cons (ps_for PassesOwn.leaving rfl (pi_seqA (pe_callB (call_sortA rfl) (by rfl) T.z_sorted (by decide +kernel) (pa_cons (pv 1) pa_nil))) (pg_name (i := 2) scActioninit.nd rfl (Or.inl rfl))
  (pss_one (ps_if (PW.pt (pw_or (pt_not (pt_val (pe_c cis_name hr (by decide) rfl (pa_cons (pv 2) pa_nil)))) (pw_or1 (pt_not (pt_val (pe_c cis_change hr (by decide) rfl (pa_cons (pe_ix (ix_any (hu_of hr)) (pv 1) (pv 2) (fun _ _ => rfl)) pa_nil))))))) (pss_one (ps_raise rfl (takes_of rfl rfl rfl rfl) (pmk_oex T.xG.oex T.iG T.tG GG (hr.mono (by decide)) T.bG .nil pass0 rfl T.xG.gC (pa_cons (pv 2) pa_nil)))) pss_nil)))
  (pss_one (ps_fld (pv 0) (pe_dc (own := [("counter", 2)]) (g := (gName 2)) rfl scActioninit.nd (pi_seqA (pe_callB (call_sortA rfl) (by rfl) T.z_sorted (by decide +kernel) (pa_cons (pv 1) pa_nil))) (blkOk_by (N := ["self", "changes", "counter"]) (sc := defScope sActioninit) (by decide +kernel)) (fun _ _ _ _ _ => (pg_name (i := 2) scActioninit.nd rfl (Or.inl rfl))) (fun _ _ _ _ _ => (pts_one (pt_cmpR (op_neA (u65 hr)) (pe_ix (ix_any (hu_of hr)) (pv 1) (pv 2) (fun _ _ => rfl)) (pe_tup (pa_cons (pe_strS [97, 100, 100] (by decide +kernel)) (pa_cons pe_int pa_nil))) (nomark _)))) (fun _ _ _ _ _ => (pv 2)) (fun _ _ _ _ _ => (pe_ix (ix_any (hu_of hr)) (pv 1) (pv 2) (fun _ _ => rfl)))) rfl)))
abbrev sActionchanges : Stmt := inClass (top 12) 1
theorem scActionchanges : FnScope ["self"] ["self"] (defScope sActionchanges) := ⟨rfl, rfl, rfl, by decide +kernel, rfl, by decide +kernel, by decide +kernel⟩
def g_Action_changes : En → Fl := (fRet (eCB dDict (aCons (eFld 0 0 (eVar 0)) aNil)))
def f_Action_changes : En → Rs := fnF 1 0 (kpL [0]) g_Action_changes
theorem ok_Action_changes (T : Txt w K mg c) : FnOk P w K mg base CX0 1 c.mAc c.fdAc ["self"] (spD0 K (cdF c) f_Action_changes) := by
  refine T.FAc.ok scActionchanges (fun vs H Q E h => spD0_len h) (fun cdv A outer s H vs Q E hr h => ?_)
  refine ⟨_, ?T, body_ok0 (K := K) (cd := cdF c) (np := 1) (n := 0) (kp := (kpL [0])) (f := g_Action_changes) rfl (es_ret (ev_cb ol_dict (ea_cons (ev_fld (c := 0) (j := 0) T.clA T.naA__changes (ndF c _) rfl ev_var) ea_nil))) h⟩
  exact (pss_one (ps_ret (pe_callTy (call_dictA rfl) (by rfl) T.z_dict (by decide +kernel) (pa_cons (pe_fld (pv 0) rfl) pa_nil))))
abbrev sActionof : Stmt := inClass (top 12) 2
theorem scActionof : FnScope ["self", "values", "counter"] ["self", "values"] (defScope sActionof) := ⟨rfl, rfl, rfl, by decide +kernel, rfl, by decide +kernel, by decide +kernel⟩
def b0_Action_of : En → Fl := (fIf (eBr (eTest (eCall [.bo] (fun e => noX (f_is_natural e)) (aCons (eOp2 dIx (eVar 1) (eVar 2)) aNil))) (eBl false) (eBl true)) (fRaise 3 (eOp2 dIx (eVar 1) (eVar 2))) fNx)
def g_Action_of : En → Fl := (fSeq (fFor (iSeq (eCB dSort (aCons (eVar 1) aNil))) (tgN 2)
  b0_Action_of)
  (fRet (eDcK (fun ds => ds.map (·.1)) (vVar 1) (tgN 2) (eBl true) (eVar 2) (eCall [.bo, .bo] (fun e => noX (f_changed e)) (aCons (eOp2 dIx (eVar 1) (eVar 2)) (aCons (eGet2 (eFld 0 0 (eVar 0)) (eVar 2) (eTup (aCons (eTk (eC (.str [97, 100, 100]))) (aCons (eTk (eC (.int 0))) aNil)))) aNil))) [2])))
def f_Action_of : En → Rs := fnF 2 1 (kpL [0, 1]) g_Action_of
theorem ok_Action_of (T : Txt w K mg c) (cis_natural : Cal P w K mg base CX0 2 "is_natural" (spD0 K (cdF c) f_is_natural)) (GN : FnOk P w K mg base CX0 1 c.fN c.fdN ["self", "number"] (spXI c.CN "number")) (cchanged : Cal P w K mg base CX0 1 "changed" (spD0 K (cdF c) f_changed)) : FnOk P w K mg base (L2.CX P w) 3 c.mAo c.fdAo ["self", "values"] (spD K (cdF c) f_Action_of) := by
  refine T.FAo.okX scActionof (fun vs H Q E h => spD_len h) (fun cdv A outer s H vs Q E hr h => ?_)
  refine ⟨_, ?T, body_ok (K := K) (cd := cdF c) (np := 2) (n := 1) (kp := (kpL [0, 1])) (f := g_Action_of) rfl (es_seq (es_for (ei_seq (ev_cb ol_sort (ea_cons ev_var ea_nil))) (tg_name rfl)
  (es_if (et_not (et_B (ev_call0 (E1 := E0) (ea_cons (ev_op2 o2_ix ev_var ev_var) ea_nil)))) (es_raise (c := 3) rfl (ev_op2 o2_ix ev_var ev_var)) es_next))
  (es_ret (ev_dcK (vs := [2]) wkd_keys vv_var (tg_name rfl) (fun _ h => h) et_yes ev_var (ev_call0 (E1 := E0) (ea_cons (ev_op2 o2_ix ev_var ev_var) (ea_cons (ev_get2 (ev_fld (c := 0) (j := 0) T.clA T.naA__changes (ndF c _) rfl ev_var) ev_var (ev_tup (ea_cons (ev_tk ev_str) (ea_cons (ev_tk ev_int) ea_nil)))) ea_nil)))))) h⟩
  exact (pss_cons (ps_for PassesOwn.leaving rfl (pi_seqA (pe_callB (call_sortA rfl) (by rfl) T.z_sorted (by decide +kernel) (pa_cons (pv 1) pa_nil))) (pg_name (i := 2) scActionof.nd rfl (Or.inl rfl))
  (pss_one (ps_if (pt_not (pt_val (pe_c cis_natural hr (by decide) rfl (pa_cons (pe_ix (ix_any (hu_of hr)) (pv 1) (pv 2) (fun _ _ => rfl)) pa_nil)))) (pss_one (ps_raise rfl (takes_of rfl rfl rfl rfl) (pmk_oex T.xN.oex T.iN T.tN GN (hr.mono (by decide)) T.bN .nil pass0 rfl T.xN.gC (pa_cons (pe_ix (ix_any (hu_of hr)) (pv 1) (pv 2) (fun _ _ => rfl)) pa_nil)))) pss_nil)))
  (pss_one (ps_ret (pe_keys (pe_dc (own := [("counter", 2)]) (g := (gName 2)) rfl scActionof.nd (pi_keys (pv 1)) (blkOk_by (N := ["self", "values", "counter"]) (sc := defScope sActionof) (by decide +kernel)) (fun _ _ _ _ _ => (pg_name (i := 2) scActionof.nd rfl (Or.inl rfl))) (fun _ _ _ _ _ => pts_nil) (fun _ _ _ _ _ => (pv 2)) (fun _ _ _ _ _ => (pe_c cchanged hr (by decide) rfl (pa_cons (pe_ix (ix_any (hu_of hr)) (pv 1) (pv 2) (fun _ _ => rfl)) (pa_cons (pe_dget2 (hu_of hr) (pe_fld (pv 0) rfl) (pv 2) (pe_tup (pa_cons (pe_strS [97, 100, 100] (by decide +kernel)) (pa_cons pe_int pa_nil))) ⟨rfl, rfl, rfl, rfl⟩) pa_nil)))))))))
abbrev soneandthen : Stmt := top 15
theorem sconeandthen : FnScope ["first", "second", "found", "counter", "word", "number"] ["first", "second"] (defScope soneandthen) := ⟨rfl, rfl, rfl, by decide +kernel, rfl, by decide +kernel, by decide +kernel⟩
def b0_one_and_then : En → Fl := (fIf (eBr (eTest (eOp2 dEq (eVar 4) (eC (.str [97, 100, 100])))) (eTest (eOp2 (dIn false) (eVar 3) (eVar 0))) (eBl false)) (fPut 2 (eVar 3) (eTup (aCons (eTk (eOp2 dIx (eOp2 dIx (eVar 0) (eVar 3)) (eC (.int 0)))) (aCons (eTk (eOp2 dAdd (eOp2 dIx (eOp2 dIx (eVar 0) (eVar 3)) (eC (.int 1))) (eVar 5))) aNil)))) (fPut 2 (eVar 3) (eTup (aCons (eTk (eVar 4)) (aCons (eTk (eVar 5)) aNil)))))
def g_one_and_then : En → Fl := (fSeq (fAsg 2 (eCB dDict (aCons (eVar 0) aNil)))
  (fSeq (fKeys (fun ds => ds.map fun q => .tup [q.1, q.2]) (vVar 1) (tgTup (tgCons (tgN 3) (tgCons (tgTup (tgCons (tgN 4) (tgCons (tgN 5) tgNil))) tgNil)))
  b0_one_and_then)
  (fRet (eVar 2))))
def f_one_and_then : En → Rs := fnF 2 4 (kpL [0, 1]) g_one_and_then
theorem ok_one_and_then (T : Txt w K mg c) {f : Addr} {fd : FuncData} (F : Fun K "one_and_then" "one_and_then" soneandthen f fd) : FnOk P w K mg base CX0 1 f fd ["first", "second"] (spD0 K (cdF c) f_one_and_then) := by
  refine F.ok sconeandthen (fun vs H Q E h => spD0_len h) (fun cdv A outer s H vs Q E hr h => ?_)
  refine ⟨_, ?T, body_ok0 (K := K) (cd := cdF c) (np := 2) (n := 4) (kp := (kpL [0, 1])) (f := g_one_and_then) rfl (es_seq (es_asg rfl (ev_cb ol_dict (ea_cons ev_var ea_nil)))
  (es_seq (es_keys wkd_items vv_var (tg_tup (n := 2) (tgCons_len (tgCons_len tgNil_len)) (tgs_cons (tg_name rfl) (tgs_cons (tg_tup (n := 2) (tgCons_len (tgCons_len tgNil_len)) (tgs_cons (tg_name rfl) (tgs_cons (tg_name rfl) tgs_nil))) tgs_nil)))
  (es_if (et_and (et_test (ev_op2 o2_eq ev_var ev_str)) (et_test (ev_op2 o2_in ev_var ev_var))) (es_put ev_var (ev_tup (ea_cons (ev_tk (ev_op2 o2_ix (ev_op2 o2_ix ev_var ev_var) ev_int)) (ea_cons (ev_tk (ev_op2 o2_add (ev_op2 o2_ix (ev_op2 o2_ix ev_var ev_var) ev_int) ev_var)) ea_nil)))) (es_put ev_var (ev_tup (ea_cons (ev_tk ev_var) (ea_cons (ev_tk ev_var) ea_nil))))))
  (es_ret ev_var))) h⟩
  exact (pss_cons (ps_set (i := 2) sconeandthen.nd rfl (Or.inl rfl) (pe_callTy (call_dictA rfl) (by rfl) T.z_dict (by decide +kernel) (pa_cons (pv 0) pa_nil)))
  (pss_cons (ps_keys (ps_for PassesOwn.never rfl (pi_items (pv 1)) (pg_tup (by rfl) (pgs_cons (pg_name (i := 3) sconeandthen.nd rfl (Or.inl rfl)) (pgs_cons (pg_tup (by rfl) (pgs_cons (pg_name (i := 4) sconeandthen.nd rfl (Or.inl rfl)) (pgs_cons (pg_name (i := 5) sconeandthen.nd rfl (Or.inl rfl)) pgs_nil))) pgs_nil)))
  (pss_one (ps_if (PW.pt (pw_and (pt_cmpR (op_eqA (u65 hr)) (pv 4) (pe_strS [97, 100, 100] (by decide +kernel)) (nomark _)) (pw_and1 (pt_cmpR (op_inA (hu_of hr)) (pv 3) (pv 0) (by rfl))))) (pss_one (ps_dput (hu_of hr) (pv 2) (pv 3) (pe_tup (pa_cons (pe_ix (ix_any (hu_of hr)) (pe_ix (ix_any (hu_of hr)) (pv 0) (pv 3) (fun _ _ => rfl)) pe_int (fun _ _ => rfl)) (pa_cons (pe_op op_addA (pe_ix (ix_any (hu_of hr)) (pe_ix (ix_any (hu_of hr)) (pv 0) (pv 3) (fun _ _ => rfl)) pe_int (fun _ _ => rfl)) (pv 5)) pa_nil))) rfl)) (pss_one (ps_dput (hu_of hr) (pv 2) (pv 3) (pe_tup (pa_cons (pv 4) (pa_cons (pv 5) pa_nil))) rfl))))))
  (pss_one (ps_ret (pv 2)))))
abbrev sActionadd : Stmt := inClass (top 12) 3
theorem scActionadd : FnScope ["self", "other"] ["self", "other"] (defScope sActionadd) := ⟨rfl, rfl, rfl, by decide +kernel, rfl, by decide +kernel, by decide +kernel⟩
def g_Action_add : En → Fl := (fSeq (fIf (eBr (eTest (eCB (dIsi ownC) (aCons (eVar 1) (aCons (eC (.cls 0)) aNil)))) (eBl false) (eBl true)) fNever fNx)
  (fRet (eMake 0 [.bo] f_Action_init (aCons (eCall [.bo, .bo] (fun e => noX (f_one_and_then e)) (aCons (eFld 0 0 (eVar 0)) (aCons (eFld 0 0 (eVar 1)) aNil))) aNil))))
def f_Action_add : En → Rs := fnF 2 0 (kpL [0, 1]) g_Action_add
theorem ok_Action_add (T : Txt w K mg c) (hIA : FnOk P w K mg base (L2.CX P w) 4 c.iA c.fdIA ["self", "changes"] (spD K (cdF c) f_Action_init)) (cone_and_then : Cal P w K mg base CX0 1 "one_and_then" (spD0 K (cdF c) f_one_and_then)) : FnOk P w K mg base CX0 6 c.mAd c.fdAd ["self", "other"] (spD0 K (cdF c) f_Action_add) := by
  refine T.FAd.ok scActionadd (fun vs H Q E h => spD0_len h) (fun cdv A outer s H vs Q E hr h => ?_)
  refine ⟨_, ?T, body_ok0 (K := K) (cd := cdF c) (np := 2) (n := 0) (kp := (kpL [0, 1])) (f := g_Action_add) rfl (es_seq (es_if (et_not (et_B (ev_cb (ol_isi (ownC_ok T)) (ea_cons ev_var (ea_cons (ev_c (v := .ref c.CA) fun _ => .cls 0) ea_nil))))) es_dead es_next)
  (es_ret (ev_make (E' := E0) (c := 0) (ea_cons (ev_call0 (E1 := E0) (ea_cons (ev_fld (c := 0) (j := 0) T.clA T.naA__changes (ndF c _) rfl ev_var) (ea_cons (ev_fld (c := 0) (j := 0) T.clA T.naA__changes (ndF c _) rfl ev_var) ea_nil))) ea_nil)))) h⟩
  exact (pss_cons (ps_if (pt_not (pt_val (pe_callB call_isi (by rfl) T.z_isinstance (by decide +kernel) (pa_cons (pv 1) (pa_cons (pe_glob (v := .ref c.CA) rfl T.gCA rfl) pa_nil))))) (pss_one ps_dead) pss_nil)
  (pss_one (ps_ret (pe_make (E := E0) T.mkA hIA (hr.mono (by decide)) rfl T.gCA T.bIA .nil passL (pa_cons (pe_c cone_and_then hr (by decide) rfl (pa_cons (pe_fld (pv 0) rfl) (pa_cons (pe_fld (pv 1) rfl) pa_nil))) pa_nil)))))
abbrev srepeated : Stmt := top 16
theorem screpeated : FnScope ["change", "times", "word", "number"] ["change", "times"] (defScope srepeated) := ⟨rfl, rfl, rfl, by decide +kernel, rfl, by decide +kernel, by decide +kernel⟩
def g_repeated : En → Fl := (fSeq (fAsgT (tgTup (tgCons (tgN 2) (tgCons (tgN 3) tgNil))) (eVar 0))
  (fSeq (fIf (eTest (eOp2 dEq (eVar 2) (eC (.str [115, 101, 116])))) (fRet (eVar 0)) fNx)
  (fRet (eTup (aCons (eTk (eVar 2)) (aCons (eTk (eOp2 dMul (eVar 3) (eVar 1))) aNil))))))
def f_repeated : En → Rs := fnF 2 2 (kpL [0, 1]) g_repeated
theorem ok_repeated (T : Txt w K mg c) {f : Addr} {fd : FuncData} (F : Fun K "repeated" "repeated" srepeated f fd) : FnOk P w K mg base CX0 1 f fd ["change", "times"] (spD0 K (cdF c) f_repeated) := by
  refine F.ok screpeated (fun vs H Q E h => spD0_len h) (fun cdv A outer s H vs Q E hr h => ?_)
  refine ⟨_, ?T, body_ok0 (K := K) (cd := cdF c) (np := 2) (n := 2) (kp := (kpL [0, 1])) (f := g_repeated) rfl (es_seq (es_asgT (tg_tup (n := 2) (tgCons_len (tgCons_len tgNil_len)) (tgs_cons (tg_name rfl) (tgs_cons (tg_name rfl) tgs_nil))) ev_var)
  (es_seq (es_if (et_test (ev_op2 o2_eq ev_var ev_str)) (es_ret ev_var) es_next)
  (es_ret (ev_tup (ea_cons (ev_tk ev_var) (ea_cons (ev_tk (ev_op2 o2_mul ev_var ev_var)) ea_nil)))))) h⟩
  exact (pss_cons (ps_asg (pv 0) (pg_tup (by rfl) (pgs_cons (pg_name (i := 2) screpeated.nd rfl (Or.inl rfl)) (pgs_cons (pg_name (i := 3) screpeated.nd rfl (Or.inl rfl)) pgs_nil))))
  (pss_cons (ps_if (pt_cmpR (op_eqA (u65 hr)) (pv 2) (pe_strS [115, 101, 116] (by decide +kernel)) (nomark _)) (pss_one (ps_ret (pv 0))) pss_nil)
  (pss_one (ps_ret (pe_tup (pa_cons (pv 2) (pa_cons (pe_op op_mulW (pv 3) (pv 1)) pa_nil)))))))
abbrev sActionmul : Stmt := inClass (top 12) 4
theorem scActionmul : FnScope ["self", "other", "counter", "change"] ["self", "other"] (defScope sActionmul) := ⟨rfl, rfl, rfl, by decide +kernel, rfl, by decide +kernel, by decide +kernel⟩
def g_Action_mul : En → Fl := (fSeq (fIf (eBr (eTest (eCall [.bo] (fun e => noX (f_is_natural e)) (aCons (eVar 1) aNil))) (eBl false) (eBl true)) (fRaise 5 (eVar 1)) fNx)
  (fSeq (fIf (eTest (eOp2 dEq (eVar 1) (eC (.int 0)))) (fRet (eMake 0 [.bo] f_Action_init (aCons eDct0 aNil))) fNx)
  (fRet (eMake 0 [.bo] f_Action_init (aCons (eDcK (fun ds => ds.map fun q => .tup [q.1, q.2]) (vFld 0 0 (vVar 0)) (tgTup (tgCons (tgN 2) (tgCons (tgN 3) tgNil))) (eBl true) (eVar 2) (eCall [.bo, .bo] (fun e => noX (f_repeated e)) (aCons (eVar 3) (aCons (eVar 1) aNil))) [2, 3]) aNil)))))
def f_Action_mul : En → Rs := fnF 2 2 (kpL [0, 1]) g_Action_mul
theorem ok_Action_mul (T : Txt w K mg c) (cis_natural : Cal P w K mg base CX0 2 "is_natural" (spD0 K (cdF c) f_is_natural)) (GM : FnOk P w K mg base CX0 1 c.fM c.fdM ["self", "times"] (spXI c.CM "times")) (hIA : FnOk P w K mg base (L2.CX P w) 4 c.iA c.fdIA ["self", "changes"] (spD K (cdF c) f_Action_init)) (crepeated : Cal P w K mg base CX0 1 "repeated" (spD0 K (cdF c) f_repeated)) : FnOk P w K mg base (L2.CX P w) 6 c.mAm c.fdAm ["self", "other"] (spD K (cdF c) f_Action_mul) := by
  refine T.FAm.okX scActionmul (fun vs H Q E h => spD_len h) (fun cdv A outer s H vs Q E hr h => ?_)
  refine ⟨_, ?T, body_ok (K := K) (cd := cdF c) (np := 2) (n := 2) (kp := (kpL [0, 1])) (f := g_Action_mul) rfl (es_seq (es_if (et_not (et_B (ev_call0 (E1 := E0) (ea_cons ev_var ea_nil)))) (es_raise (c := 5) rfl ev_var) es_next)
  (es_seq (es_if (et_test (ev_op2 o2_eq ev_var ev_int)) (es_ret (ev_make (E' := E) (c := 0) (ea_cons ev_dct0 ea_nil))) es_next)
  (es_ret (ev_make (E' := E) (c := 0) (ea_cons (ev_dcK (vs := [2, 3]) wkd_items (vv_fld (c := 0) (j := 0) T.clA T.naA__changes (ndF c _) rfl vv_var) (tg_tup (n := 2) (tgCons_len (tgCons_len tgNil_len)) (tgs_cons (tg_name rfl) (tgs_cons (tg_name rfl) tgs_nil))) (fun _ h => h) et_yes ev_var (ev_call0 (E1 := E0) (ea_cons ev_var (ea_cons ev_var ea_nil)))) ea_nil))))) h⟩
  exact (pss_cons (ps_if (pt_not (pt_val (pe_c cis_natural hr (by decide) rfl (pa_cons (pv 1) pa_nil)))) (pss_one (ps_raise rfl (takes_of rfl rfl rfl rfl) (pmk_oex T.xM.oex T.iM T.tM GM (hr.mono (by decide)) T.bM .nil pass0 rfl T.xM.gC (pa_cons (pv 1) pa_nil)))) pss_nil)
  (pss_cons (ps_if (pt_cmpR (op_eqA (u65 hr)) (pv 1) pe_int (nomark _)) (pss_one (ps_ret (pe_make (E := E) T.mkA hIA (hr.mono (by decide)) rfl T.gCA T.bIA .nil (passes_call (takes_of rfl rfl rfl rfl) (fun _ _ _ _ h => h)) (pa_cons pe_dnewK pa_nil)))) pss_nil)
  (pss_one (ps_ret (pe_make (E := E) T.mkA hIA (hr.mono (by decide)) rfl T.gCA T.bIA .nil (passes_call (takes_of rfl rfl rfl rfl) (fun _ _ _ _ h => h)) (pa_cons (pe_keys (pe_dc (own := [("counter", 2), ("change", 3)]) (g := (gTup K 2 (gCons (gName 2) (gCons (gName 3) gNil)))) rfl scActionmul.nd (pi_items (pe_fld (pv 0) rfl)) (blkOk_by (N := ["self", "other", "counter", "change"]) (sc := defScope sActionmul) (by decide +kernel)) (fun _ _ _ _ _ => (pg_tup (by rfl) (pgs_cons (pg_name (i := 2) scActionmul.nd rfl (Or.inl rfl)) (pgs_cons (pg_name (i := 3) scActionmul.nd rfl (Or.inl rfl)) pgs_nil)))) (fun _ _ _ _ _ => pts_nil) (fun _ _ _ _ _ => (pv 2)) (fun _ _ _ _ _ => (pe_c crepeated hr (by decide) rfl (pa_cons (pv 3) (pa_cons (pv 1) pa_nil)))))) pa_nil))))))
abbrev sActioneq : Stmt := inClass (top 12) 5
theorem scActioneq : FnScope ["self", "other"] ["self", "other"] (defScope sActioneq) := ⟨rfl, rfl, rfl, by decide +kernel, rfl, by decide +kernel, by decide +kernel⟩
def g_Action_eq : En → Fl := (fRet (eBr (eTest (eCB (dIsi ownC) (aCons (eVar 1) (aCons (eC (.cls 0)) aNil)))) (eOp2 dEq (eFld 0 0 (eVar 0)) (eFld 0 0 (eVar 1))) (eBl false)))
def f_Action_eq : En → Rs := fnF 2 0 (kpL [0, 1]) g_Action_eq
theorem ok_Action_eq (T : Txt w K mg c) : FnOk P w K mg base CX0 1 c.mAe c.fdAe ["self", "other"] (spD0 K (cdF c) f_Action_eq) := by
  refine T.FAe.ok scActioneq (fun vs H Q E h => spD0_len h) (fun cdv A outer s H vs Q E hr h => ?_)
  refine ⟨_, ?T, body_ok0 (K := K) (cd := cdF c) (np := 2) (n := 0) (kp := (kpL [0, 1])) (f := g_Action_eq) rfl (es_ret (ev_andV (ev_cb (ol_isi (ownC_ok T)) (ea_cons ev_var (ea_cons (ev_c (v := .ref c.CA) fun _ => .cls 0) ea_nil))) (ev_op2 o2_eq (ev_fld (c := 0) (j := 0) T.clA T.naA__changes (ndF c _) rfl ev_var) (ev_fld (c := 0) (j := 0) T.clA T.naA__changes (ndF c _) rfl ev_var)))) h⟩
  exact (pss_one (ps_ret (pe_and (pe_callB call_isi (by rfl) T.z_isinstance (by decide +kernel) (pa_cons (pv 1) (pa_cons (pe_glob (v := .ref c.CA) rfl T.gCA rfl) pa_nil))) (pe_one (pe_cmpR (op_eqA (u65 hr)) (pe_fld (pv 0) rfl) (pe_fld (pv 1) rfl) (nomark _))))))
abbrev sActionstr : Stmt := inClass (top 12) 6
theorem scActionstr : FnScope ["self", "counter", "word", "number"] ["self"] (defScope sActionstr) := ⟨rfl, rfl, rfl, by decide +kernel, rfl, by decide +kernel, by decide +kernel⟩
def g_Action_str : En → Fl := (fSeq (fIf (eTest (eOp2 dEq (eCB dLen (aCons (eFld 0 0 (eVar 0)) aNil)) (eC (.int 0)))) (fRet (eC (.str [110, 111, 116, 104, 105, 110, 103]))) fNx)
  fNever)
def f_Action_str : En → Rs := fnF 1 3 (kpL [0]) g_Action_str
theorem ok_Action_str (T : Txt w K mg c) : FnOk P w K mg base CX0 1 c.mAs c.fdAs ["self"] (spD0 K (cdF c) f_Action_str) := by
  refine T.FAs.ok scActionstr (fun vs H Q E h => spD0_len h) (fun cdv A outer s H vs Q E hr h => ?_)
  refine ⟨_, ?T, body_ok0 (K := K) (cd := cdF c) (np := 1) (n := 3) (kp := (kpL [0])) (f := g_Action_str) rfl (es_seq (es_if (et_test (ev_op2 o2_eq (ev_cb ol_len (ea_cons (ev_fld (c := 0) (j := 0) T.clA T.naA__changes (ndF c _) rfl ev_var) ea_nil)) ev_int)) (es_ret ev_str) es_next)
  es_dead) h⟩
  exact (pss_cons (ps_if (pt_cmpR (op_eqA (u65 hr)) (pe_callB call_lenA (by rfl) T.z_len (by decide +kernel) (pa_cons (pe_fld (pv 0) rfl) pa_nil)) pe_int (nomark _)) (pss_one (ps_ret (pe_strS [110, 111, 116, 104, 105, 110, 103] (by decide +kernel)))) pss_nil)
  (pss_one ps_dead))
end
end Pt
namespace Pt
open PySem PySem.Spec PyProof.Rows L2 Dv
open SX (S S_len S_cat)
section
variable {P : Program} {w : World} {K : PySem.W.Frag} {mg : Str → Option Value} {base : Heap} {c : Cs}
def catN : Nat → Option Bool
  | 3 => some true
  | _ => none
theorem catN_ok {w : World} {K : PySem.W.Frag} {mg : Str → Option Value} {c : Cs} (T : Txt w K mg c) : ∀ k b, catN k = some b → PySem.W.exmOne K (.ref (cdF c k).C) (.ref c.CN) = some b := fun k b h => by
  unfold catN at h
  split at h <;> cases h
  exact T.xN.me
def catG : Nat → Option Bool
  | 4 => some true
  | _ => none
theorem catG_ok {w : World} {K : PySem.W.Frag} {mg : Str → Option Value} {c : Cs} (T : Txt w K mg c) : ∀ k b, catG k = some b → PySem.W.exmOne K (.ref (cdF c k).C) (.ref c.CG) = some b := fun k b h => by
  unfold catG at h
  split at h <;> cases h
  exact T.xG.me
def catM : Nat → Option Bool
  | 5 => some true
  | _ => none
theorem catM_ok {w : World} {K : PySem.W.Frag} {mg : Str → Option Value} {c : Cs} (T : Txt w K mg c) : ∀ k b, catM k = some b → PySem.W.exmOne K (.ref (cdF c k).C) (.ref c.CM) = some b := fun k b h => by
  unfold catM at h
  split at h <;> cases h
  exact T.xM.me
def isG : Nat → Option Bool
  | 4 => some true
  | _ => none
theorem isG_ok {w : World} {K : PySem.W.Frag} {mg : Str → Option Value} {c : Cs} (T : Txt w K mg c) : ∀ k b, isG k = some b → ExcC K (cdF c k).C ∧ PySem.W.kitOne K (.ref (cdF c k).C) (.ref c.CP) = some b := fun k b h => by
  unfold isG at h
  split at h <;> cases h
  exact ⟨T.xG.ex, T.kGP⟩
abbrev sZtape : Stmt := top 18
theorem scZtape : FnScope ["_law_script", "_law_k", "_law_cell"] ["_law_script", "_law_k"] (defScope sZtape) := ⟨rfl, rfl, rfl, by decide +kernel, rfl, by decide +kernel, by decide +kernel⟩
def g_Ltape : En → Fl := (fSeq (fAsg 2 (eBr (eTest (eOp2 dLt (eVar 1) (eCB dLen (aCons (eVar 0) aNil)))) (eOp2 dIx (eVar 0) (eVar 1)) (eC (.int 0))))
  (fRet (eLst (aCons (eTk (eCB dAbs (aCons (eVar 2) aNil))) (aCons (eTk (eOp2 dAdd (eOp2 dMul (eC (.int 7919)) (eVar 1)) (eC (.int 104729)))) aNil)))))
def f_Ltape : En → Rs := fnF 2 1 (kpL [0, 1]) g_Ltape
theorem ok_Ltape (T : Txt w K mg c) {f : Addr} {fd : FuncData} (F : Fun K "_law_tape" "_law_tape" sZtape f fd) : FnOk P w K mg base CX0 1 f fd ["_law_script", "_law_k"] (spD0 K (cdF c) f_Ltape) := by
  refine F.ok scZtape (fun vs H Q E h => spD0_len h) (fun cdv A outer s H vs Q E hr h => ?_)
  refine ⟨_, ?T, body_ok0 (K := K) (cd := cdF c) (np := 2) (n := 1) (kp := (kpL [0, 1])) (f := g_Ltape) rfl (es_seq (es_asg rfl (ev_if (et_test (ev_op2 o2_cmp ev_var (ev_cb ol_len (ea_cons ev_var ea_nil)))) (ev_op2 o2_ix ev_var ev_var) ev_int))
  (es_ret (ev_lst (ea_cons (ev_tk (ev_cb ol_abs (ea_cons ev_var ea_nil))) (ea_cons (ev_tk (ev_op2 o2_add (ev_op2 o2_mul ev_int ev_var) ev_int)) ea_nil))))) h⟩
  exact (pss_cons (ps_set (i := 2) scZtape.nd rfl (Or.inl rfl) (pe_ifExp (pt_cmpR op_ltA (pv 1) (pe_callB call_lenA (by rfl) T.z_len (by decide +kernel) (pa_cons (pv 0) pa_nil)) (nomark _)) (pe_ix (ix_any (hu_of hr)) (pv 0) (pv 1) (fun _ _ => rfl)) pe_int))
  (pss_one (ps_ret (pe_lst (pa_cons (pe_callB call_abs (by rfl) T.z_abs (by decide +kernel) (pa_cons (pv 2) pa_nil)) (pa_cons (pe_op op_addA (pe_op op_mulW pe_int (pv 1)) pe_int) pa_nil))))))
abbrev sZpick : Stmt := top 19
theorem scZpick : FnScope ["_law_tape_here", "_law_many", "_law_digit", "_law_mixed"] ["_law_tape_here", "_law_many"] (defScope sZpick) := ⟨rfl, rfl, rfl, by decide +kernel, rfl, by decide +kernel, by decide +kernel⟩
def g_Lpick : En → Fl := (fSeq (fIf (eTest (eOp2 dGe (eOp2 dIx (eVar 0) (eC (.int 0))) (eOp2 dPow (eC (.int 10)) (eC (.int 18))))) (fSeq (fAsg 2 (eOp2 dMod (eCB dInt (aCons (eOp2 dIx (eVar 0) (eC (.int 0))) aNil)) (eVar 1)))
  (fSeq (fSetL 0 (eC (.int 0)) (eOp2 dFdiv (eOp2 dIx (eVar 0) (eC (.int 0))) (eVar 1)))
  (fRet (eVar 2)))) fNx)
  (fSeq (fSetL 0 (eC (.int 1)) (eOp2 dMod (eCB dInt (aCons (eOp2 dAdd (eOp2 dAdd (eOp2 dMul (eOp2 dIx (eVar 0) (eC (.int 1))) (eC (.int 48271))) (eOp2 dMul (eOp2 dIx (eVar 0) (eC (.int 0))) (eC (.int 69621)))) (eC (.int 11))) aNil)) (eC (.int 2147483647))))
  (fSeq (fAsg 3 (eOp2 dMod (eCB dInt (aCons (eOp2 dAdd (eOp2 dAdd (eOp2 dMul (eOp2 dIx (eVar 0) (eC (.int 1))) (eOp2 dIx (eVar 0) (eC (.int 1)))) (eOp2 dMul (eOp2 dIx (eVar 0) (eC (.int 1))) (eC (.int 40692)))) (eC (.int 7))) aNil)) (eC (.int 2147483399))))
  (fRet (eOp2 dMod (eCB dInt (aCons (eOp2 dFdiv (eVar 3) (eC (.int 64))) aNil)) (eVar 1))))))
def f_Lpick : En → Rs := fnF 2 2 (kpL [0, 1]) g_Lpick
theorem ok_Lpick (T : Txt w K mg c) {f : Addr} {fd : FuncData} (F : Fun K "_law_pick" "_law_pick" sZpick f fd) : FnOk P w K mg base CX0 1 f fd ["_law_tape_here", "_law_many"] (spD0 K (cdF c) f_Lpick) := by
  refine F.ok scZpick (fun vs H Q E h => spD0_len h) (fun cdv A outer s H vs Q E hr h => ?_)
  refine ⟨_, ?T, body_ok0 (K := K) (cd := cdF c) (np := 2) (n := 2) (kp := (kpL [0, 1])) (f := g_Lpick) rfl (es_seq (es_if (et_test (ev_op2 o2_cmp (ev_op2 o2_ix ev_var ev_int) (ev_op2 o2_pow ev_int ev_int))) (es_seq (es_asg rfl (ev_op2 o2_mod (ev_cb ol_int (ea_cons (ev_op2 o2_ix ev_var ev_int) ea_nil)) ev_var))
  (es_seq (es_setL ev_int (ev_op2 o2_fdiv (ev_op2 o2_ix ev_var ev_int) ev_var))
  (es_ret ev_var))) es_next)
  (es_seq (es_setL ev_int (ev_op2 o2_mod (ev_cb ol_int (ea_cons (ev_op2 o2_add (ev_op2 o2_add (ev_op2 o2_mul (ev_op2 o2_ix ev_var ev_int) ev_int) (ev_op2 o2_mul (ev_op2 o2_ix ev_var ev_int) ev_int)) ev_int) ea_nil)) ev_int))
  (es_seq (es_asg rfl (ev_op2 o2_mod (ev_cb ol_int (ea_cons (ev_op2 o2_add (ev_op2 o2_add (ev_op2 o2_mul (ev_op2 o2_ix ev_var ev_int) (ev_op2 o2_ix ev_var ev_int)) (ev_op2 o2_mul (ev_op2 o2_ix ev_var ev_int) ev_int)) ev_int) ea_nil)) ev_int))
  (es_ret (ev_op2 o2_mod (ev_cb ol_int (ea_cons (ev_op2 o2_fdiv ev_var ev_int) ea_nil)) ev_var))))) h⟩
  exact (pss_cons (ps_if (pt_cmpR op_geA (pe_ix (ix_any (hu_of hr)) (pv 0) pe_int (fun _ _ => rfl)) (pe_op op_pow pe_int pe_int) (nomark _)) (pss_cons (ps_set (i := 2) scZpick.nd rfl (Or.inl rfl) (pe_op op_mod (pe_callTy call_int1 (by rfl) T.z_int (by decide +kernel) (pa_cons (pe_ix (ix_any (hu_of hr)) (pv 0) pe_int (fun _ _ => rfl)) pa_nil)) (pv 1)))
  (pss_cons (ps_asg (pe_op op_fdivW (pe_ix (ix_any (hu_of hr)) (pv 0) pe_int (fun _ _ => rfl)) (pv 1)) (pg_sub (pv 0) pe_int set_list))
  (pss_one (ps_ret (pv 2))))) pss_nil)
  (pss_cons (ps_asg (pe_op op_mod (pe_callTy call_int1 (by rfl) T.z_int (by decide +kernel) (pa_cons (pe_op op_addA (pe_op op_addA (pe_op op_mulW (pe_ix (ix_any (hu_of hr)) (pv 0) pe_int (fun _ _ => rfl)) pe_int) (pe_op op_mulW (pe_ix (ix_any (hu_of hr)) (pv 0) pe_int (fun _ _ => rfl)) pe_int)) pe_int) pa_nil)) pe_int) (pg_sub (pv 0) pe_int set_list))
  (pss_cons (ps_set (i := 3) scZpick.nd rfl (Or.inl rfl) (pe_op op_mod (pe_callTy call_int1 (by rfl) T.z_int (by decide +kernel) (pa_cons (pe_op op_addA (pe_op op_addA (pe_op op_mulW (pe_ix (ix_any (hu_of hr)) (pv 0) pe_int (fun _ _ => rfl)) (pe_ix (ix_any (hu_of hr)) (pv 0) pe_int (fun _ _ => rfl))) (pe_op op_mulW (pe_ix (ix_any (hu_of hr)) (pv 0) pe_int (fun _ _ => rfl)) pe_int)) pe_int) pa_nil)) pe_int))
  (pss_one (ps_ret (pe_op op_mod (pe_callTy call_int1 (by rfl) T.z_int (by decide +kernel) (pa_cons (pe_op op_fdivW (pv 3) pe_int) pa_nil)) (pv 1)))))))
abbrev sZshuffled : Stmt := top 20
theorem scZshuffled : FnScope ["_law_tape_here", "_law_items", "_law_left", "_law_found", "_law_turn"] ["_law_tape_here", "_law_items"] (defScope sZshuffled) := ⟨rfl, rfl, rfl, by decide +kernel, rfl, by decide +kernel, by decide +kernel⟩
def b0_Lshuffled : En → Fl := (fDrop (eApp 3 (ePopAt 2 (eCall [.mu, .bo] (fun e => noX (f_Lpick e)) (aCons (eVar 0) (aCons (eCB dLen (aCons (eVar 2) aNil)) aNil))))))
def g_Lshuffled : En → Fl := (fSeq (fAsg 2 (eCB dList (aCons (eVar 1) aNil)))
  (fSeq (fAsg 3 (eLst aNil))
  (fSeq (fFor (iRng rngA1 (aCons (eCB dLen (aCons (eVar 1) aNil)) aNil)) (tgN 4)
  b0_Lshuffled)
  (fRet (eVar 3)))))
def f_Lshuffled : En → Rs := fnF 2 3 (kpL [0, 1]) g_Lshuffled
theorem ok_Lshuffled (T : Txt w K mg c) (cLpick : Cal P w K mg base CX0 1 "_law_pick" (spD0 K (cdF c) f_Lpick)) {f : Addr} {fd : FuncData} (F : Fun K "_law_shuffled" "_law_shuffled" sZshuffled f fd) : FnOk P w K mg base CX0 2 f fd ["_law_tape_here", "_law_items"] (spD0 K (cdF c) f_Lshuffled) := by
  refine F.ok scZshuffled (fun vs H Q E h => spD0_len h) (fun cdv A outer s H vs Q E hr h => ?_)
  refine ⟨_, ?T, body_ok0 (K := K) (cd := cdF c) (np := 2) (n := 3) (kp := (kpL [0, 1])) (f := g_Lshuffled) rfl (es_seq (es_asg rfl (ev_cb ol_list (ea_cons ev_var ea_nil)))
  (es_seq (es_asg rfl (ev_lst ea_nil))
  (es_seq (es_for (ei_rng1 (eb_cons (ev_cb ol_len (ea_cons ev_var ea_nil)) eb_nil)) (tg_name rfl)
  (es_drop (ev_app (ev_popAt (ev_call0 (E1 := E0) (ea_cons ev_var (ea_cons (ev_cb ol_len (ea_cons ev_var ea_nil)) ea_nil)))))))
  (es_ret ev_var)))) h⟩
  exact (pss_cons (ps_set (i := 2) scZshuffled.nd rfl (Or.inl rfl) (pe_callTy (call_listA rfl) (by rfl) T.z_list (by decide +kernel) (pa_cons (pv 1) pa_nil)))
  (pss_cons (ps_set (i := 3) scZshuffled.nd rfl (Or.inl rfl) (pe_lst pa_nil))
  (pss_cons (ps_for PassesOwn.never rfl (pi_range1 (by rfl) T.z_range (pa_cons (pe_callB call_lenA (by rfl) T.z_len (by decide +kernel) (pa_cons (pv 1) pa_nil)) pa_nil)) (pg_name (i := 4) scZshuffled.nd rfl (Or.inl rfl))
  (pss_one (ps_expr (pe_bm PySem.F.plainAttrs_list PySem.F.slot_list_append PySem.F.type_list_append mt_append (pv 3) (pa_cons (pe_bm PySem.F.plainAttrs_list PySem.F.slot_list_pop PySem.F.type_list_pop mt_popAt (pv 2) (pa_cons (pe_c cLpick hr (by decide) rfl (pa_cons (pv 0) (pa_cons (pe_callB call_lenA (by rfl) T.z_len (by decide +kernel) (pa_cons (pv 2) pa_nil)) pa_nil))) pa_nil)) pa_nil)))))
  (pss_one (ps_ret (pv 3))))))
abbrev sZchanges : Stmt := top 21
theorem scZchanges : FnScope ["_law_tape_here", "_law_found", "_law_name", "_law_number"] ["_law_tape_here"] (defScope sZchanges) := ⟨rfl, rfl, rfl, by decide +kernel, rfl, by decide +kernel, by decide +kernel⟩
def b0_Lchanges : En → Fl := (fSeq (fAsg 3 (eCall [.mu, .bo] (fun e => noX (f_Lpick e)) (aCons (eVar 0) (aCons (eOp2 dIx (eLst (aCons (eTk (eC (.int 2))) (aCons (eTk (eC (.int 100))) (aCons (eTk (eOp2 dPow (eC (.int 10)) (eC (.int 30)))) aNil)))) (eCall [.mu, .bo] (fun e => noX (f_Lpick e)) (aCons (eVar 0) (aCons (eC (.int 3)) aNil)))) aNil))))
  (fPut 1 (eVar 2) (eTup (aCons (eTk (eOp2 dIx (eLst (aCons (eTk (eC (.str [97, 100, 100]))) (aCons (eTk (eC (.str [115, 101, 116]))) aNil))) (eCall [.mu, .bo] (fun e => noX (f_Lpick e)) (aCons (eVar 0) (aCons (eC (.int 2)) aNil))))) (aCons (eTk (eVar 3)) aNil)))))
def g_Lchanges : En → Fl := (fSeq (fAsg 1 eDct0)
  (fSeq (fFor (iSeq (eSl (eCall [.mu, .bo] (fun e => noX (f_Lshuffled e)) (aCons (eVar 0) (aCons (eLst (aCons (eTk (eC (.str [97]))) (aCons (eTk (eC (.str [99, 104, 97, 112, 116, 101, 114]))) (aCons (eTk (eC (.str [122, 122]))) (aCons (eTk (eC (.str [102, 105, 103]))) (aCons (eTk (eC (.str [120]))) aNil)))))) aNil))) none (some (eOp2 dAdd (eC (.int 1)) (eCall [.mu, .bo] (fun e => noX (f_Lpick e)) (aCons (eVar 0) (aCons (eC (.int 5)) aNil))))))) (tgN 2)
  b0_Lchanges)
  (fRet (eVar 1))))
def f_Lchanges : En → Rs := fnF 1 3 (kpL [0]) g_Lchanges
theorem ok_Lchanges (T : Txt w K mg c) (cLpick : Cal P w K mg base CX0 1 "_law_pick" (spD0 K (cdF c) f_Lpick)) (cLshuffled : Cal P w K mg base CX0 2 "_law_shuffled" (spD0 K (cdF c) f_Lshuffled)) {f : Addr} {fd : FuncData} (F : Fun K "_law_changes" "_law_changes" sZchanges f fd) : FnOk P w K mg base CX0 3 f fd ["_law_tape_here"] (spD0 K (cdF c) f_Lchanges) := by
  refine F.ok scZchanges (fun vs H Q E h => spD0_len h) (fun cdv A outer s H vs Q E hr h => ?_)
  refine ⟨_, ?T, body_ok0 (K := K) (cd := cdF c) (np := 1) (n := 3) (kp := (kpL [0])) (f := g_Lchanges) rfl (es_seq (es_asg rfl ev_dct0)
  (es_seq (es_for (ei_seq (ev_sl (ev_call0 (E1 := E0) (ea_cons ev_var (ea_cons (ev_lst (ea_cons (ev_tk ev_str) (ea_cons (ev_tk ev_str) (ea_cons (ev_tk ev_str) (ea_cons (ev_tk ev_str) (ea_cons (ev_tk ev_str) ea_nil)))))) ea_nil))) ep_none (ep_some (ev_op2 o2_add ev_int (ev_call0 (E1 := E0) (ea_cons ev_var (ea_cons ev_int ea_nil))))))) (tg_name rfl)
  (es_seq (es_asg rfl (ev_call0 (E1 := E0) (ea_cons ev_var (ea_cons (ev_op2 o2_ix (ev_lst (ea_cons (ev_tk ev_int) (ea_cons (ev_tk ev_int) (ea_cons (ev_tk (ev_op2 o2_pow ev_int ev_int)) ea_nil)))) (ev_call0 (E1 := E0) (ea_cons ev_var (ea_cons ev_int ea_nil)))) ea_nil))))
  (es_put ev_var (ev_tup (ea_cons (ev_tk (ev_op2 o2_ix (ev_lst (ea_cons (ev_tk ev_str) (ea_cons (ev_tk ev_str) ea_nil))) (ev_call0 (E1 := E0) (ea_cons ev_var (ea_cons ev_int ea_nil))))) (ea_cons (ev_tk ev_var) ea_nil))))))
  (es_ret ev_var))) h⟩
  exact (pss_cons (ps_set (i := 1) scZchanges.nd rfl (Or.inl rfl) pe_dnewK)
  (pss_cons (ps_for PassesOwn.never rfl (pi_seqA (pe_slice sl_any (pe_c cLshuffled hr (by decide) rfl (pa_cons (pv 0) (pa_cons (pe_lst (pa_cons (pe_strS [97] (by decide +kernel)) (pa_cons (pe_strS [99, 104, 97, 112, 116, 101, 114] (by decide +kernel)) (pa_cons (pe_strS [122, 122] (by decide +kernel)) (pa_cons (pe_strS [102, 105, 103] (by decide +kernel)) (pa_cons (pe_strS [120] (by decide +kernel)) pa_nil)))))) pa_nil))) po_none (po_some (pe_op op_addA pe_int (pe_c cLpick hr (by decide) rfl (pa_cons (pv 0) (pa_cons pe_int pa_nil))))))) (pg_name (i := 2) scZchanges.nd rfl (Or.inl rfl))
  (pss_cons (ps_set (i := 3) scZchanges.nd rfl (Or.inl rfl) (pe_c cLpick hr (by decide) rfl (pa_cons (pv 0) (pa_cons (pe_ix (ix_any (hu_of hr)) (pe_lst (pa_cons pe_int (pa_cons pe_int (pa_cons (pe_op op_pow pe_int pe_int) pa_nil)))) (pe_c cLpick hr (by decide) rfl (pa_cons (pv 0) (pa_cons pe_int pa_nil))) (fun _ _ => rfl)) pa_nil))))
  (pss_one (ps_dput (hu_of hr) (pv 1) (pv 2) (pe_tup (pa_cons (pe_ix (ix_any (hu_of hr)) (pe_lst (pa_cons (pe_strS [97, 100, 100] (by decide +kernel)) (pa_cons (pe_strS [115, 101, 116] (by decide +kernel)) pa_nil))) (pe_c cLpick hr (by decide) rfl (pa_cons (pv 0) (pa_cons pe_int pa_nil))) (fun _ _ => rfl)) (pa_cons (pv 3) pa_nil))) rfl))))
  (pss_one (ps_ret (pv 1)))))
abbrev sZpower : Stmt := top 22
theorem scZpower : FnScope ["_law_changes_here", "_law_times_here", "_law_found", "_law_name", "_law_word", "_law_number"] ["_law_changes_here", "_law_times_here"] (defScope sZpower) := ⟨rfl, rfl, rfl, by decide +kernel, rfl, by decide +kernel, by decide +kernel⟩
def b0_Lpower : En → Fl := (fSeq (fAsgT (tgTup (tgCons (tgN 4) (tgCons (tgN 5) tgNil))) (eOp2 dIx (eVar 0) (eVar 3)))
  (fIf (eBr (eTest (eOp2 dGt (eVar 1) (eC (.int 0)))) (eBr (eTest (eOp2 dEq (eVar 4) (eC (.str [115, 101, 116])))) (eBl true) (eTest (eOp2 dGt (eVar 5) (eC (.int 0))))) (eBl false)) (fPut 2 (eVar 3) (eTup (aCons (eTk (eVar 4)) (aCons (eTk (eBr (eTest (eOp2 dEq (eVar 4) (eC (.str [115, 101, 116])))) (eVar 5) (eOp2 dMul (eVar 5) (eVar 1)))) aNil)))) fNx))
def g_Lpower : En → Fl := (fSeq (fAsg 2 eDct0)
  (fSeq (fKeys (fun ds => ds.map (·.1)) (vVar 0) (tgN 3)
  b0_Lpower)
  (fRet (eVar 2))))
def f_Lpower : En → Rs := fnF 2 4 (kpL [0, 1]) g_Lpower
theorem ok_Lpower (T : Txt w K mg c) {f : Addr} {fd : FuncData} (F : Fun K "_law_power" "_law_power" sZpower f fd) : FnOk P w K mg base CX0 1 f fd ["_law_changes_here", "_law_times_here"] (spD0 K (cdF c) f_Lpower) := by
  refine F.ok scZpower (fun vs H Q E h => spD0_len h) (fun cdv A outer s H vs Q E hr h => ?_)
  refine ⟨_, ?T, body_ok0 (K := K) (cd := cdF c) (np := 2) (n := 4) (kp := (kpL [0, 1])) (f := g_Lpower) rfl (es_seq (es_asg rfl ev_dct0)
  (es_seq (es_keys wkd_keys vv_var (tg_name rfl)
  (es_seq (es_asgT (tg_tup (n := 2) (tgCons_len (tgCons_len tgNil_len)) (tgs_cons (tg_name rfl) (tgs_cons (tg_name rfl) tgs_nil))) (ev_op2 o2_ix ev_var ev_var))
  (es_if (et_and (et_test (ev_op2 o2_cmp ev_var ev_int)) (et_or (et_test (ev_op2 o2_eq ev_var ev_str)) (et_test (ev_op2 o2_cmp ev_var ev_int)))) (es_put ev_var (ev_tup (ea_cons (ev_tk ev_var) (ea_cons (ev_tk (ev_if (et_test (ev_op2 o2_eq ev_var ev_str)) ev_var (ev_op2 o2_mul ev_var ev_var))) ea_nil)))) es_next)))
  (es_ret ev_var))) h⟩
  exact (pss_cons (ps_set (i := 2) scZpower.nd rfl (Or.inl rfl) pe_dnewK)
  (pss_cons (ps_keys (ps_for PassesOwn.never rfl (pi_keys (pv 0)) (pg_name (i := 3) scZpower.nd rfl (Or.inl rfl))
  (pss_cons (ps_asg (pe_ix (ix_any (hu_of hr)) (pv 0) (pv 3) (fun _ _ => rfl)) (pg_tup (by rfl) (pgs_cons (pg_name (i := 4) scZpower.nd rfl (Or.inl rfl)) (pgs_cons (pg_name (i := 5) scZpower.nd rfl (Or.inl rfl)) pgs_nil))))
  (pss_one (ps_if (PW.pt (pw_and (pt_cmpR op_gtA (pv 1) pe_int (nomark _)) (pw_and1 (PW.pt (pw_or (pt_cmpR (op_eqA (u65 hr)) (pv 4) (pe_strS [115, 101, 116] (by decide +kernel)) (nomark _)) (pw_or1 (pt_cmpR op_gtA (pv 5) pe_int (nomark _)))))))) (pss_one (ps_dput (hu_of hr) (pv 2) (pv 3) (pe_tup (pa_cons (pv 4) (pa_cons (pe_ifExp (pt_cmpR (op_eqA (u65 hr)) (pv 4) (pe_strS [115, 101, 116] (by decide +kernel)) (nomark _)) (pv 5) (pe_op op_mulW (pv 5) (pv 1))) pa_nil))) rfl)) pss_nil)))))
  (pss_one (ps_ret (pv 2)))))
abbrev sZmade : Stmt := top 23
theorem scZmade : FnScope ["_law_changes_here", "e"] ["_law_changes_here"] (defScope sZmade) := ⟨rfl, rfl, rfl, by decide +kernel, rfl, by decide +kernel, by decide +kernel⟩
def g_Lmade : En → Fl := (fSeq (fTry (fDrop (eMake 0 [.bo] f_Action_init (aCons (eVar 0) aNil))) catG (hRetL (hCons (hFl 4 0) (hCons (hIs isG) hNil))))
  (fRet (eLst aNil)))
def f_Lmade : En → Rs := fnF 1 1 (kpL [0]) g_Lmade
theorem ok_Lmade (T : Txt w K mg c) (hIA : FnOk P w K mg base (L2.CX P w) 4 c.iA c.fdIA ["self", "changes"] (spD K (cdF c) f_Action_init)) {f : Addr} {fd : FuncData} (F : Fun K "_law_made" "_law_made" sZmade f fd) : FnOk P w K mg base CX0 6 f fd ["_law_changes_here"] (spD0 K (cdF c) f_Lmade) := by
  refine F.ok scZmade (fun vs H Q E h => spD0_len h) (fun cdv A outer s H vs Q E hr h => ?_)
  refine ⟨_, ?T, body_ok0 (K := K) (cd := cdF c) (np := 1) (n := 1) (kp := (kpL [0])) (f := g_Lmade) rfl (es_seq (es_tryAs (E' := E0) (n := 2) (i := 1) (cv := .ref c.CG) (by decide) (catG_ok T) (fun W => (es_drop (ev_make (E' := (EW 2 W)) (c := 0) (ea_cons ev_var ea_nil)))) (hd_retL (ha_cons (hv_fld (c0 := 4) (ndF c _) rfl) (ha_cons (hv_is (v := .ref c.CP) (cv := .ref c.CP) (fun _ h => h) (isG_ok T)) ha_nil))))
  (es_ret (ev_lst ea_nil))) h⟩
  exact (pss_cons (pTryAs rfl rfl scZmade.nd (j := 1) rfl rfl ⟨rfl, by decide, .inl T.xG.gC⟩ takes0 (fun W pn xe tk po => (pss_one (ps_expr (pe_make (E := (EW 2 W)) T.mkA hIA (hr.mono (by decide)) rfl T.gCA T.bIA .nil (passes_call (takes_len tk) (fun _ _ _ _ h hl => h _ hl)) (pa_cons (pv 0) pa_nil))))) (fun a oe cls d pn hz hf => pss_one (ps_ret (pe_lst (pa_cons (pe_xf T.xG.xf T.noG hz hf (pv 1)) (pa_cons (pe_callB (call_isX hz hf) (by rfl) T.z_isinstance (by decide +kernel) (pa_cons (pv 1) (pa_cons (pe_glob (v := .ref c.CP) rfl T.gCP rfl) pa_nil))) pa_nil))))) rfl)
  (pss_one (ps_ret (pe_lst pa_nil))))
abbrev sZtimes : Stmt := top 24
theorem scZtimes : FnScope ["_law_made_here", "_law_times_here", "e"] ["_law_made_here", "_law_times_here"] (defScope sZtimes) := ⟨rfl, rfl, rfl, by decide +kernel, rfl, by decide +kernel, by decide +kernel⟩
def g_Ltimes : En → Fl := (fSeq (fTry (fDrop (eMulOwn 0 [.bo, .sh] f_Action_mul (eVar 0) (eTk (eVar 1)))) catM (hRetL (hCons (hC (.str [116, 105, 109, 101, 115])) (hCons (hFl 5 0) hNil))))
  (fRet (eLst (aCons (eTk (eC (.str [109, 97, 100, 101]))) aNil))))
def f_Ltimes : En → Rs := fnF 2 1 (kpL [0, 1]) g_Ltimes
theorem ok_Ltimes (T : Txt w K mg c) (hAm : FnOk P w K mg base (L2.CX P w) 6 c.mAm c.fdAm ["self", "other"] (spD K (cdF c) f_Action_mul)) {f : Addr} {fd : FuncData} (F : Fun K "_law_times" "_law_times" sZtimes f fd) : FnOk P w K mg base CX0 7 f fd ["_law_made_here", "_law_times_here"] (spD0 K (cdF c) f_Ltimes) := by
  refine F.ok scZtimes (fun vs H Q E h => spD0_len h) (fun cdv A outer s H vs Q E hr h => ?_)
  refine ⟨_, ?T, body_ok0 (K := K) (cd := cdF c) (np := 2) (n := 1) (kp := (kpL [0, 1])) (f := g_Ltimes) rfl (es_seq (es_tryAs (E' := E0) (n := 3) (i := 2) (cv := .ref c.CM) (by decide) (catM_ok T) (fun W => (es_drop (ev_mulOwn (E' := (EW 3 W)) (c := 0) ev_var (ev_tk ev_var)))) (hd_retL (ha_cons (hv_c (v := .str (S [116, 105, 109, 101, 115])) (d := .str [116, 105, 109, 101, 115]) fun _ => .str _) (ha_cons (hv_fld (c0 := 5) (ndF c _) rfl) ha_nil))))
  (es_ret (ev_lst (ea_cons (ev_tk ev_str) ea_nil)))) h⟩
  exact (pss_cons (pTryAs rfl rfl scZtimes.nd (j := 2) rfl rfl ⟨rfl, by decide, .inl T.xM.gC⟩ takes0 (fun W pn xe tk po => (pss_one (ps_expr (pe_mulOwn (E := (EW 3 W)) (K := K) rfl hAm (hr.mono (by decide)) T.sfA T.MAm.at_ T.MAm.fn T.muA T.bAm (passes_call (takes_len tk) (fun _ _ _ _ h hl => h _ hl)) (pv 0) (pv 1))))) (fun a oe cls d pn hz hf => pss_one (ps_ret (pe_lst (pa_cons (pe_strS [116, 105, 109, 101, 115] (by decide +kernel)) (pa_cons (pe_xf T.xM.xf T.noM hz hf (pv 2)) pa_nil))))) rfl)
  (pss_one (ps_ret (pe_lst (pa_cons (pe_strS [109, 97, 100, 101] (by decide +kernel)) pa_nil)))))
abbrev sZof : Stmt := top 25
theorem scZof : FnScope ["_law_made_here", "_law_numbers", "e"] ["_law_made_here", "_law_numbers"] (defScope sZof) := ⟨rfl, rfl, rfl, by decide +kernel, rfl, by decide +kernel, by decide +kernel⟩
def g_Lof : En → Fl := (fTry (fRet (eLst (aCons (eTk (eC (.str [116, 111, 108, 100]))) (aCons (eTk (eMeth 0 [.bo, .bo] f_Action_of (eVar 0) (aCons (eVar 1) aNil))) aNil)))) catN (hRetL (hCons (hC (.str [110, 117, 109, 98, 101, 114])) (hCons (hFl 3 0) hNil))))
def f_Lof : En → Rs := fnF 2 1 (kpL [0, 1]) g_Lof
theorem ok_Lof (T : Txt w K mg c) (hAo : FnOk P w K mg base (L2.CX P w) 3 c.mAo c.fdAo ["self", "values"] (spD K (cdF c) f_Action_of)) {f : Addr} {fd : FuncData} (F : Fun K "_law_of" "_law_of" sZof f fd) : FnOk P w K mg base CX0 4 f fd ["_law_made_here", "_law_numbers"] (spD0 K (cdF c) f_Lof) := by
  refine F.ok scZof (fun vs H Q E h => spD0_len h) (fun cdv A outer s H vs Q E hr h => ?_)
  refine ⟨_, ?T, body_ok0 (K := K) (cd := cdF c) (np := 2) (n := 1) (kp := (kpL [0, 1])) (f := g_Lof) rfl (es_tryAs (E' := E0) (n := 3) (i := 2) (cv := .ref c.CN) (by decide) (catN_ok T) (fun W => (es_ret (ev_lst (ea_cons (ev_tk ev_str) (ea_cons (ev_tk (ev_meth (E' := (EW 3 W)) (c := 0) (show ("of" : Str) ∉ (["_changes"] : List Str) by decide) ev_var (ea_cons ev_var ea_nil))) ea_nil))))) (hd_retL (ha_cons (hv_c (v := .str (S [110, 117, 109, 98, 101, 114])) (d := .str [110, 117, 109, 98, 101, 114]) fun _ => .str _) (ha_cons (hv_fld (c0 := 3) (ndF c _) rfl) ha_nil)))) h⟩
  exact (pss_one (pTryAs rfl rfl scZof.nd (j := 2) rfl rfl ⟨rfl, by decide, .inl T.xN.gC⟩ takes0 (fun W pn xe tk po => (pss_one (ps_ret (pe_lst (pa_cons (pe_strS [116, 111, 108, 100] (by decide +kernel)) (pa_cons (pe_meth (E := (EW 3 W)) (pv 0) T.clA T.MAo hAo (hr.mono (by decide)) T.bAo .nil (passes_call (takes_len tk) (fun _ _ _ _ h hl => h _ hl)) (pa_cons (pv 1) pa_nil)) pa_nil)))))) (fun a oe cls d pn hz hf => pss_one (ps_ret (pe_lst (pa_cons (pe_strS [110, 117, 109, 98, 101, 114] (by decide +kernel)) (pa_cons (pe_xf T.xN.xf T.noN hz hf (pv 2)) pa_nil))))) rfl))
abbrev sZrefused : Stmt := top 26
theorem scZrefused : FnScope ["_law_tape_here", "_law_changes_here", "_law_made_here", "_law_names", "_law_at", "_law_odd", "_law_wrong", "_law_bad", "_law_times_here", "_law_numbers", "_law_told", "_law_due", "_law_name"] ["_law_tape_here", "_law_changes_here", "_law_made_here"] (defScope sZrefused) := ⟨rfl, rfl, rfl, by decide +kernel, rfl, by decide +kernel, by decide +kernel⟩
def b0_Lrefused : En → Fl := (fIf (eTest (eOp2 dNe (eCB dRepr (aCons (eCall [.bo, .sh] (fun e => noX (f_Ltimes e)) (aCons (eVar 2) (aCons (eTk (eVar 8)) aNil))) aNil)) (eCB dRepr (aCons (eLst (aCons (eTk (eC (.str [116, 105, 109, 101, 115]))) (aCons (eTk (eVar 8)) aNil))) aNil)))) (fRet (eC (.bl false))) fNx)
def g_Lrefused : En → Fl := (fSeq (fAsg 3 (eCB dSort (aCons (eCB dList (aCons (eVar 1) aNil)) aNil)))
  (fSeq (fAsg 4 (eCall [.mu, .bo] (fun e => noX (f_Lpick e)) (aCons (eVar 0) (aCons (eCB dLen (aCons (eVar 3) aNil)) aNil))))
  (fSeq (fAsg 5 (eLst (aCons (eTk (eTup (aCons (eTk (eC (.str [97, 100, 100]))) (aCons (eTk (eOp1 dNeg (eC (.int 1)))) aNil)))) (aCons (eTk (eTup (aCons (eTk (eC (.str [115, 101, 116]))) (aCons (eTk (eOp1 dNeg (eC (.int 1)))) aNil)))) (aCons (eTk (eTup (aCons (eTk (eC (.str [112, 117, 116]))) (aCons (eTk (eC (.int 1))) aNil)))) (aCons (eTk (eTup (aCons (eTk (eC (.str [97, 100, 100]))) aNil))) (aCons (eTk (eTup (aCons (eTk (eC (.str [97, 100, 100]))) (aCons (eTk (eC (.int 1))) (aCons (eTk (eC (.int 1))) aNil))))) (aCons (eTk (eLst (aCons (eTk (eC (.str [97, 100, 100]))) (aCons (eTk (eC (.int 1))) aNil)))) (aCons (eTk (eC (.str [97, 100, 100]))) (aCons (eTk (eC .non)) (aCons (eTk (eTup (aCons (eTk (eC (.str [97, 100, 100]))) (aCons (eTk (eC (.bl true))) aNil)))) (aCons (eTk (eC (.int 3))) aNil))))))))))))
  (fSeq (fAsg 5 (eOp2 dAdd (eVar 5) (eLst (aCons (eTk (eTup (aCons (eTk (eC (.str [97, 100, 100]))) (aCons (eTk (eC (.str [49]))) aNil)))) (aCons (eTk (eTup (aCons (eTk (eC (.str [115, 101, 116]))) (aCons (eTk (eC .non)) aNil)))) (aCons (eTk (eTup (aCons (eTk (eC (.int 1))) (aCons (eTk (eC (.str [97, 100, 100]))) aNil)))) (aCons (eTk (eTup (aCons (eTk (eC (.str [65, 100, 100]))) (aCons (eTk (eC (.int 1))) aNil)))) (aCons (eTk (eTup aNil)) aNil))))))))
  (fSeq (fAsg 6 (eCB dDict (aCons (eVar 1) aNil)))
  (fSeq (fPut 6 (eOp2 dIx (eVar 3) (eVar 4)) (eOp2 dIx (eVar 5) (eCall [.mu, .bo] (fun e => noX (f_Lpick e)) (aCons (eVar 0) (aCons (eC (.int 15)) aNil)))))
  (fSeq (fPut 6 (eOp2 dIx (eVar 3) (eOp1 dNeg (eC (.int 1)))) (eOp2 dIx (eVar 5) (eCall [.mu, .bo] (fun e => noX (f_Lpick e)) (aCons (eVar 0) (aCons (eC (.int 15)) aNil)))))
  (fSeq (fIf (eBr (eTest (eOp2 dNe (eCall [.bo] (fun e => noX (f_Lmade e)) (aCons (eVar 6) aNil)) (eLst (aCons (eTk (eOp2 dIx (eVar 3) (eVar 4))) (aCons (eTk (eC (.bl true))) aNil))))) (eBl true) (eTest (eOp2 dNe (eCall [.bo] (fun e => noX (f_Lmade e)) (aCons (eVar 1) aNil)) (eLst aNil)))) (fRet (eC (.bl false))) fNx)
  (fSeq (fAsg 7 (eOp2 dIx (eLst (aCons (eTk (eC (.str ([] : List Nat)))) (aCons (eTk (eC (.str [65]))) (aCons (eTk (eC (.str [110, 105, 110, 101, 108, 101, 116, 116, 101]))) (aCons (eTk (eC (.str [97, 32, 98]))) (aCons (eTk (eC (.str [97, 49]))) aNil)))))) (eCall [.mu, .bo] (fun e => noX (f_Lpick e)) (aCons (eVar 0) (aCons (eC (.int 5)) aNil)))))
  (fSeq (fAsg 6 (eCB dDict (aCons (eOp2 dAdd (eItems (eVar 1)) (eLst (aCons (eTk (eTup (aCons (eTk (eVar 7)) (aCons (eTk (eTup (aCons (eTk (eC (.str [97, 100, 100]))) (aCons (eTk (eC (.int 1))) aNil)))) aNil)))) (aCons (eTk (eTup (aCons (eTk (eC (.str [122, 122, 122, 122, 122, 122, 122, 122]))) (aCons (eTk (eTup (aCons (eTk (eC (.str [97, 100, 100]))) (aCons (eTk (eOp1 dNeg (eC (.int 1)))) aNil)))) aNil)))) aNil)))) aNil)))
  (fSeq (fIf (eTest (eOp2 dNe (eCall [.bo] (fun e => noX (f_Lmade e)) (aCons (eVar 6) aNil)) (eLst (aCons (eTk (eBr (eTest (eOp2 dLt (eVar 7) (eC (.str [122, 122, 122, 122, 122, 122, 122, 122])))) (eVar 7) (eC (.str [122, 122, 122, 122, 122, 122, 122, 122])))) (aCons (eTk (eC (.bl true))) aNil))))) (fRet (eC (.bl false))) fNx)
  (fSeq (fFor (iSeq (eLst (aCons (eTk (eOp1 dNeg (eC (.int 1)))) (aCons (eTk (eC (.bl true))) (aCons (eTk (eC .non)) (aCons (eTk (eC (.str [50]))) (aCons (eTk (eC (.bl false))) (aCons (eTk (eLst (aCons (eTk (eC (.int 1))) aNil))) (aCons (eTk (eOp2 dSub (eC (.int 0)) (eOp2 dPow (eC (.int 10)) (eC (.int 20))))) aNil))))))))) (tgN 8)
  b0_Lrefused)
  (fSeq (fAsg 9 (eCB dDict (aCons (eOp2 dAdd (eLst (aCons (eTk (eTup (aCons (eTk (eC (.str [122, 122, 122]))) (aCons (eTk (eOp1 dNeg (eC (.int 7)))) aNil)))) aNil)) (eLc (iSeq (eOp2 dAdd (eRev (eVar 3)) (eLst (aCons (eTk (eC (.str [110, 111, 110, 101]))) aNil)))) (tgN 12) (eBl true) (eTup (aCons (eTk (eVar 12)) (aCons (eTk (eC (.int 4))) aNil))) [12])) aNil)))
  (fSeq (fPut 9 (eOp2 dIx (eVar 3) (eVar 4)) (eOp2 dIx (eLst (aCons (eTk (eOp1 dNeg (eC (.int 1)))) (aCons (eTk (eC .non)) (aCons (eTk (eC (.bl true))) (aCons (eTk (eC (.str [52]))) aNil))))) (eCall [.mu, .bo] (fun e => noX (f_Lpick e)) (aCons (eVar 0) (aCons (eC (.int 4)) aNil)))))
  (fSeq (fAsg 10 (eCall [.bo, .bo] (fun e => noX (f_Lof e)) (aCons (eVar 2) (aCons (eVar 9) aNil))))
  (fSeq (fAsg 11 (eBr (eTest (eOp2 dLt (eOp2 dIx (eVar 3) (eVar 4)) (eC (.str [122, 122, 122])))) (eOp2 dIx (eVar 9) (eOp2 dIx (eVar 3) (eVar 4))) (eOp1 dNeg (eC (.int 7)))))
  (fRet (eOp2 dEq (eCB dRepr (aCons (eVar 10) aNil)) (eCB dRepr (aCons (eLst (aCons (eTk (eC (.str [110, 117, 109, 98, 101, 114]))) (aCons (eTk (eVar 11)) aNil))) aNil))))))))))))))))))))
def f_Lrefused : En → Rs := fnF 3 10 (kpL [0, 1, 2]) g_Lrefused
theorem ok_Lrefused (T : Txt w K mg c) (cLpick : Cal P w K mg base CX0 1 "_law_pick" (spD0 K (cdF c) f_Lpick)) (cLmade : Cal P w K mg base CX0 6 "_law_made" (spD0 K (cdF c) f_Lmade)) (cLtimes : Cal P w K mg base CX0 7 "_law_times" (spD0 K (cdF c) f_Ltimes)) (cLof : Cal P w K mg base CX0 4 "_law_of" (spD0 K (cdF c) f_Lof)) {f : Addr} {fd : FuncData} (F : Fun K "_law_refused" "_law_refused" sZrefused f fd) : FnOkG P w K mg base CX0 8 f fd ["_law_tape_here", "_law_changes_here", "_law_made_here"] (spD0 K (cdF c) f_Lrefused) := by
  refine okG F scZrefused (fun vs H Q E h => spD0_len h) (fun cdv A outer s H vs Q E hG hr h => ?_)
  refine ⟨_, ?T, body_ok0 (K := K) (cd := cdF c) (np := 3) (n := 10) (kp := (kpL [0, 1, 2])) (f := g_Lrefused) rfl (es_seq (es_asg rfl (ev_cb ol_sort (ea_cons (ev_cb ol_list (ea_cons ev_var ea_nil)) ea_nil)))
  (es_seq (es_asg rfl (ev_call0 (E1 := E0) (ea_cons ev_var (ea_cons (ev_cb ol_len (ea_cons ev_var ea_nil)) ea_nil))))
  (es_seq (es_asg rfl (ev_lst (ea_cons (ev_tk (ev_tup (ea_cons (ev_tk ev_str) (ea_cons (ev_tk (ev_un o1_neg ev_int)) ea_nil)))) (ea_cons (ev_tk (ev_tup (ea_cons (ev_tk ev_str) (ea_cons (ev_tk (ev_un o1_neg ev_int)) ea_nil)))) (ea_cons (ev_tk (ev_tup (ea_cons (ev_tk ev_str) (ea_cons (ev_tk ev_int) ea_nil)))) (ea_cons (ev_tk (ev_tup (ea_cons (ev_tk ev_str) ea_nil))) (ea_cons (ev_tk (ev_tup (ea_cons (ev_tk ev_str) (ea_cons (ev_tk ev_int) (ea_cons (ev_tk ev_int) ea_nil))))) (ea_cons (ev_tk (ev_lst (ea_cons (ev_tk ev_str) (ea_cons (ev_tk ev_int) ea_nil)))) (ea_cons (ev_tk ev_str) (ea_cons (ev_tk ev_non) (ea_cons (ev_tk (ev_tup (ea_cons (ev_tk ev_str) (ea_cons (ev_tk ev_bl) ea_nil)))) (ea_cons (ev_tk ev_int) ea_nil))))))))))))
  (es_seq (es_asg rfl (ev_op2 o2_add ev_var (ev_lst (ea_cons (ev_tk (ev_tup (ea_cons (ev_tk ev_str) (ea_cons (ev_tk ev_str) ea_nil)))) (ea_cons (ev_tk (ev_tup (ea_cons (ev_tk ev_str) (ea_cons (ev_tk ev_non) ea_nil)))) (ea_cons (ev_tk (ev_tup (ea_cons (ev_tk ev_int) (ea_cons (ev_tk ev_str) ea_nil)))) (ea_cons (ev_tk (ev_tup (ea_cons (ev_tk ev_str) (ea_cons (ev_tk ev_int) ea_nil)))) (ea_cons (ev_tk (ev_tup ea_nil)) ea_nil))))))))
  (es_seq (es_asg rfl (ev_cb ol_dict (ea_cons ev_var ea_nil)))
  (es_seq (es_put (ev_op2 o2_ix ev_var ev_var) (ev_op2 o2_ix ev_var (ev_call0 (E1 := E0) (ea_cons ev_var (ea_cons ev_int ea_nil)))))
  (es_seq (es_put (ev_op2 o2_ix ev_var (ev_un o1_neg ev_int)) (ev_op2 o2_ix ev_var (ev_call0 (E1 := E0) (ea_cons ev_var (ea_cons ev_int ea_nil)))))
  (es_seq (es_if (et_or (et_test (ev_op2 o2_ne (ev_call0 (E1 := E0) (ea_cons ev_var ea_nil)) (ev_lst (ea_cons (ev_tk (ev_op2 o2_ix ev_var ev_var)) (ea_cons (ev_tk ev_bl) ea_nil))))) (et_test (ev_op2 o2_ne (ev_call0 (E1 := E0) (ea_cons ev_var ea_nil)) (ev_lst ea_nil)))) (es_ret ev_bl) es_next)
  (es_seq (es_asg rfl (ev_op2 o2_ix (ev_lst (ea_cons (ev_tk ev_str) (ea_cons (ev_tk ev_str) (ea_cons (ev_tk ev_str) (ea_cons (ev_tk ev_str) (ea_cons (ev_tk ev_str) ea_nil)))))) (ev_call0 (E1 := E0) (ea_cons ev_var (ea_cons ev_int ea_nil)))))
  (es_seq (es_asg rfl (ev_cb ol_dict (ea_cons (ev_op2 o2_add (ev_items ev_var) (ev_lst (ea_cons (ev_tk (ev_tup (ea_cons (ev_tk ev_var) (ea_cons (ev_tk (ev_tup (ea_cons (ev_tk ev_str) (ea_cons (ev_tk ev_int) ea_nil)))) ea_nil)))) (ea_cons (ev_tk (ev_tup (ea_cons (ev_tk ev_str) (ea_cons (ev_tk (ev_tup (ea_cons (ev_tk ev_str) (ea_cons (ev_tk (ev_un o1_neg ev_int)) ea_nil)))) ea_nil)))) ea_nil)))) ea_nil)))
  (es_seq (es_if (et_test (ev_op2 o2_ne (ev_call0 (E1 := E0) (ea_cons ev_var ea_nil)) (ev_lst (ea_cons (ev_tk (ev_if (et_test (ev_op2 o2_cmp ev_var ev_str)) ev_var ev_str)) (ea_cons (ev_tk ev_bl) ea_nil))))) (es_ret ev_bl) es_next)
  (es_seq (es_for (ei_seq (ev_lst (ea_cons (ev_tk (ev_un o1_neg ev_int)) (ea_cons (ev_tk ev_bl) (ea_cons (ev_tk ev_non) (ea_cons (ev_tk ev_str) (ea_cons (ev_tk ev_bl) (ea_cons (ev_tk (ev_lst (ea_cons (ev_tk ev_int) ea_nil))) (ea_cons (ev_tk (ev_op2 o2_sub ev_int (ev_op2 o2_pow ev_int ev_int))) ea_nil))))))))) (tg_name rfl)
  (es_if (et_test (ev_op2 o2_ne (ev_cb ol_repr (ea_cons (ev_call0 (E1 := E0) (ea_cons ev_var (ea_cons (ev_tk ev_var) ea_nil))) ea_nil)) (ev_cb ol_repr (ea_cons (ev_lst (ea_cons (ev_tk ev_str) (ea_cons (ev_tk ev_var) ea_nil))) ea_nil)))) (es_ret ev_bl) es_next))
  (es_seq (es_asg rfl (ev_cb ol_dict (ea_cons (ev_op2 o2_add (ev_lst (ea_cons (ev_tk (ev_tup (ea_cons (ev_tk ev_str) (ea_cons (ev_tk (ev_un o1_neg ev_int)) ea_nil)))) ea_nil)) (ev_lc (vs := [12]) (ei_seq (ev_op2 o2_add (ev_rev ev_var) (ev_lst (ea_cons (ev_tk ev_str) ea_nil)))) (tg_name rfl) (fun _ h => h) et_yes (ev_tup (ea_cons (ev_tk ev_var) (ea_cons (ev_tk ev_int) ea_nil))))) ea_nil)))
  (es_seq (es_put (ev_op2 o2_ix ev_var ev_var) (ev_op2 o2_ix (ev_lst (ea_cons (ev_tk (ev_un o1_neg ev_int)) (ea_cons (ev_tk ev_non) (ea_cons (ev_tk ev_bl) (ea_cons (ev_tk ev_str) ea_nil))))) (ev_call0 (E1 := E0) (ea_cons ev_var (ea_cons ev_int ea_nil)))))
  (es_seq (es_asg rfl (ev_call0 (E1 := E0) (ea_cons ev_var (ea_cons ev_var ea_nil))))
  (es_seq (es_asg rfl (ev_if (et_test (ev_op2 o2_cmp (ev_op2 o2_ix ev_var ev_var) ev_str)) (ev_op2 o2_ix ev_var (ev_op2 o2_ix ev_var ev_var)) (ev_un o1_neg ev_int)))
  (es_ret (ev_op2 o2_eq (ev_cb ol_repr (ea_cons ev_var ea_nil)) (ev_cb ol_repr (ea_cons (ev_lst (ea_cons (ev_tk ev_str) (ea_cons (ev_tk ev_var) ea_nil))) ea_nil)))))))))))))))))))) h⟩
  exact (pss_cons (ps_set (i := 3) scZrefused.nd rfl (Or.inl rfl) (pe_callB (call_sortA rfl) (by rfl) T.z_sorted (by decide +kernel) (pa_cons (pe_callTy (call_listA rfl) (by rfl) T.z_list (by decide +kernel) (pa_cons (pv 1) pa_nil)) pa_nil)))
  (pss_cons (ps_set (i := 4) scZrefused.nd rfl (Or.inl rfl) (pe_c cLpick hr (by decide) rfl (pa_cons (pv 0) (pa_cons (pe_callB call_lenA (by rfl) T.z_len (by decide +kernel) (pa_cons (pv 3) pa_nil)) pa_nil))))
  (pss_cons (ps_set (i := 5) scZrefused.nd rfl (Or.inl rfl) (pe_lst (pa_cons (pe_tup (pa_cons (pe_strS [97, 100, 100] (by decide +kernel)) (pa_cons (pe_un un_neg pe_int) pa_nil))) (pa_cons (pe_tup (pa_cons (pe_strS [115, 101, 116] (by decide +kernel)) (pa_cons (pe_un un_neg pe_int) pa_nil))) (pa_cons (pe_tup (pa_cons (pe_strS [112, 117, 116] (by decide +kernel)) (pa_cons pe_int pa_nil))) (pa_cons (pe_tup (pa_cons (pe_strS [97, 100, 100] (by decide +kernel)) pa_nil)) (pa_cons (pe_tup (pa_cons (pe_strS [97, 100, 100] (by decide +kernel)) (pa_cons pe_int (pa_cons pe_int pa_nil)))) (pa_cons (pe_lst (pa_cons (pe_strS [97, 100, 100] (by decide +kernel)) (pa_cons pe_int pa_nil))) (pa_cons (pe_strS [97, 100, 100] (by decide +kernel)) (pa_cons pe_non (pa_cons (pe_tup (pa_cons (pe_strS [97, 100, 100] (by decide +kernel)) (pa_cons pe_bl pa_nil))) (pa_cons pe_int pa_nil))))))))))))
  (pss_cons (ps_set (i := 5) scZrefused.nd rfl (Or.inl rfl) (pe_op op_addA (pv 5) (pe_lst (pa_cons (pe_tup (pa_cons (pe_strS [97, 100, 100] (by decide +kernel)) (pa_cons (pe_strS [49] (by decide +kernel)) pa_nil))) (pa_cons (pe_tup (pa_cons (pe_strS [115, 101, 116] (by decide +kernel)) (pa_cons pe_non pa_nil))) (pa_cons (pe_tup (pa_cons pe_int (pa_cons (pe_strS [97, 100, 100] (by decide +kernel)) pa_nil))) (pa_cons (pe_tup (pa_cons (pe_strS [65, 100, 100] (by decide +kernel)) (pa_cons pe_int pa_nil))) (pa_cons (pe_tup pa_nil) pa_nil))))))))
  (pss_cons (ps_set (i := 6) scZrefused.nd rfl (Or.inl rfl) (pe_callTy (call_dictA rfl) (by rfl) T.z_dict (by decide +kernel) (pa_cons (pv 1) pa_nil)))
  (pss_cons (ps_dput (hu_of hr) (pv 6) (pe_ix (ix_any (hu_of hr)) (pv 3) (pv 4) (fun _ _ => rfl)) (pe_ix (ix_any (hu_of hr)) (pv 5) (pe_c cLpick hr (by decide) rfl (pa_cons (pv 0) (pa_cons pe_int pa_nil))) (fun _ _ => rfl)) rfl)
  (pss_cons (ps_dput (hu_of hr) (pv 6) (pe_ix (ix_any (hu_of hr)) (pv 3) (pe_un un_neg pe_int) (fun _ _ => rfl)) (pe_ix (ix_any (hu_of hr)) (pv 5) (pe_c cLpick hr (by decide) rfl (pa_cons (pv 0) (pa_cons pe_int pa_nil))) (fun _ _ => rfl)) rfl)
  (pss_cons (ps_if (PW.pt (pw_or (pt_cmpR (op_neA (u65 hr)) (pe_c cLmade hr (by decide) rfl (pa_cons (pv 6) pa_nil)) (pe_lst (pa_cons (pe_ix (ix_any (hu_of hr)) (pv 3) (pv 4) (fun _ _ => rfl)) (pa_cons pe_bl pa_nil))) (nomark _)) (pw_or1 (pt_cmpR (op_neA (u65 hr)) (pe_c cLmade hr (by decide) rfl (pa_cons (pv 1) pa_nil)) (pe_lst pa_nil) (nomark _))))) (pss_one (ps_ret pe_bl)) pss_nil)
  (pss_cons (ps_set (i := 7) scZrefused.nd rfl (Or.inl rfl) (pe_ix (ix_any (hu_of hr)) (pe_lst (pa_cons (pe_strS ([] : List Nat) (by decide +kernel)) (pa_cons (pe_strS [65] (by decide +kernel)) (pa_cons (pe_strS [110, 105, 110, 101, 108, 101, 116, 116, 101] (by decide +kernel)) (pa_cons (pe_strS [97, 32, 98] (by decide +kernel)) (pa_cons (pe_strS [97, 49] (by decide +kernel)) pa_nil)))))) (pe_c cLpick hr (by decide) rfl (pa_cons (pv 0) (pa_cons pe_int pa_nil))) (fun _ _ => rfl)))
  (pss_cons (ps_set (i := 6) scZrefused.nd rfl (Or.inl rfl) (pe_callTy (call_dictA rfl) (by rfl) T.z_dict (by decide +kernel) (pa_cons (pe_op op_addA (pe_listItemsR rfl (pv 1) rfl T.z_list (by decide +kernel) rfl) (pe_lst (pa_cons (pe_tup (pa_cons (pv 7) (pa_cons (pe_tup (pa_cons (pe_strS [97, 100, 100] (by decide +kernel)) (pa_cons pe_int pa_nil))) pa_nil))) (pa_cons (pe_tup (pa_cons (pe_strS [122, 122, 122, 122, 122, 122, 122, 122] (by decide +kernel)) (pa_cons (pe_tup (pa_cons (pe_strS [97, 100, 100] (by decide +kernel)) (pa_cons (pe_un un_neg pe_int) pa_nil))) pa_nil))) pa_nil)))) pa_nil)))
  (pss_cons (ps_if (pt_cmpR (op_neA (u65 hr)) (pe_c cLmade hr (by decide) rfl (pa_cons (pv 6) pa_nil)) (pe_lst (pa_cons (pe_ifExp (pt_cmpR op_ltA (pv 7) (pe_strS [122, 122, 122, 122, 122, 122, 122, 122] (by decide +kernel)) (nomark _)) (pv 7) (pe_strS [122, 122, 122, 122, 122, 122, 122, 122] (by decide +kernel))) (pa_cons pe_bl pa_nil))) (nomark _)) (pss_one (ps_ret pe_bl)) pss_nil)
  (pss_cons (ps_for PassesOwn.never rfl (pi_seqA (pe_lst (pa_cons (pe_un un_neg pe_int) (pa_cons pe_bl (pa_cons pe_non (pa_cons (pe_strS [50] (by decide +kernel)) (pa_cons pe_bl (pa_cons (pe_lst (pa_cons pe_int pa_nil)) (pa_cons (pe_op op_sub pe_int (pe_op op_pow pe_int pe_int)) pa_nil))))))))) (pg_name (i := 8) scZrefused.nd rfl (Or.inl rfl))
  (pss_one (ps_if (pt_cmpR (op_neA (u65 hr)) (pe_callB (call_repr hG hr) (by rfl) T.z_repr (by decide +kernel) (pa_cons (pe_c cLtimes hr (by decide) rfl (pa_cons (pv 2) (pa_cons (pv 8) pa_nil))) pa_nil)) (pe_callB (call_repr hG hr) (by rfl) T.z_repr (by decide +kernel) (pa_cons (pe_lst (pa_cons (pe_strS [116, 105, 109, 101, 115] (by decide +kernel)) (pa_cons (pv 8) pa_nil))) pa_nil)) (nomark _)) (pss_one (ps_ret pe_bl)) pss_nil)))
  (pss_cons (ps_set (i := 9) scZrefused.nd rfl (Or.inl rfl) (pe_callTy (call_dictA rfl) (by rfl) T.z_dict (by decide +kernel) (pa_cons (pe_op op_addA (pe_lst (pa_cons (pe_tup (pa_cons (pe_strS [122, 122, 122] (by decide +kernel)) (pa_cons (pe_un un_neg pe_int) pa_nil))) pa_nil)) (pe_lc (own := [("_law_name", 12)]) (g := (gName 12)) rfl scZrefused.nd (pi_seqA (pe_op op_addA (pe_revL (pv 3)) (pe_lst (pa_cons (pe_strS [110, 111, 110, 101] (by decide +kernel)) pa_nil)))) (blkOk_by (N := ["_law_tape_here", "_law_changes_here", "_law_made_here", "_law_names", "_law_at", "_law_odd", "_law_wrong", "_law_bad", "_law_times_here", "_law_numbers", "_law_told", "_law_due", "_law_name"]) (sc := defScope sZrefused) (by decide +kernel)) (fun _ _ _ _ _ => (pg_name (i := 12) scZrefused.nd rfl (Or.inl rfl))) (fun _ _ _ _ _ => pts_nil) (fun _ _ _ _ _ => (pe_tup (pa_cons (pv 12) (pa_cons pe_int pa_nil)))))) pa_nil)))
  (pss_cons (ps_dput (hu_of hr) (pv 9) (pe_ix (ix_any (hu_of hr)) (pv 3) (pv 4) (fun _ _ => rfl)) (pe_ix (ix_any (hu_of hr)) (pe_lst (pa_cons (pe_un un_neg pe_int) (pa_cons pe_non (pa_cons pe_bl (pa_cons (pe_strS [52] (by decide +kernel)) pa_nil))))) (pe_c cLpick hr (by decide) rfl (pa_cons (pv 0) (pa_cons pe_int pa_nil))) (fun _ _ => rfl)) rfl)
  (pss_cons (ps_set (i := 10) scZrefused.nd rfl (Or.inl rfl) (pe_c cLof hr (by decide) rfl (pa_cons (pv 2) (pa_cons (pv 9) pa_nil))))
  (pss_cons (ps_set (i := 11) scZrefused.nd rfl (Or.inl rfl) (pe_ifExp (pt_cmpR op_ltA (pe_ix (ix_any (hu_of hr)) (pv 3) (pv 4) (fun _ _ => rfl)) (pe_strS [122, 122, 122] (by decide +kernel)) (nomark _)) (pe_ix (ix_any (hu_of hr)) (pv 9) (pe_ix (ix_any (hu_of hr)) (pv 3) (pv 4) (fun _ _ => rfl)) (fun _ _ => rfl)) (pe_un un_neg pe_int)))
  (pss_one (ps_ret (pe_cmpR (op_eqA (u65 hr)) (pe_callB (call_repr hG hr) (by rfl) T.z_repr (by decide +kernel) (pa_cons (pv 10) pa_nil)) (pe_callB (call_repr hG hr) (by rfl) T.z_repr (by decide +kernel) (pa_cons (pe_lst (pa_cons (pe_strS [110, 117, 109, 98, 101, 114] (by decide +kernel)) (pa_cons (pv 11) pa_nil))) pa_nil)) (nomark _))))))))))))))))))))
end
end Pt
namespace Pt
open PySem PySem.Spec PyProof.Rows L2 Dv
open SX (S S_len S_cat)
/-! the tape, drawing: what the evaluators give -/
section
variable {r : Rv} {e e' : En} {k : Rv → En → Rs} {kf : Rv → En → Fl} {ka : List Rv → En → Rs} {c : Nat} {fs : List D} {d : D} {z : Rv} {h : En → Fl}
@[simp] theorem bind_ok : (Rs.ok r e).bind k = k r e := rfl
@[simp] theorem bind_exc : (Rs.exc c fs e).bind k = .exc c fs e := rfl
@[simp] theorem fl_ok : (Rs.ok r e).fl kf = kf r e := rfl
@[simp] theorem fl_exc : (Rs.exc c fs e).fl kf = .exc c fs e := rfl
@[simp] theorem abind_ok {rs : List Rv} : (As.ok rs e).bind ka = ka rs e := rfl
@[simp] theorem pubR_s : pubR (.ok (.sh d) e) = .ok (.sh d) e := rfl
@[simp] theorem pubR_o : pubR (.ok (.ow d) e) = .ok (.sh d) e := rfl
@[simp] theorem pubR_l {i : Nat} : pubR (.ok (.sl i) e) = .ok (.sl i) e := rfl
@[simp] theorem rdv_s : rdv e (.sh d) = some d := rfl
@[simp] theorem opR_s : opR e (some z) = .ok z e := rfl
@[simp] theorem eC_e : eC d e = .ok (.sh d) e := rfl
@[simp] theorem eBl_e {b : Bool} : eBl b e = .ok (.sh (.bl b)) e := rfl
@[simp] theorem aNil_e : aNil e = .ok [] e := rfl
@[simp] theorem fNx_e : fNx e = .nx e := rfl
@[simp] theorem rdL_nil : rdL e [] = some [] := rfl
theorem aCons_ok {a : En → Rs} {f : En → As} {rs : List Rv} {e1 e2 : En} (h1 : pubR (a e) = .ok r e1) (h2 : f e1 = .ok rs e2) : aCons a f e = .ok (r :: rs) e2 := by
  unfold aCons; rw [h1]; dsimp only; rw [h2]
theorem fSeq_nx {f g : En → Fl} (h1 : f e = .nx e') : fSeq f g e = g e' := by unfold fSeq; rw [h1]
theorem fSeq_rt {f g : En → Fl} (h1 : f e = .rt r e') : fSeq f g e = .rt r e' := by unfold fSeq; rw [h1]
end
theorem log_lt {n k : Nat} (h : n < 2 ^ k) (hk : 0 < k) : n.log2 < k := by
  by_cases z : n = 0
  · subst z; simpa [eTest, eOp2, eOp1, eVar, dIx, eBr, fIf, fSeq, fAsg, fRet, fDrop, fSetL, eTk, eCB, aCons, eLst, eTup, eCall, eApp, ePopAt, dIn, noX, rdv, dI2, dCmp, blD, fnF, okKp, kpL, intO, rdL, dInt, dAdd, outE, dLen, dAbs, shL, runF, mkE, slOf, nrm, muOf, okMu, backR, putS, isM, dList, dIsN, dNotN, Dv.isNon, dTup] using hk
  · exact (Nat.log2_lt z).mpr h
theorem cmul_ok {a b : Int} (ha : a.natAbs < 2 ^ 250) (hb : b.natAbs < 2 ^ 250) : cMul a b = true := by
  unfold cMul
  have h1 := log_lt ha (by decide)
  have h2 := log_lt hb (by decide)
  exact decide_eq_true (by omega)
theorem cmod_ok {a b : Int} (hb : 0 < b) : cMod a b = true := decide_eq_true hb
theorem cdiv_ok {a b : Int} (hb : 0 < b) (h : b.natAbs < 2 ^ 250) : cDiv a b = true := by
  unfold cDiv
  have h2 := log_lt h (by decide)
  rw [decide_eq_true hb, Bool.true_and]
  exact decide_eq_true (by omega)
@[simp] theorem atI_0 {α : Type} {x : α} {xs : List α} : atI (x :: xs) 0 = some x := by simp [eTest, eOp2, eOp1, eVar, dIx, eBr, fIf, fSeq, fAsg, fRet, fDrop, fSetL, eTk, eCB, aCons, eLst, eTup, eCall, eApp, ePopAt, dIn, noX, rdv, dI2, dCmp, blD, fnF, okKp, kpL, intO, rdL, dInt, dAdd, outE, dLen, dAbs, shL, runF, mkE, slOf, nrm, muOf, okMu, backR, putS, isM, dList, dIsN, dNotN, Dv.isNon, dTup, atI, ixN]
@[simp] theorem atI_1 {α : Type} {x y : α} {xs : List α} : atI (x :: y :: xs) 1 = some y := by
  unfold atI ixN
  rw [if_pos (by decide), if_pos (by simp [eTest, eOp2, eOp1, eVar, dIx, eBr, fIf, fSeq, fAsg, fRet, fDrop, fSetL, eTk, eCB, aCons, eLst, eTup, eCall, eApp, ePopAt, dIn, noX, rdv, dI2, dCmp, blD, fnF, okKp, kpL, intO, rdL, dInt, dAdd, outE, dLen, dAbs, shL, runF, mkE, slOf, nrm, muOf, okMu, backR, putS, isM, dList, dIsN, dNotN, Dv.isNon, dTup]; omega)]
  rfl
@[simp] theorem cpow18 : cPow 10 18 = true := by decide
def tapeD (A B : Int) : D := .lst [.int A, .int B]
@[simp] theorem cdiv64 {a : Int} : cDiv a 64 = true := cdiv_ok (by decide) (by decide)
theorem r_pick {A B m : Int} (h : TapeOk A B) (hm : 0 < m) (hm2 : m < 2 ^ 120) : ∃ r A' B' : Int, f_Lpick [.ow (tapeD A B), .sh (.int m)] = .ok (.sh (.int r)) [.ow (tapeD A' B'), .no] ∧ 0 ≤ r ∧ r < m ∧ TapeOk A' B' := by
  obtain ⟨h1, h2, h3⟩ := h
  have m1 : m.natAbs < 2 ^ 250 := by omega
  unfold f_Lpick g_Lpick tapeD
  by_cases hA : A < 10 ^ 18
  · have c1 : cMul B 48271 = true := cmul_ok (by omega) (by decide)
    have c2 : cMul A 69621 = true := cmul_ok (by omega) (by decide)
    have hA' : ¬ (1000000000000000000 ≤ A) := by omega
    have k1 := Int.emod_nonneg (B * 48271 + A * 69621 + 11) (by decide : (2147483647 : Int) ≠ 0)
    have k2 := Int.emod_lt_of_pos (B * 48271 + A * 69621 + 11) (by decide : (0 : Int) < 2147483647)
    generalize hC : (B * 48271 + A * 69621 + 11) % 2147483647 = C at k1 k2
    have c3 : cMul C C = true := cmul_ok (by omega) (by omega)
    have c4 : cMul C 40692 = true := cmul_ok (by omega) (by decide)
    refine ⟨(C * C + C * 40692 + 7) % 2147483399 / 64 % m, A, C, by simp [eTest, eOp2, eOp1, eVar, dIx, eBr, fIf, fSeq, fAsg, fRet, fDrop, fSetL, eTk, eCB, aCons, eLst, eTup, eCall, eApp, ePopAt, dIn, noX, rdv, dI2, dCmp, blD, fnF, okKp, kpL, intO, rdL, dInt, dAdd, outE, dLen, dAbs, shL, runF, mkE, slOf, nrm, muOf, okMu, backR, putS, isM, dList, dIsN, dNotN, Dv.isNon, dTup, eTest, eOp2, eVar, dIx, rdv, dI2, dCmp, eOp1, blD, fnF, okKp, kpL, eBr, fIf, fSeq, fAsg, fRet, fSetL, intO, eTk, eCB, aCons, rdL, dInt, dAdd, ixN, outE, hA', c1, c2, cMod, hC, c3, c4, hm], Int.emod_nonneg _ (by omega), Int.emod_lt_of_pos _ hm, h1, k1, by omega⟩
  · have hA' : 1000000000000000000 ≤ A := by omega
    have c1 : cDiv A m = true := cdiv_ok hm m1
    refine ⟨A % m, A / m, B, by simp [eTest, eOp2, eOp1, eVar, dIx, eBr, fIf, fSeq, fAsg, fRet, fDrop, fSetL, eTk, eCB, aCons, eLst, eTup, eCall, eApp, ePopAt, dIn, noX, rdv, dI2, dCmp, blD, fnF, okKp, kpL, intO, rdL, dInt, dAdd, outE, dLen, dAbs, shL, runF, mkE, slOf, nrm, muOf, okMu, backR, putS, isM, dList, dIsN, dNotN, Dv.isNon, dTup, eTest, eOp2, eVar, dIx, rdv, dI2, dCmp, eOp1, blD, fnF, okKp, kpL, eBr, fIf, fSeq, fAsg, fRet, fSetL, intO, eTk, eCB, aCons, rdL, dInt, dAdd, ixN, outE, hA', c1, cMod, hm], Int.emod_nonneg _ (by omega), Int.emod_lt_of_pos _ hm, Int.ediv_nonneg h1 (by omega), h2, h3⟩
theorem r_tape {ns : List Int} {k : Int} (h0 : 0 ≤ k) (h1 : k ≤ 1000) : ∃ A B : Int, f_Ltape [.bo (.lst (ns.map D.int)), .sh (.int k)] = .ok (.ow (tapeD A B)) [.no, .no] ∧ TapeOk A B := by
  unfold f_Ltape g_Ltape tapeD
  have c1 : cMul 7919 k = true := cmul_ok (by decide) (by omega)
  by_cases h : k < ns.length
  · obtain ⟨x, e⟩ : ∃ x : Int, atI (ns.map D.int) k = some (D.int x) := by
      unfold atI ixN
      rw [if_pos h0, if_pos (by rw [List.length_map]; exact h)]
      refine ⟨ns[k.toNat]'(by omega), ?_⟩
      simp [eTest, eOp2, eOp1, eVar, dIx, eBr, fIf, fSeq, fAsg, fRet, fDrop, fSetL, eTk, eCB, aCons, eLst, eTup, eCall, eApp, ePopAt, dIn, noX, rdv, dI2, dCmp, blD, fnF, okKp, kpL, intO, rdL, dInt, dAdd, outE, dLen, dAbs, shL, runF, mkE, slOf, nrm, muOf, okMu, backR, putS, isM, dList, dIsN, dNotN, Dv.isNon, dTup]
    refine ⟨if x < 0 then -x else x, 7919 * k + 104729, by simp [eTest, eOp2, eOp1, eVar, dIx, eBr, fIf, fSeq, fAsg, fRet, fDrop, fSetL, eTk, eCB, aCons, eLst, eTup, eCall, eApp, ePopAt, dIn, noX, rdv, dI2, dCmp, blD, fnF, okKp, kpL, intO, rdL, dInt, dAdd, outE, dLen, dAbs, shL, runF, mkE, slOf, nrm, muOf, okMu, backR, putS, isM, dList, dIsN, dNotN, Dv.isNon, dTup, h, e, c1, lim], ?_, by omega, by omega⟩
    split <;> omega
  · refine ⟨0, 7919 * k + 104729, by simp [eTest, eOp2, eOp1, eVar, dIx, eBr, fIf, fSeq, fAsg, fRet, fDrop, fSetL, eTk, eCB, aCons, eLst, eTup, eCall, eApp, ePopAt, dIn, noX, rdv, dI2, dCmp, blD, fnF, okKp, kpL, intO, rdL, dInt, dAdd, outE, dLen, dAbs, shL, runF, mkE, slOf, nrm, muOf, okMu, backR, putS, isM, dList, dIsN, dNotN, Dv.isNon, dTup, h, c1, lim], by omega, by omega, by omega⟩
/-! shuffled -/
theorem seqIndex_nat {r : Int} {n : Nat} (h0 : 0 ≤ r) (h1 : r < n) : seqIndex? r n = some r.toNat := by
  unfold seqIndex?
  have h2 : ¬ r < 0 := by omega
  simp [eTest, eOp2, eOp1, eVar, dIx, eBr, fIf, fSeq, fAsg, fRet, fDrop, fSetL, eTk, eCB, aCons, eLst, eTup, eCall, eApp, ePopAt, dIn, noX, rdv, dI2, dCmp, blD, fnF, okKp, kpL, intO, rdL, dInt, dAdd, outE, dLen, dAbs, shL, runF, mkE, slOf, nrm, muOf, okMu, backR, putS, isM, dList, dIsN, dNotN, Dv.isNon, dTup, h0, h1, h2]
theorem shuf_step {A B : Int} {xs left found : List D} {s4 : Sl} (h : TapeOk A B) (hl : 0 < left.length) (hl2 : left.length ≤ 1000) (hf : found.length ≤ 1000) : ∃ (A' B' : Int) (i : Nat) (d : D), left[i]? = some d ∧ TapeOk A' B' ∧
    b0_Lshuffled [.ow (tapeD A B), .bo (.lst xs), .ow (.lst left), .ow (.lst found), s4] = .nx [.ow (tapeD A' B'), .bo (.lst xs), .ow (.lst (left.eraseIdx i)), .ow (.lst (found ++ [d])), s4] := by
  obtain ⟨r, A', B', h1, h2, h3, h4⟩ := r_pick h (m := left.length) (by omega) (by omega)
  have hr : r.toNat < left.length := by omega
  have e1 := seqIndex_nat h2 h3
  have e2 : left[r.toNat]? = some (left[r.toNat]) := List.getElem?_eq_getElem hr
  refine ⟨A', B', r.toNat, left[r.toNat], e2, h4, ?_⟩
  have b1' : r.natAbs < 4611686018427387904 := by omega
  have b2 : found.length < lim := by unfold lim; omega
  unfold b0_Lshuffled
  simp [eTest, eOp2, eOp1, eVar, dIx, eBr, fIf, fSeq, fAsg, fRet, fDrop, fSetL, eTk, eCB, aCons, eLst, eTup, eCall, eApp, ePopAt, dIn, noX, rdv, dI2, dCmp, blD, fnF, okKp, kpL, intO, rdL, dInt, dAdd, outE, dLen, dAbs, shL, runF, mkE, slOf, nrm, muOf, okMu, backR, putS, isM, dList, dIsN, dNotN, Dv.isNon, dTup, h1, e1, e2, b1', b2]
theorem perm_eraseIdx {α : Type} : ∀ (l : List α) (i : Nat) {d : α}, l[i]? = some d → (d :: l.eraseIdx i).Perm l
  | [], _, _, h => by simp [eTest, eOp2, eOp1, eVar, dIx, eBr, fIf, fSeq, fAsg, fRet, fDrop, fSetL, eTk, eCB, aCons, eLst, eTup, eCall, eApp, ePopAt, dIn, noX, rdv, dI2, dCmp, blD, fnF, okKp, kpL, intO, rdL, dInt, dAdd, outE, dLen, dAbs, shL, runF, mkE, slOf, nrm, muOf, okMu, backR, putS, isM, dList, dIsN, dNotN, Dv.isNon, dTup] at h
  | x :: l, 0, d, h => by simp [eTest, eOp2, eOp1, eVar, dIx, eBr, fIf, fSeq, fAsg, fRet, fDrop, fSetL, eTk, eCB, aCons, eLst, eTup, eCall, eApp, ePopAt, dIn, noX, rdv, dI2, dCmp, blD, fnF, okKp, kpL, intO, rdL, dInt, dAdd, outE, dLen, dAbs, shL, runF, mkE, slOf, nrm, muOf, okMu, backR, putS, isM, dList, dIsN, dNotN, Dv.isNon, dTup] at h; subst h; exact .refl _
  | x :: l, i + 1, d, h => by
    have ih := perm_eraseIdx l i (d := d) (by simpa [eTest, eOp2, eOp1, eVar, dIx, eBr, fIf, fSeq, fAsg, fRet, fDrop, fSetL, eTk, eCB, aCons, eLst, eTup, eCall, eApp, ePopAt, dIn, noX, rdv, dI2, dCmp, blD, fnF, okKp, kpL, intO, rdL, dInt, dAdd, outE, dLen, dAbs, shL, runF, mkE, slOf, nrm, muOf, okMu, backR, putS, isM, dList, dIsN, dNotN, Dv.isNon, dTup] using h)
    exact (List.Perm.swap x d _).trans (ih.cons x)
theorem shuf_loop {xs : List D} : ∀ (items left found : List D) {A B : Int} {s4 : Sl}, items.length = left.length → TapeOk A B → left.length ≤ 1000 → found.length + left.length ≤ 1000 → ∃ (A' B' : Int) (ys : List D) (s4' : Sl), ys.Perm left ∧ TapeOk A' B' ∧
    forL (tgN 4) b0_Lshuffled items [.ow (tapeD A B), .bo (.lst xs), .ow (.lst left), .ow (.lst found), s4] = .nx [.ow (tapeD A' B'), .bo (.lst xs), .ow (.lst []), .ow (.lst (found ++ ys)), s4']
  | [], left, found, A, B, s4, h, ht, _, _ => by
    have e : left = [] := List.length_eq_zero_iff.mp h.symm
    subst e
    exact ⟨A, B, [], s4, .refl _, ht, by simp [eTest, eOp2, eOp1, eVar, dIx, eBr, fIf, fSeq, fAsg, fRet, fDrop, fSetL, eTk, eCB, aCons, eLst, eTup, eCall, eApp, ePopAt, dIn, noX, rdv, dI2, dCmp, blD, fnF, okKp, kpL, intO, rdL, dInt, dAdd, outE, dLen, dAbs, shL, runF, mkE, slOf, nrm, muOf, okMu, backR, putS, isM, dList, dIsN, dNotN, Dv.isNon, dTup, forL]⟩
  | it :: items, left, found, A, B, s4, h, ht, hl, hf => by
    have hp : 0 < left.length := by rw [← h]; simp [eTest, eOp2, eOp1, eVar, dIx, eBr, fIf, fSeq, fAsg, fRet, fDrop, fSetL, eTk, eCB, aCons, eLst, eTup, eCall, eApp, ePopAt, dIn, noX, rdv, dI2, dCmp, blD, fnF, okKp, kpL, intO, rdL, dInt, dAdd, outE, dLen, dAbs, shL, runF, mkE, slOf, nrm, muOf, okMu, backR, putS, isM, dList, dIsN, dNotN, Dv.isNon, dTup]
    obtain ⟨A1, B1, i, d, hi, ht1, e1⟩ := shuf_step (xs := xs) (found := found) (s4 := .sh it) ht hp hl (by omega)
    have hi' : i < left.length := (List.getElem?_eq_some_iff.mp hi).1
    have le : (left.eraseIdx i).length = left.length - 1 := List.length_eraseIdx_of_lt hi'
    obtain ⟨A2, B2, ys, s4', hp2, ht2, e2⟩ := shuf_loop items (left.eraseIdx i) (found ++ [d]) (s4 := .sh it) (by rw [le, ← h]; simp [eTest, eOp2, eOp1, eVar, dIx, eBr, fIf, fSeq, fAsg, fRet, fDrop, fSetL, eTk, eCB, aCons, eLst, eTup, eCall, eApp, ePopAt, dIn, noX, rdv, dI2, dCmp, blD, fnF, okKp, kpL, intO, rdL, dInt, dAdd, outE, dLen, dAbs, shL, runF, mkE, slOf, nrm, muOf, okMu, backR, putS, isM, dList, dIsN, dNotN, Dv.isNon, dTup]) ht1 (by omega) (by rw [List.length_append, le]; simp [eTest, eOp2, eOp1, eVar, dIx, eBr, fIf, fSeq, fAsg, fRet, fDrop, fSetL, eTk, eCB, aCons, eLst, eTup, eCall, eApp, ePopAt, dIn, noX, rdv, dI2, dCmp, blD, fnF, okKp, kpL, intO, rdL, dInt, dAdd, outE, dLen, dAbs, shL, runF, mkE, slOf, nrm, muOf, okMu, backR, putS, isM, dList, dIsN, dNotN, Dv.isNon, dTup]; omega)
    refine ⟨A2, B2, d :: ys, s4', ?_, ht2, ?_⟩
    · exact (hp2.cons d).trans (perm_eraseIdx left i hi)
    · unfold forL
      simp only [tgN, List.length_cons, List.length_nil]
      rw [if_pos (by omega)]
      simp only [List.set_cons_succ, List.set_cons_zero]
      rw [e1]
      simp only
      rw [e2]
      simp [eTest, eOp2, eOp1, eVar, dIx, eBr, fIf, fSeq, fAsg, fRet, fDrop, fSetL, eTk, eCB, aCons, eLst, eTup, eCall, eApp, ePopAt, dIn, noX, rdv, dI2, dCmp, blD, fnF, okKp, kpL, intO, rdL, dInt, dAdd, outE, dLen, dAbs, shL, runF, mkE, slOf, nrm, muOf, okMu, backR, putS, isM, dList, dIsN, dNotN, Dv.isNon, dTup]
theorem okI_nat {n : Nat} (h : n ≤ 1000000) : okI (n : Int) = true := by
  unfold okI
  exact decide_eq_true (by omega)
theorem rng1_nat {n : Nat} (h : n ≤ 1000000) : rngA1 [.int (n : Int)] = some (rngD 0 n) := by
  unfold rngA1
  dsimp only
  rw [if_pos (okI_nat h)]
  rfl
theorem fSeq_at {f g : En → Fl} {e e1 : En} (h : f e = .nx e1) : fSeq f g e = g e1 := by unfold fSeq; rw [h]
theorem fFor_at {src : En → Is} {tg : D → En → Option En} {f : En → Fl} {e e1 : En} {items : List D} (h : src e = .ok items e1) : fFor src tg f e = forL tg f items e1 := by unfold fFor; rw [h]; rfl
theorem fnF_rt {np n : Nat} {kp : Nat → Bool} {f : En → Fl} {e0 e1 e2 : En} {d : D} (hc : e0.length = np ∧ okKp kp 0 e0 = true) (h : f (e0 ++ List.replicate n .no) = .rt (.ow d) e1) (ho : outE e0 e1 = e2) : fnF np n kp f e0 = .ok (.ow d) e2 := by
  unfold fnF; rw [if_pos hc, h]; dsimp only; rw [ho]
theorem fnF_rs {np n : Nat} {kp : Nat → Bool} {f : En → Fl} {e0 e1 e2 : En} {d : D} (hc : e0.length = np ∧ okKp kp 0 e0 = true) (h : f (e0 ++ List.replicate n .no) = .rt (.sh d) e1) (ho : outE e0 e1 = e2) : fnF np n kp f e0 = .ok (.sh d) e2 := by
  unfold fnF; rw [if_pos hc, h]; dsimp only; rw [ho]
theorem r_shuffled {A B : Int} {xs : List D} (ht : TapeOk A B) (hl : xs.length ≤ 1000) : ∃ (A' B' : Int) (ys : List D), ys.Perm xs ∧ TapeOk A' B' ∧ f_Lshuffled [.ow (tapeD A B), .bo (.lst xs)] = .ok (.ow (.lst ys)) [.ow (tapeD A' B'), .no] := by
  obtain ⟨A', B', ys, s4, h1, h2, h3⟩ := shuf_loop (xs := xs) (rngD 0 xs.length) xs [] (s4 := .no) (by simp [eTest, eOp2, eOp1, eVar, dIx, eBr, fIf, fSeq, fAsg, fRet, fDrop, fSetL, eTk, eCB, aCons, eLst, eTup, eCall, eApp, ePopAt, dIn, noX, rdv, dI2, dCmp, blD, fnF, okKp, kpL, intO, rdL, dInt, dAdd, outE, dLen, dAbs, shL, runF, mkE, slOf, nrm, muOf, okMu, backR, putS, isM, dList, dIsN, dNotN, Dv.isNon, dTup, rngD]) ht hl (by simp [eTest, eOp2, eOp1, eVar, dIx, eBr, fIf, fSeq, fAsg, fRet, fDrop, fSetL, eTk, eCB, aCons, eLst, eTup, eCall, eApp, ePopAt, dIn, noX, rdv, dI2, dCmp, blD, fnF, okKp, kpL, intO, rdL, dInt, dAdd, outE, dLen, dAbs, shL, runF, mkE, slOf, nrm, muOf, okMu, backR, putS, isM, dList, dIsN, dNotN, Dv.isNon, dTup]; exact hl)
  have o1 := rng1_nat (n := xs.length) (by omega)
  have k1 : fAsg 2 (eCB dList (aCons (eVar 1) aNil)) [.ow (tapeD A B), .bo (.lst xs), .no, .no, .no] = .nx [.ow (tapeD A B), .bo (.lst xs), .ow (.lst xs), .no, .no] := by simp [eTest, eOp2, eOp1, eVar, dIx, eBr, fIf, fSeq, fAsg, fRet, fDrop, fSetL, eTk, eCB, aCons, eLst, eTup, eCall, eApp, ePopAt, dIn, noX, rdv, dI2, dCmp, blD, fnF, okKp, kpL, intO, rdL, dInt, dAdd, outE, dLen, dAbs, shL, runF, mkE, slOf, nrm, muOf, okMu, backR, putS, isM, dList, dIsN, dNotN, Dv.isNon, dTup]
  have k2 : fAsg 3 (eLst aNil) [.ow (tapeD A B), .bo (.lst xs), .ow (.lst xs), .no, .no] = .nx [.ow (tapeD A B), .bo (.lst xs), .ow (.lst xs), .ow (.lst []), .no] := by simp [eTest, eOp2, eOp1, eVar, dIx, eBr, fIf, fSeq, fAsg, fRet, fDrop, fSetL, eTk, eCB, aCons, eLst, eTup, eCall, eApp, ePopAt, dIn, noX, rdv, dI2, dCmp, blD, fnF, okKp, kpL, intO, rdL, dInt, dAdd, outE, dLen, dAbs, shL, runF, mkE, slOf, nrm, muOf, okMu, backR, putS, isM, dList, dIsN, dNotN, Dv.isNon, dTup]
  have k3 : iRng rngA1 (aCons (eCB dLen (aCons (eVar 1) aNil)) aNil) [.ow (tapeD A B), .bo (.lst xs), .ow (.lst xs), .ow (.lst []), .no] = .ok (rngD 0 xs.length) [.ow (tapeD A B), .bo (.lst xs), .ow (.lst xs), .ow (.lst []), .no] := by simp [eTest, eOp2, eOp1, eVar, dIx, eBr, fIf, fSeq, fAsg, fRet, fDrop, fSetL, eTk, eCB, aCons, eLst, eTup, eCall, eApp, ePopAt, dIn, noX, rdv, dI2, dCmp, blD, fnF, okKp, kpL, intO, rdL, dInt, dAdd, outE, dLen, dAbs, shL, runF, mkE, slOf, nrm, muOf, okMu, backR, putS, isM, dList, dIsN, dNotN, Dv.isNon, dTup, iRng, o1]
  have k4 : fRet (eVar 3) [.ow (tapeD A' B'), .bo (.lst xs), .ow (.lst []), .ow (.lst ([] ++ ys)), s4] = .rt (.ow (.lst ys)) [.ow (tapeD A' B'), .bo (.lst xs), .ow (.lst []), .no, s4] := by simp [eTest, eOp2, eOp1, eVar, dIx, eBr, fIf, fSeq, fAsg, fRet, fDrop, fSetL, eTk, eCB, aCons, eLst, eTup, eCall, eApp, ePopAt, dIn, noX, rdv, dI2, dCmp, blD, fnF, okKp, kpL, intO, rdL, dInt, dAdd, outE, dLen, dAbs, shL, runF, mkE, slOf, nrm, muOf, okMu, backR, putS, isM, dList, dIsN, dNotN, Dv.isNon, dTup]
  have hb : g_Lshuffled [.ow (tapeD A B), .bo (.lst xs), .no, .no, .no] = .rt (.ow (.lst ys)) [.ow (tapeD A' B'), .bo (.lst xs), .ow (.lst []), .no, s4] :=
    (fSeq_at k1).trans ((fSeq_at k2).trans ((fSeq_at ((fFor_at k3).trans h3)).trans k4))
  exact ⟨A', B', ys, h1, h2, fnF_rt (by simp [eTest, eOp2, eOp1, eVar, dIx, eBr, fIf, fSeq, fAsg, fRet, fDrop, fSetL, eTk, eCB, aCons, eLst, eTup, eCall, eApp, ePopAt, dIn, noX, rdv, dI2, dCmp, blD, fnF, okKp, kpL, intO, rdL, dInt, dAdd, outE, dLen, dAbs, shL, runF, mkE, slOf, nrm, muOf, okMu, backR, putS, isM, dList, dIsN, dNotN, Dv.isNon, dTup, okKp, kpL]) hb rfl⟩
end Pt
namespace Pt
open PySem PySem.Spec PyProof.Rows L2 Dv
open SX (S S_len S_cat)
theorem forL_inv {tg : D → En → Option En} {f : En → Fl} (P : Nat → En → Prop) : ∀ (items : List D) (k : Nat) (e : En), (∀ i d e, items[i]? = some d → P (k + i) e → ∃ e1 e2, tg d e = some e1 ∧ (f e1 = .nx e2 ∨ f e1 = .ct e2) ∧ P (k + i + 1) e2) → P k e → ∃ e', forL tg f items e = .nx e' ∧ P (k + items.length) e'
  | [], k, e, _, h => ⟨e, rfl, h⟩
  | d :: ds, k, e, hs, h => by
    obtain ⟨e1, e2, h1, h2, h3⟩ := hs 0 d e rfl h
    obtain ⟨e3, h4, h5⟩ := forL_inv P ds (k + 1) e2 (fun i d' e' hi hp => by
      have := hs (i + 1) d' e' (by simpa [eTest, eOp2, eOp1, eVar, dIx, eBr, fIf, fSeq, fAsg, fRet, fDrop, fSetL, eTk, eCB, aCons, eLst, eTup, eCall, eApp, ePopAt, dIn, noX, rdv, dI2, dCmp, blD, fnF, okKp, kpL, intO, rdL, dInt, dAdd, outE, dLen, dAbs, shL, runF, mkE, slOf, nrm, muOf, okMu, backR, putS, isM, dList, dIsN, dNotN, Dv.isNon, dTup] using hi) (by rw [show k + (i + 1) = k + 1 + i by omega]; exact hp)
      rw [show k + (i + 1) + 1 = k + 1 + i + 1 by omega] at this
      exact this) (by simpa [eTest, eOp2, eOp1, eVar, dIx, eBr, fIf, fSeq, fAsg, fRet, fDrop, fSetL, eTk, eCB, aCons, eLst, eTup, eCall, eApp, ePopAt, dIn, noX, rdv, dI2, dCmp, blD, fnF, okKp, kpL, intO, rdL, dInt, dAdd, outE, dLen, dAbs, shL, runF, mkE, slOf, nrm, muOf, okMu, backR, putS, isM, dList, dIsN, dNotN, Dv.isNon, dTup] using h3)
    refine ⟨e3, ?_, by rw [List.length_cons, show k + (ds.length + 1) = k + 1 + ds.length by omega]; exact h5⟩
    unfold forL
    rw [h1]
    rcases h2 with h2 | h2 <;> (dsimp only; rw [h2]; exact h4)
theorem for_inv {src : En → Is} {tg : D → En → Option En} {f : En → Fl} (P : Nat → En → Prop) {items : List D} {e e0 : En} (hsrc : src e0 = .ok items e) (hs : ∀ i d e, items[i]? = some d → P i e → ∃ e1 e2, tg d e = some e1 ∧ (f e1 = .nx e2 ∨ f e1 = .ct e2) ∧ P (i + 1) e2) (h : P 0 e) : ∃ e', fFor src tg f e0 = .nx e' ∧ P items.length e' := by
  obtain ⟨e', h1, h2⟩ := forL_inv P items 0 e (fun i d e hi hp => by rw [Nat.zero_add] at hp ⊢; exact hs i d e hi hp) h
  rw [Nat.zero_add] at h2
  exact ⟨e', (fFor_at hsrc).trans h1, h2⟩
def wA : List Nat := [97, 100, 100]
def wS : List Nat := [115, 101, 116]
theorem atI_nat {α : Type} {xs : List α} {r : Int} (h0 : 0 ≤ r) (h1 : r < xs.length) : ∃ x, atI xs r = some x ∧ xs[r.toNat]? = some x ∧ x ∈ xs := by
  have hr : r.toNat < xs.length := by omega
  refine ⟨xs[r.toNat], ?_, List.getElem?_eq_getElem hr, List.getElem_mem hr⟩
  unfold atI ixN
  rw [if_pos h0, if_pos h1]
  show xs[r.toNat]? = _
  rw [List.getElem?_eq_getElem hr]
theorem atI_map {α β : Type} (f : α → β) {xs : List α} {r : Int} {x : α} (h : atI xs r = some x) : atI (xs.map f) r = some (f x) := by
  unfold atI at *
  rw [List.length_map]
  cases q : ixN xs.length r with
  | none => rw [q] at h; cases h
  | some j =>
    rw [q] at h
    show (xs.map f)[j]? = _
    rw [List.getElem?_map, show xs[j]? = some x from h]
    rfl
end Pt
namespace Pt
open PySem PySem.Spec PyProof.Rows L2 Dv
open SX (S S_len S_cat)
/-! comparisons; a comprehension with an invariant -/
@[simp] theorem dEq_int {a b : Int} : dEq (.int a) (.int b) = some (.sh (.bl (decide (a = b)))) := rfl
@[simp] theorem dEq_str {a b : List Nat} : dEq (.str a) (.str b) = some (.sh (.bl (decide (a = b)))) := rfl
@[simp] theorem dNe_int {a b : Int} : dNe (.int a) (.int b) = some (.sh (.bl (!decide (a = b)))) := rfl
@[simp] theorem dNe_str {a b : List Nat} : dNe (.str a) (.str b) = some (.sh (.bl (!decide (a = b)))) := rfl
theorem lcL_inv {tg : D → En → Option En} {test elt : En → Rs} {vs : List Nat} (P : Nat → En → List D → Prop) : ∀ (items : List D) (k : Nat) (e : En) (acc : List D), (∀ i d e acc, items[i]? = some d → P (k + i) e acc → ∃ e1 e2 b, tg d e = some e1 ∧ test e1 = .ok (.sh (.bl b)) e2 ∧ (b = true → ∃ y e3, eTk elt e2 = .ok (.sh y) e3 ∧ acc.length < lim ∧ P (k + i + 1) (wipeE e3 vs) (acc ++ [y])) ∧ (b = false → P (k + i + 1) (wipeE e2 vs) acc)) →
    P k e acc → ∃ e' acc', lcL tg test elt vs items e acc = .ok (.ow (.lst acc')) e' ∧ P (k + items.length) e' acc'
  | [], k, e, acc, _, h => ⟨e, acc, rfl, h⟩
  | d :: ds, k, e, acc, hs, h => by
    obtain ⟨e1, e2, b, h1, h2, h3, h4⟩ := hs 0 d e acc rfl h
    have next : ∀ e3 acc3, P (k + 1) e3 acc3 → ∃ e' acc', lcL tg test elt vs ds e3 acc3 = .ok (.ow (.lst acc')) e' ∧ P (k + (d :: ds).length) e' acc' := fun e3 acc3 h5 => by
      have := lcL_inv P ds (k + 1) e3 acc3 (fun i d' e' acc' hi hp => by
        have := hs (i + 1) d' e' acc' (by simpa [eTest, eOp2, eOp1, eVar, dIx, eBr, fIf, fSeq, fAsg, fRet, fDrop, fSetL, eTk, eCB, aCons, eLst, eTup, eCall, eApp, ePopAt, dIn, noX, rdv, dI2, dCmp, blD, fnF, okKp, kpL, intO, rdL, dInt, dAdd, outE, dLen, dAbs, shL, runF, mkE, slOf, nrm, muOf, okMu, backR, putS, isM, dList, dIsN, dNotN, Dv.isNon, dTup] using hi) (by rw [show k + (i + 1) = k + 1 + i by omega]; exact hp)
        rw [show k + (i + 1) + 1 = k + 1 + i + 1 by omega] at this
        exact this) h5
      rw [List.length_cons, show k + (ds.length + 1) = k + 1 + ds.length by omega]
      exact this
    unfold lcL
    rw [h1]
    dsimp only
    rw [h2]
    cases b with
    | true =>
      obtain ⟨y, e3, h5, h6, h7⟩ := h3 rfl
      dsimp only
      rw [h5]
      dsimp only
      rw [if_pos h6]
      exact next _ _ h7
    | false => exact next _ _ (h4 rfl)
theorem lc_inv {src : En → Is} {tg : D → En → Option En} {test elt : En → Rs} {vs : List Nat} (P : Nat → En → List D → Prop) {items : List D} {e e0 : En} (hsrc : src e0 = .ok items e) (hs : ∀ i d e acc, items[i]? = some d → P i e acc → ∃ e1 e2 b, tg d e = some e1 ∧ test e1 = .ok (.sh (.bl b)) e2 ∧ (b = true → ∃ y e3, eTk elt e2 = .ok (.sh y) e3 ∧ acc.length < lim ∧ P (i + 1) (wipeE e3 vs) (acc ++ [y])) ∧ (b = false → P (i + 1) (wipeE e2 vs) acc)) (h : P 0 (wipeE e vs) []) :
    ∃ e' acc', eLc src tg test elt vs e0 = .ok (.ow (.lst acc')) e' ∧ P items.length e' acc' := by
  obtain ⟨e', acc', h1, h2⟩ := lcL_inv P items 0 (wipeE e vs) [] (fun i d e acc hi hp => by rw [Nat.zero_add] at hp ⊢; exact hs i d e acc hi hp) h
  rw [Nat.zero_add] at h2
  refine ⟨e', acc', ?_, h2⟩
  unfold eLc
  rw [hsrc]
  exact h1
theorem cut_take {α : Type} {xs : List α} {n : Nat} : Dv.cutD xs none (some (n : Int)) = xs.take n := by
  have e : HT.sIx xs.length xs.length (some (n : Int)) = min n xs.length := by
    unfold HT.sIx
    have h : ¬ ((n : Int) < 0) := by omega
    simp [eTest, eOp2, eOp1, eVar, dIx, eBr, fIf, fSeq, fAsg, fRet, fDrop, fSetL, eTk, eCB, aCons, eLst, eTup, eCall, eApp, ePopAt, dIn, noX, rdv, dI2, dCmp, blD, fnF, okKp, kpL, intO, rdL, dInt, dAdd, outE, dLen, dAbs, shL, runF, mkE, slOf, nrm, muOf, okMu, backR, putS, isM, dList, dIsN, dNotN, Dv.isNon, dTup, h]
  have e0 : HT.sIx xs.length 0 none = 0 := rfl
  unfold Dv.cutD
  rw [e, e0, List.drop_zero, Nat.sub_zero]
  by_cases h : n ≤ xs.length
  · rw [Nat.min_eq_left h]
  · rw [Nat.min_eq_right (by omega), List.take_of_length_le (Nat.le_refl _), List.take_of_length_le (by omega)]
theorem cut_drop {α : Type} {xs : List α} : Dv.cutD xs (some 1) none = xs.drop 1 := by
  unfold Dv.cutD HT.sIx
  cases xs with
  | nil => rfl
  | cons x r => simp [eTest, eOp2, eOp1, eVar, dIx, eBr, fIf, fSeq, fAsg, fRet, fDrop, fSetL, eTk, eCB, aCons, eLst, eTup, eCall, eApp, ePopAt, dIn, noX, rdv, dI2, dCmp, blD, fnF, okKp, kpL, intO, rdL, dInt, dAdd, outE, dLen, dAbs, shL, runF, mkE, slOf, nrm, muOf, okMu, backR, putS, isM, dList, dIsN, dNotN, Dv.isNon, dTup]
end Pt
namespace Pt
open PySem PySem.Spec PyProof.Rows L2 Dv
open SX (S S_len S_cat)
theorem perm_map_inv {α β : Type} (f : α → β) : ∀ (l : List α) {ys : List β}, ys.Perm (l.map f) → ∃ zs : List α, ys = zs.map f ∧ zs.Perm l
  | [], ys, h => ⟨[], List.Perm.eq_nil h, .refl _⟩
  | x :: l, ys, h => by
    have hm : f x ∈ ys := h.symm.subset (List.mem_cons_self ..)
    obtain ⟨a, b, rfl⟩ := List.append_of_mem hm
    have h2 : (a ++ b).Perm (l.map f) := by
      have := List.perm_middle.symm.trans h
      exact List.Perm.cons_inv this
    obtain ⟨zs, e, p⟩ := perm_map_inv f l h2
    obtain ⟨za, zb, e1, e2, e3⟩ := List.map_eq_append_iff.mp e.symm
    subst e1 e2 e3
    exact ⟨za ++ x :: zb, by simp [eTest, eOp2, eOp1, eVar, dIx, eBr, fIf, fSeq, fAsg, fRet, fDrop, fSetL, eTk, eCB, aCons, eLst, eTup, eCall, eApp, ePopAt, dIn, noX, rdv, dI2, dCmp, blD, fnF, okKp, kpL, intO, rdL, dInt, dAdd, outE, dLen, dAbs, shL, runF, mkE, slOf, nrm, muOf, okMu, backR, putS, isM, dList, dIsN, dNotN, Dv.isNon, dTup], List.perm_middle.trans (p.cons x)⟩
theorem perm_strs {l : List (List Nat)} {ys : List D} (h : ys.Perm (l.map D.str)) : ∃ zs : List (List Nat), ys = zs.map D.str ∧ zs.Perm l := perm_map_inv D.str l h
theorem iSeq_sh {i : Nat} {e : En} {xs : List D} (h : e[i]? = some (.sh (.lst xs))) : iSeq (eVar i) e = .ok xs e := by
  unfold iSeq eTb
  simp [eTest, eOp2, eOp1, eVar, dIx, eBr, fIf, fSeq, fAsg, fRet, fDrop, fSetL, eTk, eCB, aCons, eLst, eTup, eCall, eApp, ePopAt, dIn, noX, rdv, dI2, dCmp, blD, fnF, okKp, kpL, intO, rdL, dInt, dAdd, outE, dLen, dAbs, shL, runF, mkE, slOf, nrm, muOf, okMu, backR, putS, isM, dList, dIsN, dNotN, Dv.isNon, dTup, h, seqD]
theorem iSeq_ow {i : Nat} {e : En} {xs : List D} (h : e[i]? = some (.ow (.lst xs))) : iSeq (eVar i) e = .ok xs (e.set i (.sh (.lst xs))) := by
  have hi : i < e.length := (List.getElem?_eq_some_iff.mp h).1
  unfold iSeq eTb
  simp [eTest, eOp2, eOp1, eVar, dIx, eBr, fIf, fSeq, fAsg, fRet, fDrop, fSetL, eTk, eCB, aCons, eLst, eTup, eCall, eApp, ePopAt, dIn, noX, rdv, dI2, dCmp, blD, fnF, okKp, kpL, intO, rdL, dInt, dAdd, outE, dLen, dAbs, shL, runF, mkE, slOf, nrm, muOf, okMu, backR, putS, isM, dList, dIsN, dNotN, Dv.isNon, dTup, h, seqD]
theorem fAsg_ow {i : Nat} {a : En → Rs} {e e1 : En} {d : D} (h : a e = .ok (.ow d) e1) (hi : i < e1.length) : fAsg i a e = .nx (e1.set i (.ow d)) := by unfold fAsg; rw [h]; simp [eTest, eOp2, eOp1, eVar, dIx, eBr, fIf, fSeq, fAsg, fRet, fDrop, fSetL, eTk, eCB, aCons, eLst, eTup, eCall, eApp, ePopAt, dIn, noX, rdv, dI2, dCmp, blD, fnF, okKp, kpL, intO, rdL, dInt, dAdd, outE, dLen, dAbs, shL, runF, mkE, slOf, nrm, muOf, okMu, backR, putS, isM, dList, dIsN, dNotN, Dv.isNon, dTup, hi]
theorem putD_new {kvs : List (D × D)} {k v : D} (h : ∀ p ∈ kvs, eqK p.1 k = false) : putD kvs k v = kvs ++ [(k, v)] := by
  unfold putD
  rw [if_neg]
  intro z
  obtain ⟨p, h1, h2⟩ := List.any_eq_true.mp z
  rw [h p h1] at h2; cases h2
theorem nd_at {α : Type} {l : List α} (nd : l.Nodup) {i : Nat} {x : α} (h : l[i]? = some x) : x ∉ l.take i := by
  intro hm
  obtain ⟨j, hj, e⟩ := List.mem_iff_getElem.mp hm
  rw [List.length_take] at hj
  rw [List.getElem_take] at e
  have hi := (List.getElem?_eq_some_iff.mp h)
  obtain ⟨hi1, hi2⟩ := hi
  exact List.pairwise_iff_getElem.mp nd j i (by omega) hi1 (by omega) (e.trans hi2.symm)
theorem eTk_ow {b : En → Rs} {e e1 : En} {d : D} (h : b e = .ok (.ow d) e1) : eTk b e = .ok (.sh d) e1 := by unfold eTk; rw [h]; rfl
theorem fPut_at {i : Nat} {a b : En → Rs} {e e1 : En} {kvs : List (D × D)} {k d : D} {rk : Rv} (hb : eTk b e = .ok (.sh d) e1) (hi : e1[i]? = some (.ow (.dct kvs))) (ha : pubR (a e1) = .ok rk e1) (hr : rdv e1 rk = some k) (hk : (keyD k).isSome = true) (hl : kvs.length < lim) : fPut i a b e = .nx (e1.set i (.ow (.dct (putD kvs k d)))) := by
  unfold fPut
  rw [hb]
  simp only [Rs.fl, hi, ha, hr]
  rw [if_pos (by rw [hk, decide_eq_true hl]; rfl)]
theorem mergeD_new {ps : List (D × D)} : ∀ {kvs : List (D × D)}, (∀ p ∈ ps, ∀ q ∈ kvs, eqK q.1 p.1 = false) → ps.Pairwise (fun p q => eqK p.1 q.1 = false) → mergeD kvs ps = kvs ++ ps := by
  induction ps with
  | nil => intro kvs _ _; simp [eTest, eOp2, eOp1, eVar, dIx, eBr, fIf, fSeq, fAsg, fRet, fDrop, fSetL, eTk, eCB, aCons, eLst, eTup, eCall, eApp, ePopAt, dIn, noX, rdv, dI2, dCmp, blD, fnF, okKp, kpL, intO, rdL, dInt, dAdd, outE, dLen, dAbs, shL, runF, mkE, slOf, nrm, muOf, okMu, backR, putS, isM, dList, dIsN, dNotN, Dv.isNon, dTup, mergeD]
  | cons p ps ih =>
    intro kvs h1 h2
    rw [List.pairwise_cons] at h2
    unfold mergeD
    rw [putD_new (fun q hq => h1 p (List.mem_cons_self ..) q hq)]
    rw [ih (fun p' hp' q hq => ?_) h2.2]
    · simp [eTest, eOp2, eOp1, eVar, dIx, eBr, fIf, fSeq, fAsg, fRet, fDrop, fSetL, eTk, eCB, aCons, eLst, eTup, eCall, eApp, ePopAt, dIn, noX, rdv, dI2, dCmp, blD, fnF, okKp, kpL, intO, rdL, dInt, dAdd, outE, dLen, dAbs, shL, runF, mkE, slOf, nrm, muOf, okMu, backR, putS, isM, dList, dIsN, dNotN, Dv.isNon, dTup]
    · rcases List.mem_append.mp hq with hq | hq
      · exact h1 p' (List.mem_cons_of_mem _ hp') q hq
      · rw [List.mem_singleton.mp hq]; exact h2.1 p' hp'

end Pt
namespace Pt
open PySem PySem.Spec PyProof.Rows L2 Dv
open SX (S S_len S_cat)
/-! walks and comprehensions whose turns are known -/
theorem forL_fold {S ι : Type} {tg : D → En → Option En} {f : En → Fl} (R : S → En) (ei : ι → D) (step : S → ι → S) (I : S → Prop) : ∀ (xs : List ι) (s : S), I s → (∀ s x, x ∈ xs → I s → ∃ e1, tg (ei x) (R s) = some e1 ∧ f e1 = .nx (R (step s x)) ∧ I (step s x)) → forL tg f (xs.map ei) (R s) = .nx (R (xs.foldl step s)) ∧ I (xs.foldl step s)
  | [], s, hi, _ => ⟨rfl, hi⟩
  | x :: xs, s, hi, h => by
    obtain ⟨e1, h1, h2, h3⟩ := h s x (List.mem_cons_self ..) hi
    have ih := forL_fold R ei step I xs (step s x) h3 fun s y hy => h s y (List.mem_cons_of_mem _ hy)
    refine ⟨?_, ih.2⟩
    rw [List.map_cons]
    unfold forL
    rw [h1]
    dsimp only
    rw [h2]
    exact ih.1
theorem forL_chk {ι : Type} {tg : D → En → Option En} {f : En → Fl} {T : Type} (R : T → En) (ei : ι → D) : ∀ (xs : List ι) (z : T), (∀ x ∈ xs, ∀ z, ∃ e1 z', tg (ei x) (R z) = some e1 ∧ f e1 = .nx (R z')) → ∃ z', forL tg f (xs.map ei) (R z) = .nx (R z')
  | [], z, _ => ⟨z, rfl⟩
  | x :: xs, z, h => by
    obtain ⟨e1, z1, h1, h2⟩ := h x (List.mem_cons_self ..) z
    obtain ⟨z2, h3⟩ := forL_chk R ei xs z1 fun y hy => h y (List.mem_cons_of_mem _ hy)
    refine ⟨z2, ?_⟩
    rw [List.map_cons]
    unfold forL
    rw [h1]
    dsimp only
    rw [h2]
    exact h3
theorem lcL_map {ι : Type} {tg : D → En → Option En} {test elt : En → Rs} {vs : List Nat} (e0 : En) (ei : ι → D) (p : ι → Bool) (q : ι → D) : ∀ (xs : List ι) (acc : List D), acc.length + xs.length ≤ lim → (∀ x ∈ xs, ∃ e1, tg (ei x) e0 = some e1 ∧ test e1 = .ok (.sh (.bl (p x))) e1 ∧ wipeE e1 vs = e0 ∧ (p x = true → eTk elt e1 = .ok (.sh (q x)) e1)) → lcL tg test elt vs (xs.map ei) e0 acc = .ok (.ow (.lst (acc ++ (xs.filter p).map q))) e0
  | [], acc, _, _ => by simp [eTest, eOp2, eOp1, eVar, dIx, eBr, fIf, fSeq, fAsg, fRet, fDrop, fSetL, eTk, eCB, aCons, eLst, eTup, eCall, eApp, ePopAt, dIn, noX, rdv, dI2, dCmp, blD, fnF, okKp, kpL, intO, rdL, dInt, dAdd, outE, dLen, dAbs, shL, runF, mkE, slOf, nrm, muOf, okMu, backR, putS, isM, dList, dIsN, dNotN, Dv.isNon, dTup, lcL]
  | x :: xs, acc, hl, h => by
    obtain ⟨e1, h1, h2, h3, h4⟩ := h x (List.mem_cons_self ..)
    rw [List.length_cons] at hl
    rw [List.map_cons]
    unfold lcL
    rw [h1]
    dsimp only
    rw [h2]
    cases hp : p x with
    | true =>
      dsimp only
      rw [h4 hp]
      dsimp only
      rw [if_pos (by omega), h3, lcL_map e0 ei p q xs (acc ++ [q x]) (by rw [List.length_append, List.length_singleton]; omega) fun y hy => h y (List.mem_cons_of_mem _ hy), List.filter_cons_of_pos hp]
      simp [eTest, eOp2, eOp1, eVar, dIx, eBr, fIf, fSeq, fAsg, fRet, fDrop, fSetL, eTk, eCB, aCons, eLst, eTup, eCall, eApp, ePopAt, dIn, noX, rdv, dI2, dCmp, blD, fnF, okKp, kpL, intO, rdL, dInt, dAdd, outE, dLen, dAbs, shL, runF, mkE, slOf, nrm, muOf, okMu, backR, putS, isM, dList, dIsN, dNotN, Dv.isNon, dTup]
    | false =>
      dsimp only
      rw [h3, lcL_map e0 ei p q xs acc (by omega) fun y hy => h y (List.mem_cons_of_mem _ hy), List.filter_cons_of_neg (by rw [hp]; exact Bool.false_ne_true)]
theorem lc_map {ι : Type} {src : En → Is} {tg : D → En → Option En} {test elt : En → Rs} {vs : List Nat} {e e1 e0 : En} {xs : List ι} (ei : ι → D) (p : ι → Bool) (q : ι → D) (hs : src e = .ok (xs.map ei) e1) (hw : wipeE e1 vs = e0) (hl : xs.length ≤ lim) (h : ∀ x ∈ xs, ∃ e1, tg (ei x) e0 = some e1 ∧ test e1 = .ok (.sh (.bl (p x))) e1 ∧ wipeE e1 vs = e0 ∧ (p x = true → eTk elt e1 = .ok (.sh (q x)) e1)) : eLc src tg test elt vs e = .ok (.ow (.lst ((xs.filter p).map q))) e0 := by
  unfold eLc
  rw [hs]
  show lcL _ _ _ _ _ (wipeE e1 vs) [] = _
  rw [hw, lcL_map e0 ei p q xs [] (by simpa [eTest, eOp2, eOp1, eVar, dIx, eBr, fIf, fSeq, fAsg, fRet, fDrop, fSetL, eTk, eCB, aCons, eLst, eTup, eCall, eApp, ePopAt, dIn, noX, rdv, dI2, dCmp, blD, fnF, okKp, kpL, intO, rdL, dInt, dAdd, outE, dLen, dAbs, shL, runF, mkE, slOf, nrm, muOf, okMu, backR, putS, isM, dList, dIsN, dNotN, Dv.isNon, dTup] using hl) h]
  rfl
theorem dcL_map {ι : Type} {tg : D → En → Option En} {test ek ev : En → Rs} {vs : List Nat} (e0 : En) (ei : ι → D) (p : ι → Bool) (ky : ι → List Nat) (q : ι → D) : ∀ (xs : List ι) (acc : List (D × D)), acc.length + xs.length ≤ lim → (∀ a ∈ acc, ∀ x ∈ xs, eqK a.1 (.str (ky x)) = false) → (xs.map ky).Nodup → (∀ x ∈ xs, ∃ e1, tg (ei x) e0 = some e1 ∧ test e1 = .ok (.sh (.bl (p x))) e1 ∧ wipeE e1 vs = e0 ∧ (p x = true → eTk ek e1 = .ok (.sh (.str (ky x))) e1 ∧ eTk ev e1 = .ok (.sh (q x)) e1)) → dcL tg test ek ev vs (xs.map ei) e0 acc = .ok (.ow (.dct (acc ++ (xs.filter p).map fun x => (.str (ky x), q x)))) e0
  | [], acc, _, _, _, _ => by simp [eTest, eOp2, eOp1, eVar, dIx, eBr, fIf, fSeq, fAsg, fRet, fDrop, fSetL, eTk, eCB, aCons, eLst, eTup, eCall, eApp, ePopAt, dIn, noX, rdv, dI2, dCmp, blD, fnF, okKp, kpL, intO, rdL, dInt, dAdd, outE, dLen, dAbs, shL, runF, mkE, slOf, nrm, muOf, okMu, backR, putS, isM, dList, dIsN, dNotN, Dv.isNon, dTup, dcL]
  | x :: xs, acc, hl, hd, nd, h => by
    obtain ⟨e1, h1, h2, h3, h4⟩ := h x (List.mem_cons_self ..)
    rw [List.length_cons] at hl
    rw [List.map_cons, List.nodup_cons] at nd
    rw [List.map_cons]
    unfold dcL
    rw [h1]
    dsimp only
    rw [h2]
    cases hp : p x with
    | true =>
      dsimp only
      rw [(h4 hp).1]
      dsimp only
      rw [(h4 hp).2]
      dsimp only
      have hk : ((keyD (.str (ky x))).isSome && decide (acc.length < lim)) = true := by
        rw [show (keyD (.str (ky x))).isSome = true from rfl, decide_eq_true (by omega)]; rfl
      rw [if_pos hk, h3, putD_new (fun a ha => hd a ha x (List.mem_cons_self ..)), dcL_map e0 ei p ky q xs (acc ++ [(D.str (ky x), q x)]) (by rw [List.length_append, List.length_singleton]; omega) (fun a ha y hy => ?_) nd.2 fun y hy => h y (List.mem_cons_of_mem _ hy), List.filter_cons_of_pos hp]
      · simp [eTest, eOp2, eOp1, eVar, dIx, eBr, fIf, fSeq, fAsg, fRet, fDrop, fSetL, eTk, eCB, aCons, eLst, eTup, eCall, eApp, ePopAt, dIn, noX, rdv, dI2, dCmp, blD, fnF, okKp, kpL, intO, rdL, dInt, dAdd, outE, dLen, dAbs, shL, runF, mkE, slOf, nrm, muOf, okMu, backR, putS, isM, dList, dIsN, dNotN, Dv.isNon, dTup]
      · rcases List.mem_append.mp ha with ha | ha
        · exact hd a ha y (List.mem_cons_of_mem _ hy)
        · rw [List.mem_singleton.mp ha]
          exact decide_eq_false fun z => nd.1 (z ▸ List.mem_map_of_mem hy)
    | false =>
      dsimp only
      rw [h3, dcL_map e0 ei p ky q xs acc (by omega) (fun a ha y hy => hd a ha y (List.mem_cons_of_mem _ hy)) nd.2 fun y hy => h y (List.mem_cons_of_mem _ hy), List.filter_cons_of_neg (by rw [hp]; exact Bool.false_ne_true)]
theorem dc_map {ι : Type} {src : En → Is} {tg : D → En → Option En} {test ek ev : En → Rs} {vs : List Nat} {e e1 e0 : En} {xs : List ι} (ei : ι → D) (p : ι → Bool) (ky : ι → List Nat) (q : ι → D) (hs : src e = .ok (xs.map ei) e1) (hw : wipeE e1 vs = e0) (hl : xs.length ≤ lim) (nd : (xs.map ky).Nodup) (h : ∀ x ∈ xs, ∃ e1, tg (ei x) e0 = some e1 ∧ test e1 = .ok (.sh (.bl (p x))) e1 ∧ wipeE e1 vs = e0 ∧ (p x = true → eTk ek e1 = .ok (.sh (.str (ky x))) e1 ∧ eTk ev e1 = .ok (.sh (q x)) e1)) : eDc src tg test ek ev vs e = .ok (.ow (.dct ((xs.filter p).map fun x => (.str (ky x), q x)))) e0 := by
  unfold eDc
  rw [hs]
  show dcL _ _ _ _ _ _ (wipeE e1 vs) [] = _
  rw [hw, dcL_map e0 ei p ky q xs [] (by simpa [eTest, eOp2, eOp1, eVar, dIx, eBr, fIf, fSeq, fAsg, fRet, fDrop, fSetL, eTk, eCB, aCons, eLst, eTup, eCall, eApp, ePopAt, dIn, noX, rdv, dI2, dCmp, blD, fnF, okKp, kpL, intO, rdL, dInt, dAdd, outE, dLen, dAbs, shL, runF, mkE, slOf, nrm, muOf, okMu, backR, putS, isM, dList, dIsN, dNotN, Dv.isNon, dTup] using hl) (fun _ h => nomatch h) nd h]
  rfl
/-! dicts and lists of names -/
theorem getD_map {F : List Nat → D} {c : List Nat} : ∀ {l : List (List Nat)}, getD (l.map fun n => (D.str n, F n)) (.str c) = if c ∈ l then some (F c) else none
  | [] => rfl
  | n :: l => by
    have ih := getD_map (F := F) (c := c) (l := l)
    unfold getD at *
    rw [List.map_cons]
    by_cases h : n = c
    · subst h
      rw [List.find?_cons_of_pos (p := fun kv : D × D => eqK kv.1 (D.str n)) (show eqK (D.str n) (D.str n) = true from decide_eq_true rfl), if_pos (List.mem_cons_self ..)]
      rfl
    · rw [List.find?_cons_of_neg (p := fun kv : D × D => eqK kv.1 (D.str c)) (show ¬ eqK (D.str n) (D.str c) = true from fun z => h (of_decide_eq_true z)), ih]
      simp [eTest, eOp2, eOp1, eVar, dIx, eBr, fIf, fSeq, fAsg, fRet, fDrop, fSetL, eTk, eCB, aCons, eLst, eTup, eCall, eApp, ePopAt, dIn, noX, rdv, dI2, dCmp, blD, fnF, okKp, kpL, intO, rdL, dInt, dAdd, outE, dLen, dAbs, shL, runF, mkE, slOf, nrm, muOf, okMu, backR, putS, isM, dList, dIsN, dNotN, Dv.isNon, dTup, Ne.symm h]
theorem dIx_map {F : List Nat → D} {c : List Nat} {l : List (List Nat)} (h : c ∈ l) : dIx (.dct (l.map fun n => (D.str n, F n))) (.str c) = some (.sh (F c)) := by
  show (if true = true then (getD _ (.str c)).map Rv.sh else none) = _
  rw [if_pos rfl, getD_map, if_pos h]
  rfl
theorem dIn_map {F : List Nat → D} {c : List Nat} {l : List (List Nat)} {g : Bool} : dIn g (.str c) (.dct (l.map fun n => (D.str n, F n))) = some (.sh (.bl (if g then !decide (c ∈ l) else decide (c ∈ l)))) := by
  show (if true = true then some (Rv.sh (.bl (if g = true then !(getD (l.map fun n => (D.str n, F n)) (.str c)).isSome else (getD (l.map fun n => (D.str n, F n)) (.str c)).isSome))) else none) = _
  rw [if_pos rfl, getD_map]
  by_cases h : c ∈ l <;> simp [eTest, eOp2, eOp1, eVar, dIx, eBr, fIf, fSeq, fAsg, fRet, fDrop, fSetL, eTk, eCB, aCons, eLst, eTup, eCall, eApp, ePopAt, dIn, noX, rdv, dI2, dCmp, blD, fnF, okKp, kpL, intO, rdL, dInt, dAdd, outE, dLen, dAbs, shL, runF, mkE, slOf, nrm, muOf, okMu, backR, putS, isM, dList, dIsN, dNotN, Dv.isNon, dTup, h]
theorem any_str {c : List Nat} : ∀ {l : List (List Nat)}, (l.map D.str).any (fun y => eqF y (.str c)) = decide (c ∈ l)
  | [] => rfl
  | n :: l => by
    rw [List.map_cons, List.any_cons, any_str]
    show (decide (n = c) || _) = _
    by_cases h : n = c
    · subst h; simp [eTest, eOp2, eOp1, eVar, dIx, eBr, fIf, fSeq, fAsg, fRet, fDrop, fSetL, eTk, eCB, aCons, eLst, eTup, eCall, eApp, ePopAt, dIn, noX, rdv, dI2, dCmp, blD, fnF, okKp, kpL, intO, rdL, dInt, dAdd, outE, dLen, dAbs, shL, runF, mkE, slOf, nrm, muOf, okMu, backR, putS, isM, dList, dIsN, dNotN, Dv.isNon, dTup]
    · rw [decide_eq_false h, Bool.false_or, Bool.eq_iff_iff, decide_eq_true_eq, decide_eq_true_eq, List.mem_cons]
      exact ⟨.inr, fun z => z.resolve_left (Ne.symm h)⟩
theorem all_flat {l : List (List Nat)} : (l.map D.str).all flatD = true := by
  rw [List.all_eq_true]
  intro x hx
  obtain ⟨y, _, rfl⟩ := List.mem_map.mp hx
  rfl
theorem dIn_lst {c : List Nat} {l : List (List Nat)} {g : Bool} : dIn g (.str c) (.lst (l.map D.str)) = some (.sh (.bl (if g then !decide (c ∈ l) else decide (c ∈ l)))) := by
  show (if (flatD (.str c) && (l.map D.str).all flatD) = true then _ else none) = _
  rw [all_flat, any_str]
  rfl
theorem dIn_tup {c : List Nat} {l : List (List Nat)} {g : Bool} : dIn g (.str c) (.tup (l.map D.str)) = some (.sh (.bl (if g then !decide (c ∈ l) else decide (c ∈ l)))) := by
  show (if (flatD (.str c) && (l.map D.str).all flatD) = true then _ else none) = _
  rw [all_flat, any_str]
  rfl
theorem strsD_map : ∀ {l : List (List Nat)}, strsD (l.map D.str) = some l
  | [] => rfl
  | x :: l => by rw [List.map_cons]; show (strsD (l.map D.str)).map (x :: ·) = _; rw [strsD_map]; rfl
theorem dSort_lst {l : List (List Nat)} (h : l.length < 64) : dSort [.lst (l.map D.str)] = some (.ow (.lst ((sortT l).map D.str))) := by
  show (strsD (l.map D.str)).bind _ = _
  rw [strsD_map]
  show (if l.length < 64 then _ else none) = _
  rw [if_pos h]
theorem dSort_dct {F : List Nat → D} {l : List (List Nat)} (h : l.length < 64) : dSort [.dct (l.map fun n => (D.str n, F n))] = some (.ow (.lst ((sortT l).map D.str))) := by
  show (strsD ((l.map fun n => (D.str n, F n)).map (·.1))).bind _ = _
  rw [List.map_map, show ((fun x : D × D => x.1) ∘ fun n => (D.str n, F n)) = D.str from rfl, strsD_map]
  show (if l.length < 64 then _ else none) = _
  rw [if_pos h]
theorem mem_sort {l : List (List Nat)} {x : List Nat} : x ∈ sortT l ↔ x ∈ l := (sortT_perm l).mem_iff
theorem sort_nd {l : List (List Nat)} (h : l.Nodup) : (sortT l).Nodup := (sortT_perm l).nodup_iff.mpr h
theorem sort_len {l : List (List Nat)} : (sortT l).length = l.length := (sortT_perm l).length_eq
/-- calls whose answer is plain -/
theorem iSrt {a : En → Rs} {e e1 : En} {ds : List D} (h : a e = .ok (.ow (.lst ds)) e1) : iSeq a e = .ok ds e1 := by
  unfold iSeq eTb
  simp [eTest, eOp2, eOp1, eVar, dIx, eBr, fIf, fSeq, fAsg, fRet, fDrop, fSetL, eTk, eCB, aCons, eLst, eTup, eCall, eApp, ePopAt, dIn, noX, rdv, dI2, dCmp, blD, fnF, okKp, kpL, intO, rdL, dInt, dAdd, outE, dLen, dAbs, shL, runF, mkE, slOf, nrm, muOf, okMu, backR, putS, isM, dList, dIsN, dNotN, Dv.isNon, dTup, h, seqD]
theorem iShd {a : En → Rs} {e e1 : En} {ds : List D} (h : a e = .ok (.sh (.lst ds)) e1) : iSeq a e = .ok ds e1 := by
  unfold iSeq eTb
  simp [eTest, eOp2, eOp1, eVar, dIx, eBr, fIf, fSeq, fAsg, fRet, fDrop, fSetL, eTk, eCB, aCons, eLst, eTup, eCall, eApp, ePopAt, dIn, noX, rdv, dI2, dCmp, blD, fnF, okKp, kpL, intO, rdL, dInt, dAdd, outE, dLen, dAbs, shL, runF, mkE, slOf, nrm, muOf, okMu, backR, putS, isM, dList, dIsN, dNotN, Dv.isNon, dTup, h, seqD]
theorem iSht {a : En → Rs} {e e1 : En} {ds : List D} (h : a e = .ok (.sh (.tup ds)) e1) : iSeq a e = .ok ds e1 := by
  unfold iSeq eTb
  simp [eTest, eOp2, eOp1, eVar, dIx, eBr, fIf, fSeq, fAsg, fRet, fDrop, fSetL, eTk, eCB, aCons, eLst, eTup, eCall, eApp, ePopAt, dIn, noX, rdv, dI2, dCmp, blD, fnF, okKp, kpL, intO, rdL, dInt, dAdd, outE, dLen, dAbs, shL, runF, mkE, slOf, nrm, muOf, okMu, backR, putS, isM, dList, dIsN, dNotN, Dv.isNon, dTup, h, seqD]
theorem filt_true {α : Type} {l : List α} : l.filter (fun _ => true) = l := List.filter_eq_self.mpr fun _ _ => rfl
end Pt
namespace Pt
open PySem PySem.Spec PyProof.Rows L2 Dv
open SX (S S_len S_cat)
/-! the evaluators, applied: rules for simp -/
@[simp] theorem ap_eVar {i : Nat} {e : En} : eVar i e = (match e[i]? with
  | some (.sh _) => .ok (.sl i) e
  | some (.bo _) => .ok (.sl i) e
  | some (.ow _) => .ok (.sl i) e
  | _ => .stuck) := rfl
@[simp] theorem ap_eC {d : D} {e : En} : eC d e = (.ok (.sh d) e) := rfl
@[simp] theorem ap_eOp2 {op : D → D → Option Rv} {a b : En → Rs} {e : En} : eOp2 op a b e = ((pubR (a e)).bind fun r1 e1 => (pubR (b e1)).bind fun r2 e2 => opR e2 ((rdv e2 r1).bind fun x => (rdv e2 r2).bind fun y => op x y)) := rfl
@[simp] theorem ap_eOp1 {op : D → Option Rv} {a : En → Rs} {e : En} : eOp1 op a e = ((pubR (a e)).bind fun r1 e1 => opR e1 ((rdv e1 r1).bind op)) := rfl
@[simp] theorem ap_eBr {c a b : En → Rs} {e : En} : eBr c a b e = (match c e with
  | .ok (.sh (.bl true)) e1 => a e1
  | .ok (.sh (.bl false)) e1 => b e1
  | .exc c fs e1 => .exc c fs e1
  | _ => .stuck) := rfl
@[simp] theorem ap_eChain {op op' : D → D → Option Rv} {a b c : En → Rs} {e : En} : eChain op op' a b c e = ((pubR (a e)).bind fun r1 e1 => (pubR (b e1)).bind fun r2 e2 => match (rdv e2 r1).bind fun x => (rdv e2 r2).bind fun y => op x y with
  | some (.sh (.bl true)) => (pubR (c e2)).bind fun r3 e3 => opR e3 ((rdv e3 r2).bind fun y => (rdv e3 r3).bind fun z => op' y z)
  | some (.sh (.bl false)) => .ok (.sh (.bl false)) e2
  | _ => .stuck) := rfl
@[simp] theorem ap_aNil {e : En} : aNil e = (.ok [] e) := rfl
@[simp] theorem ap_aCons {a : En → Rs} {f : En → As} {e : En} : aCons a f e = (match pubR (a e) with
  | .stuck => .stuck
  | .exc c fs e => .exc c fs e
  | .ok r e1 => match f e1 with
    | .stuck => .stuck
    | .exc c fs e => .exc c fs e
    | .ok rs e2 => .ok (r :: rs) e2) := rfl
@[simp] theorem ap_eCB {op : List D → Option Rv} {f : En → As} {e : En} : eCB op f e = ((f e).bind fun rs e1 => opR e1 ((rdL e1 rs).bind op)) := rfl
@[simp] theorem ap_eBM {f : D → Bool} {op : List D → Option Rv} {a : En → Rs} {as : En → As} {e : En} : eBM f op a as e = ((pubR (a e)).bind fun r e1 => match rdv e1 r with
  | none => .stuck
  | some d => if f d = true then (as e1).bind fun rs e2 => opR e2 ((rdv e2 r).bind fun d => (rdL e2 rs).bind fun ds => op (d :: ds)) else .stuck) := rfl
@[simp] theorem ap_eBM0 {f : D → Bool} {op : List D → Option Rv} {a : En → Rs} {e : En} : eBM0 f op a e = ((pubR (a e)).bind fun r e1 => match rdv e1 r with
  | none => .stuck
  | some d => if f d = true then opR e1 (op [d]) else .stuck) := rfl
@[simp] theorem ap_eTk {a : En → Rs} {e : En} : eTk a e = ((pubR (a e)).bind fun r e1 => match r with
  | .sl i => (match e1[i]? with
    | some (.sh d) => .ok (.sh d) e1
    | some (.ow d) => .ok (.sh d) (e1.set i (.sh d))
    | _ => .stuck)
  | r => .ok r e1) := rfl
@[simp] theorem ap_fSeq {f h : En → Fl} {e : En} : fSeq f h e = (match f e with
  | .nx e1 => h e1
  | r => r) := rfl
@[simp] theorem ap_fNx {e : En} : fNx e = (.nx e) := rfl
@[simp] theorem ap_fBk {e : En} : fBk e = (.bk e) := rfl
@[simp] theorem ap_fCt {e : En} : fCt e = (.ct e) := rfl
@[simp] theorem ap_fDrop {a : En → Rs} {e : En} : fDrop a e = ((a e).fl fun _ e1 => .nx e1) := rfl
@[simp] theorem ap_fAsg {i : Nat} {a : En → Rs} {e : En} : fAsg i a e = ((a e).fl fun r e1 => if i < e1.length then (match r with
  | .sh d => .nx (e1.set i (.sh d))
  | .ow d => .nx (e1.set i (.ow d))
  | .sl j => (match e1[j]? with
    | some (.sh d) => .nx (e1.set i (.sh d))
    | some (.ow d) => .nx ((e1.set j (.sh d)).set i (.sh d))
    | _ => .stuck)) else .stuck) := rfl
@[simp] theorem ap_fRet {a : En → Rs} {e : En} : fRet a e = ((a e).fl fun r e1 => match r with
  | .sl j => (match e1[j]? with
    | some (.sh d) => .rt (.sh d) e1
    | some (.ow d) => .rt (.ow d) (e1.set j .no)
    | _ => .stuck)
  | r => .rt r e1) := rfl
@[simp] theorem ap_fRetN {e : En} : fRetN e = (.rt (.sh .non) e) := rfl
@[simp] theorem ap_fIf {c : En → Rs} {f h : En → Fl} {e : En} : fIf c f h e = (match c e with
  | .ok (.sh (.bl true)) e1 => f e1
  | .ok (.sh (.bl false)) e1 => h e1
  | .exc c fs e1 => .exc c fs e1
  | _ => .stuck) := rfl
@[simp] theorem ap_tgN {i : Nat} {d : D} {e : En} : tgN i d e = (if i < e.length then some (e.set i (.sh d)) else none) := rfl
@[simp] theorem ap_tgTup {h : List D → En → Option En} {d : D} {e : En} : tgTup h d e = (match d with
  | .tup ds => h ds e
  | _ => none) := rfl
@[simp] theorem ap_fFor {src : En → Is} {tg : D → En → Option En} {f : En → Fl} {e : En} : fFor src tg f e = ((src e).fl fun items e1 => forL tg f items e1) := rfl
@[simp] theorem ap_eCall {ms : List Md} {f : En → Rs} {as : En → As} {e : En} : eCall ms f as e = ((as e).bind fun rs e1 => runF ms f rs e1) := rfl
@[simp] theorem ap_eSl {a : En → Rs} {lo hi : Option (En → Rs)} {e : En} : eSl a lo hi e = ((pubR (a e)).bind fun r e1 => ePart lo e1 fun l e2 => ePart hi e2 fun h e3 => opR e3 ((rdv e3 r).bind fun x => dSl x l h)) := rfl
@[simp] theorem ap_eLst {f : En → As} {e : En} : eLst f e = ((f e).bind fun rs e1 => opR e1 ((shL rs).bind fun ds => if ds.length ≤ lim then some (.ow (.lst ds)) else none)) := rfl
@[simp] theorem ap_eTup {f : En → As} {e : En} : eTup f e = ((f e).bind fun rs e1 => opR e1 ((shL rs).bind fun ds => if ds.length ≤ lim then some (.sh (.tup ds)) else none)) := rfl
@[simp] theorem ap_eDct0 {e : En} : eDct0 e = (.ok (.ow (.dct [])) e) := rfl
@[simp] theorem ap_eApp {i : Nat} {a : En → Rs} {e : En} : eApp i a e = (match e[i]? with
  | some (.ow (.lst _)) => (eTk a e).bind fun r e1 => (match r, e1[i]? with
    | .sh d, some (.ow (.lst xs)) => if xs.length < lim then .ok (.sh .non) (e1.set i (.ow (.lst (xs ++ [d])))) else .stuck
    | _, _ => .stuck)
  | _ => .stuck) := rfl
@[simp] theorem ap_fPut {i : Nat} {a b : En → Rs} {e : En} : fPut i a b e = ((eTk b e).fl fun rv e1 => (match e1[i]? with
  | some (.ow (.dct _)) => (pubR (a e1)).fl fun rk e2 => (match rv, e2[i]?, rdv e2 rk with
    | .sh d, some (.ow (.dct kvs)), some k => if ((keyD k).isSome && decide (kvs.length < lim)) = true then .nx (e2.set i (.ow (.dct (putD kvs k d)))) else .stuck
    | _, _, _ => .stuck)
  | _ => .stuck)) := rfl
@[simp] theorem ap_eTb {a : En → Rs} {e : En} : eTb a e = ((pubR (a e)).bind fun r e1 => match r with
  | .sl i => (match e1[i]? with
    | some (.sh d) => .ok (.sh d) e1
    | some (.bo _) => .ok (.sl i) e1
    | some (.ow d) => .ok (.sh d) (e1.set i (.sh d))
    | _ => .stuck)
  | r => .ok r e1) := rfl
@[simp] theorem ap_iSeq {a : En → Rs} {e : En} : iSeq a e = (match eTb a e with
  | .ok r e1 => (match (rdv e1 r).bind seqD with
    | some ds => .ok ds e1
    | none => .stuck)
  | .exc c fs e1 => .exc c fs e1
  | .stuck => .stuck) := rfl
@[simp] theorem ap_iRng {rng : List D → Option (List D)} {f : En → As} {e : En} : iRng rng f e = (match f e with
  | .ok rs e1 => (match (rdL e1 rs).bind rng with
    | some ds => .ok ds e1
    | none => .stuck)
  | .exc c fs e1 => .exc c fs e1
  | .stuck => .stuck) := rfl
@[simp] theorem ap_eFld {c j : Nat} {a : En → Rs} {e : En} : eFld c j a e = ((pubR (a e)).bind fun r e1 => match rdv e1 r with
  | some (.obj c' ds) => if c' = c then (match ds[j]? with | some d => .ok (.sh d) e1 | none => .stuck) else .stuck
  | _ => .stuck) := rfl
@[simp] theorem ap_fSetF {i c j : Nat} {a : En → Rs} {e : En} : fSetF i c j a e = ((eTk a e).fl fun r e1 => (match r, e1[i]? with
  | .sh d, some (.ow (.obj c' ds)) => if c' = c then (if j = ds.length then .nx (e1.set i (.ow (.obj c (ds ++ [d])))) else if j < ds.length then .nx (e1.set i (.ow (.obj c (ds.set j d)))) else .stuck) else .stuck
  | _, _ => .stuck)) := rfl
@[simp] theorem ap_eMeth {c : Nat} {ms : List Md} {f : En → Rs} {a : En → Rs} {as : En → As} {e : En} : eMeth c ms f a as e = ((pubR (a e)).bind fun r e1 => if (match rdv e1 r with | some d => isObj c d | none => false) = true then (as e1).bind fun rs e2 => runF ms f (r :: rs) e2 else .stuck) := rfl
@[simp] theorem ap_eMake {c : Nat} {ms : List Md} {f : En → Rs} {as : En → As} {e : En} : eMake c ms f as e = ((as e).bind fun rs e1 => mkR c ms f id rs e1) := rfl
@[simp] theorem ap_eMakeK {c n m : Nat} {ms : List Md} {f : En → Rs} {gR : List Rv → List Rv → List Rv} {as ks : En → As} {e : En} : eMakeK c n m ms f gR as ks e = ((as e).bind fun rs e1 => (ks e1).bind fun zs e2 => if rs.length = n ∧ zs.length = m then mkR c ms f id (gR rs zs) e2 else .stuck) := rfl
@[simp] theorem ap_vVar {i : Nat} {e : En} : vVar i e = (match e[i]? with
  | some (.sh d) => some d
  | some (.bo d) => some d
  | _ => none) := rfl
@[simp] theorem ap_vIx {x y : En → Option D} {e : En} : vIx x y e = ((x e).bind fun d => (y e).bind fun k => dIxV d k) := rfl
@[simp] theorem ap_vFld {c j : Nat} {x : En → Option D} {e : En} : vFld c j x e = ((x e).bind fun d => match d with
  | .obj c' ds => if c' = c then ds[j]? else none
  | _ => none) := rfl
@[simp] theorem ap_fAsgT {tg : D → En → Option En} {a : En → Rs} {e : En} : fAsgT tg a e = ((eTk a e).fl fun r e1 => match r with
  | .sh d => (match tg d e1 with
    | some e2 => .nx e2
    | none => .stuck)
  | _ => .stuck) := rfl
@[simp] theorem ap_fSetL {i : Nat} {a b : En → Rs} {e : En} : fSetL i a b e = ((eTk b e).fl fun rv e1 => (match e1[i]? with
  | some (.ow (.lst _)) => (pubR (a e1)).fl fun rk e2 => (match rv, e2[i]?, intO e2 rk with
    | .sh d, some (.ow (.lst xs)), some k => (match ixN xs.length k with
      | some j => .nx (e2.set i (.ow (.lst (xs.set j d))))
      | none => .stuck)
    | _, _, _ => .stuck)
  | _ => .stuck)) := rfl
@[simp] theorem ap_ePopAt {i : Nat} {a : En → Rs} {e : En} : ePopAt i a e = (match e[i]? with
  | some (.ow (.lst _)) => (pubR (a e)).bind fun r e1 => (match intO e1 r, e1[i]? with
    | some k, some (.ow (.lst xs)) => if k.natAbs < 2 ^ 62 then (match seqIndex? k xs.length with
      | some j => (match xs[j]? with
        | some d => .ok (.sh d) (e1.set i (.ow (.lst (xs.eraseIdx j))))
        | none => .stuck)
      | none => .stuck) else .stuck
    | _, _ => .stuck)
  | _ => .stuck) := rfl
@[simp] theorem ap_eGet2 {a b c : En → Rs} {e : En} : eGet2 a b c e = ((pubR (a e)).bind fun r1 e1 => match rdv e1 r1 with
  | some (.dct _) => (pubR (b e1)).bind fun r2 e2 => (eTk c e2).bind fun r3 e3 => (match r3, rdv e3 r1, rdv e3 r2 with
    | .sh x, some (.dct kvs), some k => if (keyD k).isSome = true then .ok (.sh ((getD kvs k).getD x)) e3 else .stuck
    | _, _, _ => .stuck)
  | _ => .stuck) := rfl
@[simp] theorem ap_fRaise {c : Nat} {a : En → Rs} {e : En} : fRaise c a e = ((eTk a e).fl fun r e1 => match r with
  | .sh d => .exc c [d] e1
  | _ => .stuck) := rfl
@[simp] theorem ap_fRaise0 {c : Nat} {e : En} : fRaise0 c e = (.exc c [] e) := rfl
@[simp] theorem ap_fTry {body : En → Fl} {cat : Nat → Option Bool} {hd : Nat → List D → Option Rv} {e : En} : fTry body cat hd e = (match body e with
  | .exc c fs e1 => (match cat c with
    | some true => (match hd c fs with
      | some z => .rt z e1
      | none => .stuck)
    | some false => .exc c fs e1
    | none => .stuck)
  | r => r) := rfl
@[simp] theorem ap_tgUnl {h : List D → En → Option En} {d : D} {e : En} : tgUnl h d e = (match d with
  | .lst ds => h ds e
  | _ => none) := rfl
@[simp] theorem ap_iMap {mp : List D → List D} {f : En → Is} {e : En} : iMap mp f e = (match f e with
  | .ok ds e1 => .ok (mp ds) e1
  | r => r) := rfl
@[simp] theorem ap_eBinOwn {c : Nat} {ms : List Md} {f : En → Rs} {a b : En → Rs} {e : En} : eBinOwn c ms f a b e = ((pubR (a e)).bind fun r1 e1 => (pubR (b e1)).bind fun r2 e2 =>
  if ((match rdv e2 r1 with | some d => isObj c d | none => false) && (match rdv e2 r2 with | some d => isObj c d | none => false)) = true then isRefR (runF ms f [r1, r2] e2) else .stuck) := rfl
@[simp] theorem ap_iZip {f : En → As} {e : En} : iZip f e = (match f e with
  | .ok rs e1 => zipO rs e1
  | .exc c fs e1 => .exc c fs e1
  | .stuck => .stuck) := rfl
@[simp] theorem ap_eAppT {x : En → Option D} {a : En → Rs} {e : En} : eAppT x a e = ((a e).bind fun r e1 => match r with
  | .ow (.lst xs) => if (decide (xs.length < lim) && (x e1).isSome) = true then .ok (.sh .non) e1 else .stuck
  | _ => .stuck) := rfl
@[simp] theorem ap_eTest {a : En → Rs} {e : En} : eTest a e = eOp1 blD a e := rfl
@[simp] theorem ap_eBl {b : Bool} {e : En} : eBl b e = .ok (.sh (.bl b)) e := rfl
@[simp] theorem ap_eProp {c : Nat} {f a : En → Rs} {e : En} : eProp c f a e = eMeth c [.bo] f a aNil e := rfl
@[simp] theorem ap_eRev {a : En → Rs} {e : En} : eRev a e = eOp1 dRev a e := rfl
@[simp] theorem ap_eItems {a : En → Rs} {e : En} : eItems a e = eOp1 dItems a e := rfl
@[simp] theorem ap_vC {d : D} {e : En} : vC d e = some d := rfl
@[simp] theorem ap_tgNil {e : En} : tgNil [] e = some e := rfl
@[simp] theorem ap_tgCons {f : D → En → Option En} {h : List D → En → Option En} {d : D} {ds : List D} {e : En} : tgCons f h (d :: ds) e = (f d e).bind fun e1 => h ds e1 := rfl
@[simp] theorem dIx_lst {ds : List D} {i : Int} : dIx (.lst ds) (.int i) = (atI ds i).map .sh := rfl
@[simp] theorem dIx_tup {ds : List D} {i : Int} : dIx (.tup ds) (.int i) = (atI ds i).map .sh := rfl
@[simp] theorem dIx_str {l : List Nat} {i : Int} : dIx (.str l) (.int i) = if l.length ≤ lim then (atI l i).map fun c => .sh (.str [c]) else none := rfl
@[simp] theorem keyD_str {l : List Nat} : keyD (.str l) = some (.inr (S l)) := rfl
@[simp] theorem keyD_int {i : Int} : keyD (.int i) = some (.inl i) := rfl
@[simp] theorem atI_2 {α : Type} {x y z : α} {xs : List α} : atI (x :: y :: z :: xs) 2 = some z := by
  unfold atI ixN
  rw [if_pos (by decide), if_pos (by simp [rdv, dI2, dCmp, blD, fnF, okKp, kpL, intO, rdL, dInt, dAdd, outE, dLen, dAbs, shL, runF, mkE, slOf, nrm, muOf, okMu, backR, putS, isM, dList, dIsN, dNotN, Dv.isNon, dTup, isStr, Dv.isObj, madeR, mkR, isRefR, ePart, dNeg, dNotB, seqD, dTx, Is.fl, Is.bind, Dv.zipO, zipD, enumD, dSl, iMap, hIf, hIs, hRetL, hCons, hFl, hNil]; omega)]
  rfl
@[simp] theorem atI_3 {α : Type} {x y z u : α} {xs : List α} : atI (x :: y :: z :: u :: xs) 3 = some u := by
  unfold atI ixN
  rw [if_pos (by decide), if_pos (by simp [rdv, dI2, dCmp, blD, fnF, okKp, kpL, intO, rdL, dInt, dAdd, outE, dLen, dAbs, shL, runF, mkE, slOf, nrm, muOf, okMu, backR, putS, isM, dList, dIsN, dNotN, Dv.isNon, dTup, isStr, Dv.isObj, madeR, mkR, isRefR, ePart, dNeg, dNotB, seqD, dTx, Is.fl, Is.bind, Dv.zipO, zipD, enumD, dSl, iMap, hIf, hIs, hRetL, hCons, hFl, hNil]; omega)]
  rfl
@[simp] theorem noX_ok {r : Rv} {e : En} : noX (.ok r e) = .ok r e := rfl
end Pt
namespace Pt
open PySem PySem.Spec PyProof.Rows L2 Dv
open SX (S S_len S_cat)
/-! ### names -/
def lowc (c : Nat) : Bool := decide (97 ≤ c) && decide (c ≤ 122)
def nameL (l : List Nat) : Bool := decide (1 ≤ l.length) && decide (l.length ≤ 8) && l.all lowc
theorem nuni_alpha : ∀ c : Nat, c < 128 → Unicode.isAlpha c = ((decide (65 ≤ c) && decide (c ≤ 90)) || lowc c) := by decide +kernel
theorem nuni_lower : ∀ c : Nat, c < 128 → Unicode.isLower c = lowc c := by decide +kernel
theorem nuni_upper : ∀ c : Nat, c < 128 → (Unicode.isUpper c || Unicode.isTitle c) = (decide (65 ≤ c) && decide (c ≤ 90)) := by decide +kernel
theorem name_val {l : List Nat} (h8 : l.length ≤ 8) : (Txt.isascii (S l) && (Txt.isalpha (S l) && Txt.islower (S l))) = nameL l := by
  have e1 : Txt.isascii (S l) = l.all (fun c => decide (c < 128)) := by unfold Txt.isascii; simp [rdv, dI2, dCmp, blD, fnF, okKp, kpL, intO, rdL, dInt, dAdd, outE, dLen, dAbs, shL, runF, mkE, slOf, nrm, muOf, okMu, backR, putS, isM, dList, dIsN, dNotN, Dv.isNon, dTup, isStr, Dv.isObj, madeR, mkR, isRefR, ePart, dNeg, dNotB, seqD, dTx, Is.fl, Is.bind, Dv.zipO, zipD, enumD, dSl, iMap, hIf, hIs, hRetL, hCons, hFl, hNil]
  have e2 : Txt.isalpha (S l) = (decide (0 < l.length) && l.all Unicode.isAlpha) := by unfold Txt.isalpha; rw [S_len]; simp [rdv, dI2, dCmp, blD, fnF, okKp, kpL, intO, rdL, dInt, dAdd, outE, dLen, dAbs, shL, runF, mkE, slOf, nrm, muOf, okMu, backR, putS, isM, dList, dIsN, dNotN, Dv.isNon, dTup, isStr, Dv.isObj, madeR, mkR, isRefR, ePart, dNeg, dNotB, seqD, dTx, Is.fl, Is.bind, Dv.zipO, zipD, enumD, dSl, iMap, hIf, hIs, hRetL, hCons, hFl, hNil]
  have e3 : Txt.islower (S l) = (l.any Unicode.isLower && !l.any fun c => Unicode.isUpper c || Unicode.isTitle c) := by unfold Txt.islower; simp [rdv, dI2, dCmp, blD, fnF, okKp, kpL, intO, rdL, dInt, dAdd, outE, dLen, dAbs, shL, runF, mkE, slOf, nrm, muOf, okMu, backR, putS, isM, dList, dIsN, dNotN, Dv.isNon, dTup, isStr, Dv.isObj, madeR, mkR, isRefR, ePart, dNeg, dNotB, seqD, dTx, Is.fl, Is.bind, Dv.zipO, zipD, enumD, dSl, iMap, hIf, hIs, hRetL, hCons, hFl, hNil]
  rw [e1, e2, e3, Bool.eq_iff_iff]
  unfold nameL
  simp only [Bool.and_eq_true, List.all_eq_true, decide_eq_true_eq, Bool.not_eq_true', List.any_eq_true, List.any_eq_false]
  constructor
  · rintro ⟨a, ⟨b, c⟩, d, e⟩
    refine ⟨⟨b, h8⟩, fun x hx => ?_⟩
    have q := c x hx
    rw [nuni_alpha x (a x hx)] at q
    have q2 := e x hx
    rw [nuni_upper x (a x hx)] at q2
    rw [Bool.or_eq_true] at q
    exact q.resolve_left q2
  · rintro ⟨⟨a, _⟩, b⟩
    have lt : ∀ x ∈ l, x < 128 := fun x hx => by
      have q := b x hx
      unfold lowc at q
      rw [Bool.and_eq_true, decide_eq_true_eq, decide_eq_true_eq] at q
      omega
    refine ⟨lt, ⟨a, fun x hx => ?_⟩, ?_, fun x hx => ?_⟩
    · rw [nuni_alpha x (lt x hx), b x hx, Bool.or_true]
    · cases l with
      | nil => exact absurd a (by decide)
      | cons c r => exact ⟨c, List.mem_cons_self .., by rw [nuni_lower c (lt c (List.mem_cons_self ..))]; exact b c (List.mem_cons_self ..)⟩
    · rw [nuni_upper x (lt x hx)]
      have q := b x hx
      unfold lowc at q
      rw [Bool.and_eq_true, decide_eq_true_eq, decide_eq_true_eq] at q
      simp only [Bool.and_eq_true, decide_eq_true_eq]
      omega
theorem nameL_long {l : List Nat} (h : 8 < l.length) : nameL l = false := by
  unfold nameL
  rw [decide_eq_false (show ¬ l.length ≤ 8 by omega)]
  simp [rdv, dI2, dCmp, blD, fnF, okKp, kpL, intO, rdL, dInt, dAdd, outE, dLen, dAbs, shL, runF, mkE, slOf, nrm, muOf, okMu, backR, putS, isM, dList, dIsN, dNotN, Dv.isNon, dTup, isStr, Dv.isObj, madeR, mkR, isRefR, ePart, dNeg, dNotB, seqD, dTx, Is.fl, Is.bind, Dv.zipO, zipD, enumD, dSl, iMap, hIf, hIs, hRetL, hCons, hFl, hNil]
theorem nameL_bad {l : List Nat} {c : Nat} (h : c ∈ l) (hc : lowc c = false) : nameL l = false := by
  unfold nameL
  have e : l.all lowc = false := by
    rw [Bool.eq_false_iff]
    intro q
    rw [List.all_eq_true] at q
    rw [q c h] at hc
    cases hc
  rw [e, Bool.and_false]
theorem nameL_low {l : List Nat} (h : ∀ c ∈ l, lowc c = true) : nameL l = (decide (1 ≤ l.length) && decide (l.length ≤ 8)) := by
  unfold nameL
  rw [List.all_eq_true.mpr h, Bool.and_true]

/-! values of any kind -/
@[simp] theorem isi_str {l : List Nat} : dIsi ownC [.str l, .ty "str"] = some (.sh (.bl true)) := rfl
@[simp] theorem isi_tup {l : List D} : dIsi ownC [.tup l, .ty "tuple"] = some (.sh (.bl true)) := rfl
@[simp] theorem isi_int {i : Int} : dIsi ownC [.int i, .ty "int"] = some (.sh (.bl true)) := rfl
@[simp] theorem isi_bool {i : Int} : dIsi ownC [.int i, .ty "bool"] = some (.sh (.bl false)) := rfl
@[simp] theorem isi_A {fs : List D} : dIsi ownC [.obj 0 fs, .cls 0] = some (.sh (.bl true)) := rfl
@[simp] theorem r_is_number {i : Int} : f_is_number [.sh (.int i)] = .ok (.sh (.bl true)) [.no] := by
  unfold f_is_number g_is_number
  simp [rdv, dI2, dCmp, blD, fnF, okKp, kpL, intO, rdL, dInt, dAdd, outE, dLen, dAbs, shL, runF, mkE, slOf, nrm, muOf, okMu, backR, putS, isM, dList, dIsN, dNotN, Dv.isNon, dTup, isStr, Dv.isObj, madeR, mkR, isRefR, ePart, dNeg, dNotB, seqD, dTx, Is.fl, Is.bind, Dv.zipO, zipD, enumD, dSl, iMap, hIf, hIs, hRetL, hCons, hFl, hNil]
theorem r_is_natural {i : Int} (h : 0 ≤ i) : f_is_natural [.sh (.int i)] = .ok (.sh (.bl true)) [.no] := by
  unfold f_is_natural g_is_natural
  simp [rdv, dI2, dCmp, blD, fnF, okKp, kpL, intO, rdL, dInt, dAdd, outE, dLen, dAbs, shL, runF, mkE, slOf, nrm, muOf, okMu, backR, putS, isM, dList, dIsN, dNotN, Dv.isNon, dTup, isStr, Dv.isObj, madeR, mkR, isRefR, ePart, dNeg, dNotB, seqD, dTx, Is.fl, Is.bind, Dv.zipO, zipD, enumD, dSl, iMap, hIf, hIs, hRetL, hCons, hFl, hNil, h]
theorem r_is_name {l : List Nat} (h : nameL l = true) : f_is_name [.sh (.str l)] = .ok (.sh (.bl true)) [.no] := by
  have h8 : l.length ≤ 8 := by
    by_cases q : l.length ≤ 8
    · exact q
    · rw [nameL_long (by omega)] at h; cases h
  have hv := name_val h8
  rw [h, Bool.and_eq_true, Bool.and_eq_true] at hv
  have h9 : ¬ (8 : Int) < l.length := by omega
  have hl : l.length ≤ lim := Nat.le_trans h8 (by decide)
  unfold f_is_name g_is_name
  simp [rdv, dI2, dCmp, blD, fnF, okKp, kpL, intO, rdL, dInt, dAdd, outE, dLen, dAbs, shL, runF, mkE, slOf, nrm, muOf, okMu, backR, putS, isM, dList, dIsN, dNotN, Dv.isNon, dTup, isStr, Dv.isObj, madeR, mkR, isRefR, ePart, dNeg, dNotB, seqD, dTx, Is.fl, Is.bind, Dv.zipO, zipD, enumD, dSl, iMap, hIf, hIs, hRetL, hCons, hFl, hNil, hv.1, hv.2.1, hv.2.2, h9, hl]
end Pt
namespace Pt
open PySem PySem.Spec PyProof.Rows L2 Dv
open SX (S S_len S_cat)
/-! walks over dicts -/
theorem dcK_map {ι : Type} {pr : List (D × D) → List D} {x : En → Option D} {tg : D → En → Option En} {test ek ev : En → Rs} {vs : List Nat} {e e0 : En} {kvs : List (D × D)} {xs : List ι} (ei : ι → D) (p : ι → Bool) (ky : ι → List Nat) (q : ι → D) (hx : x e = some (.dct kvs)) (hs : pr kvs = xs.map ei) (hw : wipeE e vs = e0) (hl : xs.length ≤ lim) (nd : (xs.map ky).Nodup) (h : ∀ x ∈ xs, ∃ e1, tg (ei x) e0 = some e1 ∧ test e1 = .ok (.sh (.bl (p x))) e1 ∧ wipeE e1 vs = e0 ∧ (p x = true → eTk ek e1 = .ok (.sh (.str (ky x))) e1 ∧ eTk ev e1 = .ok (.sh (q x)) e1)) : eDcK pr x tg test ek ev vs e = .ok (.ow (.dct ((xs.filter p).map fun x => (.str (ky x), q x)))) e0 := by
  unfold eDcK
  rw [hx]
  show noXR (dcL tg test ek ev vs (pr kvs) (wipeE e vs) []) = _
  rw [hs, hw, dcL_map e0 ei p ky q xs [] (by simpa [rdv, dI2, dCmp, blD, fnF, okKp, kpL, intO, rdL, dInt, dAdd, outE, dLen, dAbs, shL, runF, mkE, slOf, nrm, muOf, okMu, backR, putS, isM, dList, dIsN, dNotN, Dv.isNon, dTup, isStr, Dv.isObj, madeR, mkR, isRefR, ePart, dNeg, dNotB, seqD, dTx, Is.fl, Is.bind, Dv.zipO, zipD, enumD, dSl, iMap, hIf, hIs, hRetL, hCons, hFl, hNil] using hl) (fun _ h => nomatch h) nd h]
  rfl
theorem lcK_map {ι : Type} {pr : List (D × D) → List D} {x : En → Option D} {tg : D → En → Option En} {test elt : En → Rs} {vs : List Nat} {e e0 : En} {kvs : List (D × D)} {xs : List ι} (ei : ι → D) (p : ι → Bool) (q : ι → D) (hx : x e = some (.dct kvs)) (hs : pr kvs = xs.map ei) (hw : wipeE e vs = e0) (hl : xs.length ≤ lim) (h : ∀ x ∈ xs, ∃ e1, tg (ei x) e0 = some e1 ∧ test e1 = .ok (.sh (.bl (p x))) e1 ∧ wipeE e1 vs = e0 ∧ (p x = true → eTk elt e1 = .ok (.sh (q x)) e1)) : eLcK pr x tg test elt vs e = .ok (.ow (.lst ((xs.filter p).map q))) e0 := by
  unfold eLcK
  rw [hx]
  show noXR (lcL tg test elt vs (pr kvs) (wipeE e vs) []) = _
  rw [hs, hw, lcL_map e0 ei p q xs [] (by simpa [rdv, dI2, dCmp, blD, fnF, okKp, kpL, intO, rdL, dInt, dAdd, outE, dLen, dAbs, shL, runF, mkE, slOf, nrm, muOf, okMu, backR, putS, isM, dList, dIsN, dNotN, Dv.isNon, dTup, isStr, Dv.isObj, madeR, mkR, isRefR, ePart, dNeg, dNotB, seqD, dTx, Is.fl, Is.bind, Dv.zipO, zipD, enumD, dSl, iMap, hIf, hIs, hRetL, hCons, hFl, hNil] using hl) h]
  rfl
/-! actions -/
abbrev Hm := List Nat → Bool × Nat
def chD (x : Bool × Nat) : D := .tup [.str (if x.1 = true then wS else wA), .int (x.2 : Int)]
def nz (h : Hm) (n : List Nat) : Bool := decide (h n ≠ (false, 0))
def acD (ns : List (List Nat)) (h : Hm) : D := .obj 0 [.dct (((sortT ns).filter (nz h)).map fun n => (D.str n, chD (h n)))]
def zeroH : Hm := fun _ => (false, 0)
def compH (a b : Hm) : Hm := fun n => if (b n).1 = true then b n else ((a n).1, (a n).2 + (b n).2)
def appH (x : Bool × Nat) (v : Nat) : Nat := if x.1 = true then x.2 else v + x.2
theorem app_comp (a b : Hm) (n : List Nat) (v : Nat) : appH (compH a b n) v = appH (b n) (appH (a n) v) := by
  unfold appH compH
  by_cases h : (b n).1 = true
  · simp [rdv, dI2, dCmp, blD, fnF, okKp, kpL, intO, rdL, dInt, dAdd, outE, dLen, dAbs, shL, runF, mkE, slOf, nrm, muOf, okMu, backR, putS, isM, dList, dIsN, dNotN, Dv.isNon, dTup, isStr, Dv.isObj, madeR, mkR, isRefR, ePart, dNeg, dNotB, seqD, dTx, Is.fl, Is.bind, Dv.zipO, zipD, enumD, dSl, iMap, hIf, hIs, hRetL, hCons, hFl, hNil, h]
  · by_cases h2 : (a n).1 = true
    · simp [rdv, dI2, dCmp, blD, fnF, okKp, kpL, intO, rdL, dInt, dAdd, outE, dLen, dAbs, shL, runF, mkE, slOf, nrm, muOf, okMu, backR, putS, isM, dList, dIsN, dNotN, Dv.isNon, dTup, isStr, Dv.isObj, madeR, mkR, isRefR, ePart, dNeg, dNotB, seqD, dTx, Is.fl, Is.bind, Dv.zipO, zipD, enumD, dSl, iMap, hIf, hIs, hRetL, hCons, hFl, hNil, h, h2]
    · simp [rdv, dI2, dCmp, blD, fnF, okKp, kpL, intO, rdL, dInt, dAdd, outE, dLen, dAbs, shL, runF, mkE, slOf, nrm, muOf, okMu, backR, putS, isM, dList, dIsN, dNotN, Dv.isNon, dTup, isStr, Dv.isObj, madeR, mkR, isRefR, ePart, dNeg, dNotB, seqD, dTx, Is.fl, Is.bind, Dv.zipO, zipD, enumD, dSl, iMap, hIf, hIs, hRetL, hCons, hFl, hNil, h, h2]; omega
theorem canon_eq {ks L : List (List Nat)} {p q : List Nat → Bool} (nk : ks.Nodup) (nL : L.Nodup) (h : ∀ x, (x ∈ ks ∧ p x = true) ↔ (x ∈ L ∧ q x = true)) : (sortT ks).filter p = (sortT L).filter q :=
  List.Perm.eq_of_pairwise (fun x y _ _ h1 h2 => (lt_tri y x h1 h2).symm) ((sortT_sorted ks).filter _) ((sortT_sorted L).filter _)
    ((List.perm_ext_iff_of_nodup ((sort_nd nk).filter _) ((sort_nd nL).filter _)).mpr fun x => by rw [List.mem_filter, List.mem_filter, mem_sort, mem_sort]; exact h x)
theorem dNe_ch {x : Bool × Nat} : dNe (chD x) (.tup [.str [97, 100, 100], .int 0]) = some (.sh (.bl (decide (x ≠ (false, 0))))) := by
  obtain ⟨b, n⟩ := x
  have e : eqD1 (chD (b, n)) (.tup [.str [97, 100, 100], .int 0]) = some (decide ((b, n) = (false, 0))) := by
    show eqPy (chD (b, n)) (.tup [.str [97, 100, 100], .int 0]) = _
    cases b with
    | true =>
      have h1 : (S wS == S [97, 100, 100]) = false := by decide
      have h2 : PyData.canLay0 (.str (S wS)) = true := by decide +kernel
      have h3 : PyData.canLay0 (.str (S [97, 100, 100])) = true := by decide +kernel
      simp [rdv, dI2, dCmp, blD, fnF, okKp, kpL, intO, rdL, dInt, dAdd, outE, dLen, dAbs, shL, runF, mkE, slOf, nrm, muOf, okMu, backR, putS, isM, dList, dIsN, dNotN, Dv.isNon, dTup, isStr, Dv.isObj, madeR, mkR, isRefR, ePart, dNeg, dNotB, seqD, dTx, Is.fl, Is.bind, Dv.zipO, zipD, enumD, dSl, iMap, hIf, hIs, hRetL, hCons, hFl, hNil, chD, eqPy, pyD, pyL, SeqAt.shaped, PyData.eqv, PyData.eqvAll, PyData.canLay0, PyData.canLayAll0, PyData.depth, PyData.depthAll] at h2 h3 ⊢
      unfold wS at h1 h2 ⊢
      simp [rdv, dI2, dCmp, blD, fnF, okKp, kpL, intO, rdL, dInt, dAdd, outE, dLen, dAbs, shL, runF, mkE, slOf, nrm, muOf, okMu, backR, putS, isM, dList, dIsN, dNotN, Dv.isNon, dTup, isStr, Dv.isObj, madeR, mkR, isRefR, ePart, dNeg, dNotB, seqD, dTx, Is.fl, Is.bind, Dv.zipO, zipD, enumD, dSl, iMap, hIf, hIs, hRetL, hCons, hFl, hNil, h1, h2, h3]
    | false =>
      have h2 : PyData.canLay0 (.str (S wA)) = true := by decide +kernel
      simp [rdv, dI2, dCmp, blD, fnF, okKp, kpL, intO, rdL, dInt, dAdd, outE, dLen, dAbs, shL, runF, mkE, slOf, nrm, muOf, okMu, backR, putS, isM, dList, dIsN, dNotN, Dv.isNon, dTup, isStr, Dv.isObj, madeR, mkR, isRefR, ePart, dNeg, dNotB, seqD, dTx, Is.fl, Is.bind, Dv.zipO, zipD, enumD, dSl, iMap, hIf, hIs, hRetL, hCons, hFl, hNil, chD, eqPy, pyD, pyL, SeqAt.shaped, PyData.eqv, PyData.eqvAll, PyData.canLay0, PyData.canLayAll0, PyData.depth, PyData.depthAll, wA] at h2 ⊢
      simp [rdv, dI2, dCmp, blD, fnF, okKp, kpL, intO, rdL, dInt, dAdd, outE, dLen, dAbs, shL, runF, mkE, slOf, nrm, muOf, okMu, backR, putS, isM, dList, dIsN, dNotN, Dv.isNon, dTup, isStr, Dv.isObj, madeR, mkR, isRefR, ePart, dNeg, dNotB, seqD, dTx, Is.fl, Is.bind, Dv.zipO, zipD, enumD, dSl, iMap, hIf, hIs, hRetL, hCons, hFl, hNil, h2]
      by_cases z : n = 0 <;> simp [rdv, dI2, dCmp, blD, fnF, okKp, kpL, intO, rdL, dInt, dAdd, outE, dLen, dAbs, shL, runF, mkE, slOf, nrm, muOf, okMu, backR, putS, isM, dList, dIsN, dNotN, Dv.isNon, dTup, isStr, Dv.isObj, madeR, mkR, isRefR, ePart, dNeg, dNotB, seqD, dTx, Is.fl, Is.bind, Dv.zipO, zipD, enumD, dSl, iMap, hIf, hIs, hRetL, hCons, hFl, hNil, z]
  unfold dNe
  rw [e]
  by_cases z : (b, n) = (false, 0) <;> simp [rdv, dI2, dCmp, blD, fnF, okKp, kpL, intO, rdL, dInt, dAdd, outE, dLen, dAbs, shL, runF, mkE, slOf, nrm, muOf, okMu, backR, putS, isM, dList, dIsN, dNotN, Dv.isNon, dTup, isStr, Dv.isObj, madeR, mkR, isRefR, ePart, dNeg, dNotB, seqD, dTx, Is.fl, Is.bind, Dv.zipO, zipD, enumD, dSl, iMap, hIf, hIs, hRetL, hCons, hFl, hNil, z]
theorem r_is_change {x : Bool × Nat} : f_is_change [.sh (chD x)] = .ok (.sh (.bl true)) [.no] := by
  obtain ⟨b, n⟩ := x
  have h1 := r_is_natural (i := (n : Int)) (by omega)
  have l2 : (2 : Nat) ≤ lim := by decide
  unfold f_is_change g_is_change chD
  cases b with
  | true =>
    have h2 : dIn false (.str wS) (.tup [.str [97, 100, 100], .str [115, 101, 116]]) = some (.sh (.bl true)) := rfl
    simp [rdv, dI2, dCmp, blD, fnF, okKp, kpL, intO, rdL, dInt, dAdd, outE, dLen, dAbs, shL, runF, mkE, slOf, nrm, muOf, okMu, backR, putS, isM, dList, dIsN, dNotN, Dv.isNon, dTup, isStr, Dv.isObj, madeR, mkR, isRefR, ePart, dNeg, dNotB, seqD, dTx, Is.fl, Is.bind, Dv.zipO, zipD, enumD, dSl, iMap, hIf, hIs, hRetL, hCons, hFl, hNil, h1, h2, l2]
  | false =>
    have h2 : dIn false (.str wA) (.tup [.str [97, 100, 100], .str [115, 101, 116]]) = some (.sh (.bl true)) := rfl
    simp [rdv, dI2, dCmp, blD, fnF, okKp, kpL, intO, rdL, dInt, dAdd, outE, dLen, dAbs, shL, runF, mkE, slOf, nrm, muOf, okMu, backR, putS, isM, dList, dIsN, dNotN, Dv.isNon, dTup, isStr, Dv.isObj, madeR, mkR, isRefR, ePart, dNeg, dNotB, seqD, dTx, Is.fl, Is.bind, Dv.zipO, zipD, enumD, dSl, iMap, hIf, hIs, hRetL, hCons, hFl, hNil, h1, h2, l2]
theorem r_Action_init {ks : List (List Nat)} {h : Hm} (hl : ks.length ≤ 63) (nd : ks.Nodup) (hn : ∀ k ∈ ks, nameL k = true) : f_Action_init [.ow (.obj 0 []), .bo (.dct (ks.map fun n => (D.str n, chD (h n))))] = .ok (.sh .non) [.ow (acD ks h), .no] := by
  obtain ⟨z, hz⟩ := forL_chk (tg := tgN 2) (f := b0_Action_init) (fun (z : Sl) => [.ow (.obj 0 []), .bo (.dct (ks.map fun n => (D.str n, chD (h n)))), z]) D.str (sortT ks) .no (fun x hx z => ⟨_, .sh (.str x), rfl, by
    have hm := mem_sort.mp hx
    have h3 : dIx (.dct (ks.map fun n => (D.str n, chD (h n)))) (.str x) = some (.sh (chD (h x))) := dIx_map (F := fun n => chD (h n)) hm
    have h4 := r_is_name (hn x hm)
    have h5 := r_is_change (x := h x)
    unfold b0_Action_init
    unfold chD at h3 h5 ⊢
    simp [rdv, dI2, dCmp, blD, fnF, okKp, kpL, intO, rdL, dInt, dAdd, outE, dLen, dAbs, shL, runF, mkE, slOf, nrm, muOf, okMu, backR, putS, isM, dList, dIsN, dNotN, Dv.isNon, dTup, isStr, Dv.isObj, madeR, mkR, isRefR, ePart, dNeg, dNotB, seqD, dTx, Is.fl, Is.bind, Dv.zipO, zipD, enumD, dSl, iMap, hIf, hIs, hRetL, hCons, hFl, hNil, h3, h4, h5]⟩)
  have s1 : dSort [.dct (ks.map fun n => (D.str n, chD (h n)))] = _ := dSort_dct (F := fun n => chD (h n)) (l := ks) (by omega)
  have l1 : (sortT ks).length ≤ lim := by rw [sort_len]; exact Nat.le_trans hl (by decide)
  generalize hX : (ks.map fun n => (D.str n, chD (h n))) = X at hz s1 ⊢
  have d1 := fun y => dc_map (src := iSeq (eCB dSort (aCons (eVar 1) aNil))) (tg := tgN 2) (test := eTest (eOp2 dNe (eOp2 dIx (eVar 1) (eVar 2)) (eTup (aCons (eTk (eC (.str [97, 100, 100]))) (aCons (eTk (eC (.int 0))) aNil))))) (ek := eVar 2) (ev := eOp2 dIx (eVar 1) (eVar 2)) (vs := [2]) (e := [.ow (.obj 0 []), .bo (.dct X), y]) (e1 := [.ow (.obj 0 []), .bo (.dct X), y]) (e0 := [.ow (.obj 0 []), .bo (.dct X), .no]) (xs := sortT ks) D.str (nz h) id (fun n => chD (h n))
    (by simp [rdv, dI2, dCmp, blD, fnF, okKp, kpL, intO, rdL, dInt, dAdd, outE, dLen, dAbs, shL, runF, mkE, slOf, nrm, muOf, okMu, backR, putS, isM, dList, dIsN, dNotN, Dv.isNon, dTup, isStr, Dv.isObj, madeR, mkR, isRefR, ePart, dNeg, dNotB, seqD, dTx, Is.fl, Is.bind, Dv.zipO, zipD, enumD, dSl, iMap, hIf, hIs, hRetL, hCons, hFl, hNil, s1]) rfl l1 (by rw [List.map_id]; exact sort_nd nd)
    (fun x hx => ⟨[.ow (.obj 0 []), .bo (.dct X), .sh (.str x)], rfl, by
      have h3 : dIx (.dct X) (.str x) = some (.sh (chD (h x))) := by rw [← hX]; exact dIx_map (F := fun n => chD (h n)) (mem_sort.mp hx)
      have h4 := dNe_ch (x := h x)
      have l2 : (2 : Nat) ≤ lim := by decide
      simp [rdv, dI2, dCmp, blD, fnF, okKp, kpL, intO, rdL, dInt, dAdd, outE, dLen, dAbs, shL, runF, mkE, slOf, nrm, muOf, okMu, backR, putS, isM, dList, dIsN, dNotN, Dv.isNon, dTup, isStr, Dv.isObj, madeR, mkR, isRefR, ePart, dNeg, dNotB, seqD, dTx, Is.fl, Is.bind, Dv.zipO, zipD, enumD, dSl, iMap, hIf, hIs, hRetL, hCons, hFl, hNil, h3, h4, l2, nz], rfl, fun _ => ⟨by simp [rdv, dI2, dCmp, blD, fnF, okKp, kpL, intO, rdL, dInt, dAdd, outE, dLen, dAbs, shL, runF, mkE, slOf, nrm, muOf, okMu, backR, putS, isM, dList, dIsN, dNotN, Dv.isNon, dTup, isStr, Dv.isObj, madeR, mkR, isRefR, ePart, dNeg, dNotB, seqD, dTx, Is.fl, Is.bind, Dv.zipO, zipD, enumD, dSl, iMap, hIf, hIs, hRetL, hCons, hFl, hNil], by
      have h3 : dIx (.dct X) (.str x) = some (.sh (chD (h x))) := by rw [← hX]; exact dIx_map (F := fun n => chD (h n)) (mem_sort.mp hx)
      simp [rdv, dI2, dCmp, blD, fnF, okKp, kpL, intO, rdL, dInt, dAdd, outE, dLen, dAbs, shL, runF, mkE, slOf, nrm, muOf, okMu, backR, putS, isM, dList, dIsN, dNotN, Dv.isNon, dTup, isStr, Dv.isObj, madeR, mkR, isRefR, ePart, dNeg, dNotB, seqD, dTx, Is.fl, Is.bind, Dv.zipO, zipD, enumD, dSl, iMap, hIf, hIs, hRetL, hCons, hFl, hNil, h3]⟩⟩)
  simp only [id] at d1
  unfold f_Action_init g_Action_init acD
  generalize ((sortT ks).filter (nz h)).map (fun n => (D.str n, chD (h n))) = Y at *
  simp [rdv, dI2, dCmp, blD, fnF, okKp, kpL, intO, rdL, dInt, dAdd, outE, dLen, dAbs, shL, runF, mkE, slOf, nrm, muOf, okMu, backR, putS, isM, dList, dIsN, dNotN, Dv.isNon, dTup, isStr, Dv.isObj, madeR, mkR, isRefR, ePart, dNeg, dNotB, seqD, dTx, Is.fl, Is.bind, Dv.zipO, zipD, enumD, dSl, iMap, hIf, hIs, hRetL, hCons, hFl, hNil, s1, hz, d1]
theorem r_changed {x : Bool × Nat} {v : Nat} : f_changed [.sh (.int (v : Int)), .sh (chD x)] = .ok (.sh (.int (appH x v : Nat))) [.no, .no] := by
  obtain ⟨b, n⟩ := x
  unfold f_changed g_changed chD appH
  cases b with
  | true => simp [rdv, dI2, dCmp, blD, fnF, okKp, kpL, intO, rdL, dInt, dAdd, outE, dLen, dAbs, shL, runF, mkE, slOf, nrm, muOf, okMu, backR, putS, isM, dList, dIsN, dNotN, Dv.isNon, dTup, isStr, Dv.isObj, madeR, mkR, isRefR, ePart, dNeg, dNotB, seqD, dTx, Is.fl, Is.bind, Dv.zipO, zipD, enumD, dSl, iMap, hIf, hIs, hRetL, hCons, hFl, hNil, wS]
  | false => simp [rdv, dI2, dCmp, blD, fnF, okKp, kpL, intO, rdL, dInt, dAdd, outE, dLen, dAbs, shL, runF, mkE, slOf, nrm, muOf, okMu, backR, putS, isM, dList, dIsN, dNotN, Dv.isNon, dTup, isStr, Dv.isObj, madeR, mkR, isRefR, ePart, dNeg, dNotB, seqD, dTx, Is.fl, Is.bind, Dv.zipO, zipD, enumD, dSl, iMap, hIf, hIs, hRetL, hCons, hFl, hNil, wA]
def AcOk (ns : List (List Nat)) (h : Hm) : Prop := ∀ n, n ∉ ns → h n = (false, 0)
theorem getD_ac {ns : List (List Nat)} {h : Hm} (hz : AcOk ns h) {n : List Nat} : (getD (((sortT ns).filter (nz h)).map fun n => (D.str n, chD (h n))) (.str n)).getD (.tup [.str [97, 100, 100], .int 0]) = chD (h n) := by
  rw [getD_map (F := fun n => chD (h n))]
  by_cases q : n ∈ (sortT ns).filter (nz h)
  · rw [if_pos q]; rfl
  · rw [if_neg q]
    have : h n = (false, 0) := by
      by_cases w : n ∈ ns
      · rw [List.mem_filter, mem_sort] at q
        have : ¬ nz h n = true := fun z => q ⟨w, z⟩
        unfold nz at this
        simpa [rdv, dI2, dCmp, blD, fnF, okKp, kpL, intO, rdL, dInt, dAdd, outE, dLen, dAbs, shL, runF, mkE, slOf, nrm, muOf, okMu, backR, putS, isM, dList, dIsN, dNotN, Dv.isNon, dTup, isStr, Dv.isObj, madeR, mkR, isRefR, ePart, dNeg, dNotB, seqD, dTx, Is.fl, Is.bind, Dv.zipO, zipD, enumD, dSl, iMap, hIf, hIs, hRetL, hCons, hFl, hNil] using this
      · exact hz n w
    rw [this]
    rfl
theorem r_Action_of {ns ks : List (List Nat)} {h : Hm} {v : List Nat → Nat} (hz : AcOk ns h) (hl : ks.length ≤ 63) (nd : ks.Nodup) : f_Action_of [.bo (acD ns h), .bo (.dct (ks.map fun n => (D.str n, D.int (v n : Int))))] = .ok (.ow (.dct (ks.map fun n => (D.str n, D.int (appH (h n) (v n) : Nat))))) [.no, .no] := by
  obtain ⟨z, hz1⟩ := forL_chk (tg := tgN 2) (f := b0_Action_of) (fun (z : Sl) => [.bo (acD ns h), .bo (.dct (ks.map fun n => (D.str n, D.int (v n : Int)))), z]) D.str (sortT ks) .no (fun x hx z => ⟨_, .sh (.str x), rfl, by
    have hm := mem_sort.mp hx
    have h3 : dIx (.dct (ks.map fun n => (D.str n, D.int (v n : Int)))) (.str x) = some (.sh (.int (v x : Int))) := dIx_map hm
    have h5 := r_is_natural (i := (v x : Int)) (by omega)
    unfold b0_Action_of
    simp [rdv, dI2, dCmp, blD, fnF, okKp, kpL, intO, rdL, dInt, dAdd, outE, dLen, dAbs, shL, runF, mkE, slOf, nrm, muOf, okMu, backR, putS, isM, dList, dIsN, dNotN, Dv.isNon, dTup, isStr, Dv.isObj, madeR, mkR, isRefR, ePart, dNeg, dNotB, seqD, dTx, Is.fl, Is.bind, Dv.zipO, zipD, enumD, dSl, iMap, hIf, hIs, hRetL, hCons, hFl, hNil, h3, h5]⟩)
  have s1 : dSort [.dct (ks.map fun n => (D.str n, D.int (v n : Int)))] = _ := dSort_dct (F := fun n => D.int (v n : Int)) (l := ks) (by omega)
  have d1 : eDcK (fun ds => ds.map (·.1)) (vVar 1) (tgN 2) (eBl true) (eVar 2) (eCall [.bo, .bo] (fun e => noX (f_changed e)) (aCons (eOp2 dIx (eVar 1) (eVar 2)) (aCons (eGet2 (eFld 0 0 (eVar 0)) (eVar 2) (eTup (aCons (eTk (eC (.str [97, 100, 100]))) (aCons (eTk (eC (.int 0))) aNil)))) aNil))) [2] [.bo (acD ns h), .bo (.dct (ks.map fun n => (D.str n, D.int (v n : Int)))), z] = .ok (.ow (.dct (ks.map fun n => (D.str n, D.int (appH (h n) (v n) : Nat))))) [.bo (acD ns h), .bo (.dct (ks.map fun n => (D.str n, D.int (v n : Int)))), .no] := by
    have := dcK_map (pr := fun ds => ds.map (·.1)) (x := vVar 1) (tg := tgN 2) (test := eBl true) (ek := eVar 2) (ev := eCall [.bo, .bo] (fun e => noX (f_changed e)) (aCons (eOp2 dIx (eVar 1) (eVar 2)) (aCons (eGet2 (eFld 0 0 (eVar 0)) (eVar 2) (eTup (aCons (eTk (eC (.str [97, 100, 100]))) (aCons (eTk (eC (.int 0))) aNil)))) aNil))) (vs := [2]) (e := [.bo (acD ns h), .bo (.dct (ks.map fun n => (D.str n, D.int (v n : Int)))), z]) (e0 := [.bo (acD ns h), .bo (.dct (ks.map fun n => (D.str n, D.int (v n : Int)))), .no]) (xs := ks) D.str (fun _ => true) id (fun n => D.int (appH (h n) (v n) : Nat)) rfl (by rw [List.map_map]; rfl) rfl (Nat.le_trans hl (by decide)) (by rw [List.map_id]; exact nd)
      (fun x hx => ⟨_, rfl, rfl, rfl, fun _ => ⟨by simp [rdv, dI2, dCmp, blD, fnF, okKp, kpL, intO, rdL, dInt, dAdd, outE, dLen, dAbs, shL, runF, mkE, slOf, nrm, muOf, okMu, backR, putS, isM, dList, dIsN, dNotN, Dv.isNon, dTup, isStr, Dv.isObj, madeR, mkR, isRefR, ePart, dNeg, dNotB, seqD, dTx, Is.fl, Is.bind, Dv.zipO, zipD, enumD, dSl, iMap, hIf, hIs, hRetL, hCons, hFl, hNil], by
        have h3 : dIx (.dct (ks.map fun n => (D.str n, D.int (v n : Int)))) (.str x) = some (.sh (.int (v x : Int))) := dIx_map hx
        have h4 := r_changed (x := h x) (v := v x)
        have h5 := getD_ac hz (n := x)
        have l2 : (2 : Nat) ≤ lim := by decide
        unfold acD
        obtain ⟨g, hg⟩ : ∃ g, getD (((sortT ns).filter (nz h)).map fun n => (D.str n, chD (h n))) (.str x) = g := ⟨_, rfl⟩
        rw [hg] at h5
        have h6 : chD (h x) = .tup [.str (if (h x).1 = true then wS else wA), .int ((h x).2 : Int)] := rfl
        rw [h6] at h4 h5
        generalize (if (h x).1 = true then wS else wA) = w at h4 h5
        simp [rdv, dI2, dCmp, blD, fnF, okKp, kpL, intO, rdL, dInt, dAdd, outE, dLen, dAbs, shL, runF, mkE, slOf, nrm, muOf, okMu, backR, putS, isM, dList, dIsN, dNotN, Dv.isNon, dTup, isStr, Dv.isObj, madeR, mkR, isRefR, ePart, dNeg, dNotB, seqD, dTx, Is.fl, Is.bind, Dv.zipO, zipD, enumD, dSl, iMap, hIf, hIs, hRetL, hCons, hFl, hNil, h3, l2, hg, h5, h4]⟩⟩)
    rw [filt_true] at this
    exact this
  unfold f_Action_of g_Action_of
  simp [rdv, dI2, dCmp, blD, fnF, okKp, kpL, intO, rdL, dInt, dAdd, outE, dLen, dAbs, shL, runF, mkE, slOf, nrm, muOf, okMu, backR, putS, isM, dList, dIsN, dNotN, Dv.isNon, dTup, isStr, Dv.isObj, madeR, mkR, isRefR, ePart, dNeg, dNotB, seqD, dTx, Is.fl, Is.bind, Dv.zipO, zipD, enumD, dSl, iMap, hIf, hIs, hRetL, hCons, hFl, hNil, s1, hz1, d1]
end Pt
namespace Pt
open PySem PySem.Spec PyProof.Rows L2 Dv
open SX (S S_len S_cat)
/-! one action and then the other -/
def insK (K : List (List Nat)) (c : List Nat) : List (List Nat) := if c ∈ K then K else K ++ [c]
theorem putD_map {K : List (List Nat)} {F : List Nat → D} {c : List Nat} {v : D} : putD (K.map fun n => (D.str n, F n)) (.str c) v = (insK K c).map fun n => (D.str n, if n = c then v else F n) := by
  have e1 : ((K.map fun n => (D.str n, F n)).any fun kv => eqK kv.1 (.str c)) = decide (c ∈ K) := by
    rw [List.any_map]
    have : ((fun kv : D × D => eqK kv.1 (D.str c)) ∘ fun n => (D.str n, F n)) = fun n => decide (n = c) := rfl
    rw [this]
    induction K with
    | nil => rfl
    | cons x K ih =>
      rw [List.any_cons, ih]
      by_cases h : x = c
      · subst h; simp [rdv, dI2, dCmp, blD, fnF, okKp, kpL, intO, rdL, dInt, dAdd, outE, dLen, dAbs, shL, runF, mkE, slOf, nrm, muOf, okMu, backR, putS, isM, dList, dIsN, dNotN, Dv.isNon, dTup, isStr, Dv.isObj, madeR, mkR, isRefR, ePart, dNeg, dNotB, seqD, dTx, Is.fl, Is.bind, Dv.zipO, zipD, enumD, dSl, iMap, hIf, hIs, hRetL, hCons, hFl, hNil]
      · by_cases h2 : c ∈ K <;> simp [rdv, dI2, dCmp, blD, fnF, okKp, kpL, intO, rdL, dInt, dAdd, outE, dLen, dAbs, shL, runF, mkE, slOf, nrm, muOf, okMu, backR, putS, isM, dList, dIsN, dNotN, Dv.isNon, dTup, isStr, Dv.isObj, madeR, mkR, isRefR, ePart, dNeg, dNotB, seqD, dTx, Is.fl, Is.bind, Dv.zipO, zipD, enumD, dSl, iMap, hIf, hIs, hRetL, hCons, hFl, hNil, h, h2, Ne.symm h]
  unfold putD insK
  rw [e1]
  by_cases h : c ∈ K
  · rw [if_pos (decide_eq_true h), if_pos h, List.map_map]
    apply List.map_congr_left
    intro n _
    show (if eqK (.str n) (.str c) = true then (D.str n, v) else (D.str n, F n)) = _
    by_cases z : n = c
    · rw [if_pos (show eqK (D.str n) (D.str c) = true from decide_eq_true z), if_pos z]
    · rw [if_neg (show ¬ eqK (D.str n) (D.str c) = true from fun w => z (of_decide_eq_true w)), if_neg z]
  · rw [if_neg (by simp [rdv, dI2, dCmp, blD, fnF, okKp, kpL, intO, rdL, dInt, dAdd, outE, dLen, dAbs, shL, runF, mkE, slOf, nrm, muOf, okMu, backR, putS, isM, dList, dIsN, dNotN, Dv.isNon, dTup, isStr, Dv.isObj, madeR, mkR, isRefR, ePart, dNeg, dNotB, seqD, dTx, Is.fl, Is.bind, Dv.zipO, zipD, enumD, dSl, iMap, hIf, hIs, hRetL, hCons, hFl, hNil, h]), if_neg h, List.map_append]
    congr 1
    · apply List.map_congr_left
      intro n hn
      rw [if_neg (fun z : n = c => h (by rw [← z]; exact hn))]
    · simp [rdv, dI2, dCmp, blD, fnF, okKp, kpL, intO, rdL, dInt, dAdd, outE, dLen, dAbs, shL, runF, mkE, slOf, nrm, muOf, okMu, backR, putS, isM, dList, dIsN, dNotN, Dv.isNon, dTup, isStr, Dv.isObj, madeR, mkR, isRefR, ePart, dNeg, dNotB, seqD, dTx, Is.fl, Is.bind, Dv.zipO, zipD, enumD, dSl, iMap, hIf, hIs, hRetL, hCons, hFl, hNil]
theorem insK_nd {K : List (List Nat)} {c : List Nat} (h : K.Nodup) : (insK K c).Nodup := by
  unfold insK
  by_cases q : c ∈ K
  · rw [if_pos q]; exact h
  · rw [if_neg q]
    rw [List.nodup_append]
    exact ⟨h, by simp [rdv, dI2, dCmp, blD, fnF, okKp, kpL, intO, rdL, dInt, dAdd, outE, dLen, dAbs, shL, runF, mkE, slOf, nrm, muOf, okMu, backR, putS, isM, dList, dIsN, dNotN, Dv.isNon, dTup, isStr, Dv.isObj, madeR, mkR, isRefR, ePart, dNeg, dNotB, seqD, dTx, Is.fl, Is.bind, Dv.zipO, zipD, enumD, dSl, iMap, hIf, hIs, hRetL, hCons, hFl, hNil], fun a ha b hb z => q (by rw [List.mem_singleton] at hb; rw [← hb, ← z]; exact ha)⟩
theorem insK_mem {K : List (List Nat)} {c n : List Nat} : n ∈ insK K c ↔ n ∈ K ∨ n = c := by
  unfold insK
  by_cases q : c ∈ K
  · rw [if_pos q]
    exact ⟨.inl, fun h => h.elim id fun z => by rw [z]; exact q⟩
  · rw [if_neg q]; simp [rdv, dI2, dCmp, blD, fnF, okKp, kpL, intO, rdL, dInt, dAdd, outE, dLen, dAbs, shL, runF, mkE, slOf, nrm, muOf, okMu, backR, putS, isM, dList, dIsN, dNotN, Dv.isNon, dTup, isStr, Dv.isObj, madeR, mkR, isRefR, ePart, dNeg, dNotB, seqD, dTx, Is.fl, Is.bind, Dv.zipO, zipD, enumD, dSl, iMap, hIf, hIs, hRetL, hCons, hFl, hNil]
theorem insK_len {K : List (List Nat)} {c : List Nat} : (insK K c).length ≤ K.length + 1 := by
  unfold insK
  by_cases q : c ∈ K <;> simp [rdv, dI2, dCmp, blD, fnF, okKp, kpL, intO, rdL, dInt, dAdd, outE, dLen, dAbs, shL, runF, mkE, slOf, nrm, muOf, okMu, backR, putS, isM, dList, dIsN, dNotN, Dv.isNon, dTup, isStr, Dv.isObj, madeR, mkR, isRefR, ePart, dNeg, dNotB, seqD, dTx, Is.fl, Is.bind, Dv.zipO, zipD, enumD, dSl, iMap, hIf, hIs, hRetL, hCons, hFl, hNil, q]
theorem r_one_and_then {k1 k2 : List (List Nat)} {h1 h2 : Hm} (l1 : k1.length ≤ 100) (l2 : k2.length ≤ 100) (z1 : AcOk k1 h1) (z2 : AcOk k2 h2) (n1 : k1.Nodup) : ∃ K : List (List Nat), K.Nodup ∧ K.length ≤ k1.length + k2.length ∧ (∀ n, n ∈ K ↔ n ∈ k1 ∨ n ∈ k2) ∧
    f_one_and_then [.bo (.dct (k1.map fun n => (D.str n, chD (h1 n)))), .bo (.dct (k2.map fun n => (D.str n, chD (h2 n))))] = .ok (.ow (.dct (K.map fun n => (D.str n, chD (compH h1 h2 n))))) [.no, .no] := by
  obtain ⟨e', h3, K, g, s3, s4, s5, rfl, q1, q2, q3, q4⟩ := forL_inv (tg := tgTup (tgCons (tgN 3) (tgCons (tgTup (tgCons (tgN 4) (tgCons (tgN 5) tgNil))) tgNil))) (f := b0_one_and_then)
    (fun i e => ∃ (K : List (List Nat)) (g : Hm) (s3 s4 s5 : Sl), e = [.bo (.dct (k1.map fun n => (D.str n, chD (h1 n)))), .bo (.dct (k2.map fun n => (D.str n, chD (h2 n)))), .ow (.dct (K.map fun n => (D.str n, chD (g n)))), s3, s4, s5] ∧ K.Nodup ∧ K.length ≤ k1.length + i ∧ (∀ n, n ∈ K ↔ n ∈ k1 ∨ n ∈ k2.take i) ∧ ∀ n ∈ K, g n = if n ∈ k2.take i then compH h1 h2 n else h1 n)
    (k2.map fun n => D.tup [.str n, chD (h2 n)]) 0 [.bo (.dct (k1.map fun n => (D.str n, chD (h1 n)))), .bo (.dct (k2.map fun n => (D.str n, chD (h2 n)))), .ow (.dct (k1.map fun n => (D.str n, chD (h1 n)))), .no, .no, .no]
    (fun i d e hi ⟨K, g, s3, s4, s5, he, q1, q2, q3, q4⟩ => by
      subst he
      rw [Nat.zero_add] at q2 q3 q4
      rw [List.getElem?_map] at hi
      obtain ⟨c, hc, rfl⟩ := Option.map_eq_some_iff.mp hi
      have hi2 : i < k2.length := (List.getElem?_eq_some_iff.mp hc).1
      have hl : (K.map fun n => (D.str n, chD (g n))).length < lim := by
        rw [List.length_map]
        have : (1000 : Nat) < lim := by decide
        omega
      have hp := putD_map (K := K) (F := fun n => chD (g n)) (c := c) (v := chD (compH h1 h2 c))
      have hin : dIn false (.str c) (.dct (k1.map fun n => (D.str n, chD (h1 n)))) = some (.sh (.bl (decide (c ∈ k1)))) := dIn_map (F := fun n => chD (h1 n))
      have lt : (2 : Nat) ≤ lim := by decide
      refine ⟨_, [.bo (.dct (k1.map fun n => (D.str n, chD (h1 n)))), .bo (.dct (k2.map fun n => (D.str n, chD (h2 n)))), .ow (.dct ((insK K c).map fun n => (D.str n, chD (if n = c then compH h1 h2 c else g n)))), .sh (.str c), .sh (.str (if (h2 c).1 = true then wS else wA)), .sh (.int ((h2 c).2 : Int))], rfl, .inl ?_, insK K c, fun n => if n = c then compH h1 h2 c else g n, _, _, _, rfl, insK_nd q1, ?_, fun n => ?_, fun n hn => ?_⟩
      · have e1 : (insK K c).map (fun n => (D.str n, if n = c then chD (compH h1 h2 c) else chD (g n))) = (insK K c).map fun n => (D.str n, chD (if n = c then compH h1 h2 c else g n)) := by
          apply List.map_congr_left
          intro n _
          by_cases z : n = c <;> simp [rdv, dI2, dCmp, blD, fnF, okKp, kpL, intO, rdL, dInt, dAdd, outE, dLen, dAbs, shL, runF, mkE, slOf, nrm, muOf, okMu, backR, putS, isM, dList, dIsN, dNotN, Dv.isNon, dTup, isStr, Dv.isObj, madeR, mkR, isRefR, ePart, dNeg, dNotB, seqD, dTx, Is.fl, Is.bind, Dv.zipO, zipD, enumD, dSl, iMap, hIf, hIs, hRetL, hCons, hFl, hNil, z]
        rw [e1] at hp
        generalize (insK K c).map (fun n => (D.str n, chD (if n = c then compH h1 h2 c else g n))) = W' at hp ⊢
        generalize (K.map fun n => (D.str n, chD (g n))) = W at hp hl ⊢
        unfold b0_one_and_then
        unfold compH at hp
        by_cases hb : (h2 c).1 = true
        · rw [if_pos hb] at hp
          unfold chD at hp
          simp [rdv, dI2, dCmp, blD, fnF, okKp, kpL, intO, rdL, dInt, dAdd, outE, dLen, dAbs, shL, runF, mkE, slOf, nrm, muOf, okMu, backR, putS, isM, dList, dIsN, dNotN, Dv.isNon, dTup, isStr, Dv.isObj, madeR, mkR, isRefR, ePart, dNeg, dNotB, seqD, dTx, Is.fl, Is.bind, Dv.zipO, zipD, enumD, dSl, iMap, hIf, hIs, hRetL, hCons, hFl, hNil, hb] at hp
          simp [rdv, dI2, dCmp, blD, fnF, okKp, kpL, intO, rdL, dInt, dAdd, outE, dLen, dAbs, shL, runF, mkE, slOf, nrm, muOf, okMu, backR, putS, isM, dList, dIsN, dNotN, Dv.isNon, dTup, isStr, Dv.isObj, madeR, mkR, isRefR, ePart, dNeg, dNotB, seqD, dTx, Is.fl, Is.bind, Dv.zipO, zipD, enumD, dSl, iMap, hIf, hIs, hRetL, hCons, hFl, hNil, hb, wS, lt, hl] at hp ⊢
          simp [rdv, dI2, dCmp, blD, fnF, okKp, kpL, intO, rdL, dInt, dAdd, outE, dLen, dAbs, shL, runF, mkE, slOf, nrm, muOf, okMu, backR, putS, isM, dList, dIsN, dNotN, Dv.isNon, dTup, isStr, Dv.isObj, madeR, mkR, isRefR, ePart, dNeg, dNotB, seqD, dTx, Is.fl, Is.bind, Dv.zipO, zipD, enumD, dSl, iMap, hIf, hIs, hRetL, hCons, hFl, hNil, hp]
        · rw [if_neg hb] at hp
          unfold chD at hp
          by_cases hk : c ∈ k1
          · have hx : dIx (.dct (k1.map fun n => (D.str n, chD (h1 n)))) (.str c) = some (.sh (.tup [.str (if (h1 c).1 = true then wS else wA), .int ((h1 c).2 : Int)])) := dIx_map (F := fun n => chD (h1 n)) hk
            simp [rdv, dI2, dCmp, blD, fnF, okKp, kpL, intO, rdL, dInt, dAdd, outE, dLen, dAbs, shL, runF, mkE, slOf, nrm, muOf, okMu, backR, putS, isM, dList, dIsN, dNotN, Dv.isNon, dTup, isStr, Dv.isObj, madeR, mkR, isRefR, ePart, dNeg, dNotB, seqD, dTx, Is.fl, Is.bind, Dv.zipO, zipD, enumD, dSl, iMap, hIf, hIs, hRetL, hCons, hFl, hNil] at hp
            generalize (if (h1 c).1 = true then wS else wA) = w at hp hx
            simp [rdv, dI2, dCmp, blD, fnF, okKp, kpL, intO, rdL, dInt, dAdd, outE, dLen, dAbs, shL, runF, mkE, slOf, nrm, muOf, okMu, backR, putS, isM, dList, dIsN, dNotN, Dv.isNon, dTup, isStr, Dv.isObj, madeR, mkR, isRefR, ePart, dNeg, dNotB, seqD, dTx, Is.fl, Is.bind, Dv.zipO, zipD, enumD, dSl, iMap, hIf, hIs, hRetL, hCons, hFl, hNil, hb, wA, hin, hk, hx, lt, hl, hp]
          · rw [z1 c hk] at hp
            simp [rdv, dI2, dCmp, blD, fnF, okKp, kpL, intO, rdL, dInt, dAdd, outE, dLen, dAbs, shL, runF, mkE, slOf, nrm, muOf, okMu, backR, putS, isM, dList, dIsN, dNotN, Dv.isNon, dTup, isStr, Dv.isObj, madeR, mkR, isRefR, ePart, dNeg, dNotB, seqD, dTx, Is.fl, Is.bind, Dv.zipO, zipD, enumD, dSl, iMap, hIf, hIs, hRetL, hCons, hFl, hNil, wA] at hp
            simp [rdv, dI2, dCmp, blD, fnF, okKp, kpL, intO, rdL, dInt, dAdd, outE, dLen, dAbs, shL, runF, mkE, slOf, nrm, muOf, okMu, backR, putS, isM, dList, dIsN, dNotN, Dv.isNon, dTup, isStr, Dv.isObj, madeR, mkR, isRefR, ePart, dNeg, dNotB, seqD, dTx, Is.fl, Is.bind, Dv.zipO, zipD, enumD, dSl, iMap, hIf, hIs, hRetL, hCons, hFl, hNil, hb, wA, hin, hk, lt, hl, hp]
      · have := insK_len (K := K) (c := c)
        omega
      · rw [insK_mem, q3, Nat.zero_add, List.take_add_one, hc]
        simp [rdv, dI2, dCmp, blD, fnF, okKp, kpL, intO, rdL, dInt, dAdd, outE, dLen, dAbs, shL, runF, mkE, slOf, nrm, muOf, okMu, backR, putS, isM, dList, dIsN, dNotN, Dv.isNon, dTup, isStr, Dv.isObj, madeR, mkR, isRefR, ePart, dNeg, dNotB, seqD, dTx, Is.fl, Is.bind, Dv.zipO, zipD, enumD, dSl, iMap, hIf, hIs, hRetL, hCons, hFl, hNil]
        constructor
        · rintro ((h | h) | h) <;> simp [rdv, dI2, dCmp, blD, fnF, okKp, kpL, intO, rdL, dInt, dAdd, outE, dLen, dAbs, shL, runF, mkE, slOf, nrm, muOf, okMu, backR, putS, isM, dList, dIsN, dNotN, Dv.isNon, dTup, isStr, Dv.isObj, madeR, mkR, isRefR, ePart, dNeg, dNotB, seqD, dTx, Is.fl, Is.bind, Dv.zipO, zipD, enumD, dSl, iMap, hIf, hIs, hRetL, hCons, hFl, hNil, h]
        · rintro (h | h | h) <;> simp [rdv, dI2, dCmp, blD, fnF, okKp, kpL, intO, rdL, dInt, dAdd, outE, dLen, dAbs, shL, runF, mkE, slOf, nrm, muOf, okMu, backR, putS, isM, dList, dIsN, dNotN, Dv.isNon, dTup, isStr, Dv.isObj, madeR, mkR, isRefR, ePart, dNeg, dNotB, seqD, dTx, Is.fl, Is.bind, Dv.zipO, zipD, enumD, dSl, iMap, hIf, hIs, hRetL, hCons, hFl, hNil, h]
      · rw [Nat.zero_add, List.take_add_one, hc]
        by_cases z : n = c
        · subst z; simp [rdv, dI2, dCmp, blD, fnF, okKp, kpL, intO, rdL, dInt, dAdd, outE, dLen, dAbs, shL, runF, mkE, slOf, nrm, muOf, okMu, backR, putS, isM, dList, dIsN, dNotN, Dv.isNon, dTup, isStr, Dv.isObj, madeR, mkR, isRefR, ePart, dNeg, dNotB, seqD, dTx, Is.fl, Is.bind, Dv.zipO, zipD, enumD, dSl, iMap, hIf, hIs, hRetL, hCons, hFl, hNil]
        · have hn2 : n ∈ K := (insK_mem.mp hn).resolve_right z
          show (if n = c then compH h1 h2 c else g n) = _
          rw [if_neg z, q4 n hn2]
          simp [rdv, dI2, dCmp, blD, fnF, okKp, kpL, intO, rdL, dInt, dAdd, outE, dLen, dAbs, shL, runF, mkE, slOf, nrm, muOf, okMu, backR, putS, isM, dList, dIsN, dNotN, Dv.isNon, dTup, isStr, Dv.isObj, madeR, mkR, isRefR, ePart, dNeg, dNotB, seqD, dTx, Is.fl, Is.bind, Dv.zipO, zipD, enumD, dSl, iMap, hIf, hIs, hRetL, hCons, hFl, hNil, z])
    ⟨k1, h1, .no, .no, .no, rfl, n1, by omega, by simp [rdv, dI2, dCmp, blD, fnF, okKp, kpL, intO, rdL, dInt, dAdd, outE, dLen, dAbs, shL, runF, mkE, slOf, nrm, muOf, okMu, backR, putS, isM, dList, dIsN, dNotN, Dv.isNon, dTup, isStr, Dv.isObj, madeR, mkR, isRefR, ePart, dNeg, dNotB, seqD, dTx, Is.fl, Is.bind, Dv.zipO, zipD, enumD, dSl, iMap, hIf, hIs, hRetL, hCons, hFl, hNil], by simp [rdv, dI2, dCmp, blD, fnF, okKp, kpL, intO, rdL, dInt, dAdd, outE, dLen, dAbs, shL, runF, mkE, slOf, nrm, muOf, okMu, backR, putS, isM, dList, dIsN, dNotN, Dv.isNon, dTup, isStr, Dv.isObj, madeR, mkR, isRefR, ePart, dNeg, dNotB, seqD, dTx, Is.fl, Is.bind, Dv.zipO, zipD, enumD, dSl, iMap, hIf, hIs, hRetL, hCons, hFl, hNil]⟩
  rw [List.length_map, Nat.zero_add] at q2 q3 q4
  rw [List.take_of_length_le (Nat.le_refl _)] at q3 q4
  refine ⟨K, q1, q2, q3, ?_⟩
  have e1 : (K.map fun n => (D.str n, chD (g n))) = K.map fun n => (D.str n, chD (compH h1 h2 n)) := by
    apply List.map_congr_left
    intro n hn
    rw [q4 n hn]
    by_cases z : n ∈ k2
    · rw [if_pos z]
    · rw [if_neg z]
      unfold compH
      rw [z2 n z]
      simp [rdv, dI2, dCmp, blD, fnF, okKp, kpL, intO, rdL, dInt, dAdd, outE, dLen, dAbs, shL, runF, mkE, slOf, nrm, muOf, okMu, backR, putS, isM, dList, dIsN, dNotN, Dv.isNon, dTup, isStr, Dv.isObj, madeR, mkR, isRefR, ePart, dNeg, dNotB, seqD, dTx, Is.fl, Is.bind, Dv.zipO, zipD, enumD, dSl, iMap, hIf, hIs, hRetL, hCons, hFl, hNil]
  rw [e1] at h3
  have h4 : fKeys (fun ds => ds.map fun q => .tup [q.1, q.2]) (vVar 1) (tgTup (tgCons (tgN 3) (tgCons (tgTup (tgCons (tgN 4) (tgCons (tgN 5) tgNil))) tgNil))) b0_one_and_then [.bo (.dct (k1.map fun n => (D.str n, chD (h1 n)))), .bo (.dct (k2.map fun n => (D.str n, chD (h2 n)))), .ow (.dct (k1.map fun n => (D.str n, chD (h1 n)))), .no, .no, .no] = .nx [.bo (.dct (k1.map fun n => (D.str n, chD (h1 n)))), .bo (.dct (k2.map fun n => (D.str n, chD (h2 n)))), .ow (.dct (K.map fun n => (D.str n, chD (compH h1 h2 n)))), s3, s4, s5] := by
    show noXF (forL _ _ ((k2.map fun n => (D.str n, chD (h2 n))).map fun q => D.tup [q.1, q.2]) _) = _
    rw [List.map_map, show ((fun q : D × D => D.tup [q.1, q.2]) ∘ fun n => (D.str n, chD (h2 n))) = fun n => D.tup [.str n, chD (h2 n)] from rfl, h3]
    rfl
  unfold f_one_and_then g_one_and_then
  generalize fKeys (fun ds => ds.map fun q => .tup [q.1, q.2]) (vVar 1) (tgTup (tgCons (tgN 3) (tgCons (tgTup (tgCons (tgN 4) (tgCons (tgN 5) tgNil))) tgNil))) b0_one_and_then = Z at h4
  simp [rdv, dI2, dCmp, blD, fnF, okKp, kpL, intO, rdL, dInt, dAdd, outE, dLen, dAbs, shL, runF, mkE, slOf, nrm, muOf, okMu, backR, putS, isM, dList, dIsN, dNotN, Dv.isNon, dTup, isStr, Dv.isObj, madeR, mkR, isRefR, ePart, dNeg, dNotB, seqD, dTx, Is.fl, Is.bind, Dv.zipO, zipD, enumD, dSl, iMap, hIf, hIs, hRetL, hCons, hFl, hNil, dDict, h4]
end Pt
namespace Pt
open PySem PySem.Spec PyProof.Rows L2 Dv
open SX (S S_len S_cat)
theorem comp_ok {ns : List (List Nat)} {a b : Hm} (ha : AcOk ns a) (hb : AcOk ns b) : AcOk ns (compH a b) := fun n hn => by
  unfold compH
  rw [ha n hn, hb n hn]
  rfl
theorem nz_mem {ns : List (List Nat)} {h : Hm} (z : AcOk ns h) {n : List Nat} (q : nz h n = true) : n ∈ ns := by
  by_cases w : n ∈ ns
  · exact w
  · unfold nz at q
    rw [z n w] at q
    simp [rdv, dI2, dCmp, blD, fnF, okKp, kpL, intO, rdL, dInt, dAdd, outE, dLen, dAbs, shL, runF, mkE, slOf, nrm, muOf, okMu, backR, putS, isM, dList, dIsN, dNotN, Dv.isNon, dTup, isStr, Dv.isObj, madeR, mkR, isRefR, ePart, dNeg, dNotB, seqD, dTx, Is.fl, Is.bind, Dv.zipO, zipD, enumD, dSl, iMap, hIf, hIs, hRetL, hCons, hFl, hNil] at q
theorem acD_eq {ks ns : List (List Nat)} {h : Hm} (nk : ks.Nodup) (nn : ns.Nodup) (zk : AcOk ks h) (zn : AcOk ns h) : acD ks h = acD ns h := by
  unfold acD
  rw [canon_eq (p := nz h) (q := nz h) nk nn fun x => ⟨fun q => ⟨nz_mem zn q.2, q.2⟩, fun q => ⟨nz_mem zk q.2, q.2⟩⟩]
/-- what is known of the counters -/
structure NsOk (ns : List (List Nat)) : Prop where
  nd : ns.Nodup
  len : ns.length ≤ 5
  nm : ∀ n ∈ ns, nameL n = true
theorem make_act {ks ns : List (List Nat)} {h : Hm} (o : NsOk ns) (nk : ks.Nodup) (hs : ∀ k ∈ ks, k ∈ ns) (hl : ks.length ≤ 63) (zk : AcOk ks h) : f_Action_init [.ow (.obj 0 []), .bo (.dct (ks.map fun n => (D.str n, chD (h n))))] = .ok (.sh .non) [.ow (acD ns h), .no] := by
  rw [r_Action_init hl nk fun k hk => o.nm k (hs k hk), acD_eq nk o.nd zk fun n hn => zk n fun q => hn (hs n q)]
theorem r_add {ns : List (List Nat)} {a b : Hm} (o : NsOk ns) (za : AcOk ns a) (zb : AcOk ns b) : f_Action_add [.bo (acD ns a), .bo (acD ns b)] = .ok (.ow (acD ns (compH a b))) [.no, .no] := by
  have f1 : ∀ {h : Hm}, AcOk ns h → AcOk ((sortT ns).filter (nz h)) h := fun {h} z n hn => by
    by_cases w : n ∈ ns
    · have : ¬ nz h n = true := fun q => hn (List.mem_filter.mpr ⟨mem_sort.mpr w, q⟩)
      unfold nz at this
      simpa [rdv, dI2, dCmp, blD, fnF, okKp, kpL, intO, rdL, dInt, dAdd, outE, dLen, dAbs, shL, runF, mkE, slOf, nrm, muOf, okMu, backR, putS, isM, dList, dIsN, dNotN, Dv.isNon, dTup, isStr, Dv.isObj, madeR, mkR, isRefR, ePart, dNeg, dNotB, seqD, dTx, Is.fl, Is.bind, Dv.zipO, zipD, enumD, dSl, iMap, hIf, hIs, hRetL, hCons, hFl, hNil] using this
    · exact z n w
  have len1 : ∀ {h : Hm}, ((sortT ns).filter (nz h)).length ≤ 5 := fun {h} => by
    have := List.length_filter_le (nz h) (sortT ns)
    rw [sort_len] at this
    have := o.len
    omega
  have la := len1 (h := a)
  have lb := len1 (h := b)
  obtain ⟨K, k1, k2, k3, h1⟩ := r_one_and_then (k1 := (sortT ns).filter (nz a)) (k2 := (sortT ns).filter (nz b)) (h1 := a) (h2 := b) (by omega) (by omega) (f1 za) (f1 zb) ((sort_nd o.nd).filter _)
  have sub : ∀ k ∈ K, k ∈ ns := fun k hk => by
    rcases (k3 k).mp hk with h | h <;> exact mem_sort.mp (List.mem_filter.mp h).1
  have h2 := make_act (h := compH a b) o k1 sub (by omega) (fun n hn => by
    have n1 : n ∉ (sortT ns).filter (nz a) := fun q => hn ((k3 n).mpr (.inl q))
    have n2 : n ∉ (sortT ns).filter (nz b) := fun q => hn ((k3 n).mpr (.inr q))
    unfold compH
    rw [f1 za n n1, f1 zb n n2]
    rfl)
  unfold f_Action_add g_Action_add acD at *
  simp [rdv, dI2, dCmp, blD, fnF, okKp, kpL, intO, rdL, dInt, dAdd, outE, dLen, dAbs, shL, runF, mkE, slOf, nrm, muOf, okMu, backR, putS, isM, dList, dIsN, dNotN, Dv.isNon, dTup, isStr, Dv.isObj, madeR, mkR, isRefR, ePart, dNeg, dNotB, seqD, dTx, Is.fl, Is.bind, Dv.zipO, zipD, enumD, dSl, iMap, hIf, hIs, hRetL, hCons, hFl, hNil, h1, h2]
theorem r_act0 {ns : List (List Nat)} (o : NsOk ns) : f_Action_init [.ow (.obj 0 []), .bo (.dct [])] = .ok (.sh .non) [.ow (acD ns zeroH), .no] :=
  make_act (ks := []) (h := zeroH) o List.nodup_nil (fun _ h => nomatch h) (by simp [rdv, dI2, dCmp, blD, fnF, okKp, kpL, intO, rdL, dInt, dAdd, outE, dLen, dAbs, shL, runF, mkE, slOf, nrm, muOf, okMu, backR, putS, isM, dList, dIsN, dNotN, Dv.isNon, dTup, isStr, Dv.isObj, madeR, mkR, isRefR, ePart, dNeg, dNotB, seqD, dTx, Is.fl, Is.bind, Dv.zipO, zipD, enumD, dSl, iMap, hIf, hIs, hRetL, hCons, hFl, hNil]) fun _ _ => rfl
/-! powers -/
def mulH (h : Hm) (t : Nat) : Hm := fun n => if (h n).1 = true then h n else (false, (h n).2 * t)
def powH (h : Hm) (t : Nat) : Hm := if t = 0 then zeroH else mulH h t
theorem mulH_ok {ns : List (List Nat)} {h : Hm} (z : AcOk ns h) (t : Nat) : AcOk ns (mulH h t) := fun n hn => by
  unfold mulH
  rw [z n hn]
  simp [rdv, dI2, dCmp, blD, fnF, okKp, kpL, intO, rdL, dInt, dAdd, outE, dLen, dAbs, shL, runF, mkE, slOf, nrm, muOf, okMu, backR, putS, isM, dList, dIsN, dNotN, Dv.isNon, dTup, isStr, Dv.isObj, madeR, mkR, isRefR, ePart, dNeg, dNotB, seqD, dTx, Is.fl, Is.bind, Dv.zipO, zipD, enumD, dSl, iMap, hIf, hIs, hRetL, hCons, hFl, hNil]
theorem powH_ok {ns : List (List Nat)} {h : Hm} (z : AcOk ns h) (t : Nat) : AcOk ns (powH h t) := by
  unfold powH
  by_cases q : t = 0
  · rw [if_pos q]; exact fun _ _ => rfl
  · rw [if_neg q]; exact mulH_ok z t
theorem powH_one {h : Hm} : powH h 1 = h := by
  funext n
  show mulH h 1 n = h n
  unfold mulH
  by_cases q : (h n).1 = true
  · rw [if_pos q]
  · rw [if_neg q, Nat.mul_one]
    exact Prod.ext (by simpa [rdv, dI2, dCmp, blD, fnF, okKp, kpL, intO, rdL, dInt, dAdd, outE, dLen, dAbs, shL, runF, mkE, slOf, nrm, muOf, okMu, backR, putS, isM, dList, dIsN, dNotN, Dv.isNon, dTup, isStr, Dv.isObj, madeR, mkR, isRefR, ePart, dNeg, dNotB, seqD, dTx, Is.fl, Is.bind, Dv.zipO, zipD, enumD, dSl, iMap, hIf, hIs, hRetL, hCons, hFl, hNil] using (Bool.eq_false_iff.mpr q).symm) rfl
theorem powH_add {h : Hm} {a b : Nat} : compH (powH h a) (powH h b) = powH h (a + b) := by
  funext n
  by_cases q : (h n).1 = true
  · have e : (true, (h n).2) = h n := Prod.ext q.symm rfl
    by_cases qa : a = 0 <;> by_cases qb : b = 0 <;> simp [rdv, dI2, dCmp, blD, fnF, okKp, kpL, intO, rdL, dInt, dAdd, outE, dLen, dAbs, shL, runF, mkE, slOf, nrm, muOf, okMu, backR, putS, isM, dList, dIsN, dNotN, Dv.isNon, dTup, isStr, Dv.isObj, madeR, mkR, isRefR, ePart, dNeg, dNotB, seqD, dTx, Is.fl, Is.bind, Dv.zipO, zipD, enumD, dSl, iMap, hIf, hIs, hRetL, hCons, hFl, hNil, compH, powH, mulH, zeroH, q, qa, qb, e]
  · by_cases qa : a = 0 <;> by_cases qb : b = 0 <;> simp [rdv, dI2, dCmp, blD, fnF, okKp, kpL, intO, rdL, dInt, dAdd, outE, dLen, dAbs, shL, runF, mkE, slOf, nrm, muOf, okMu, backR, putS, isM, dList, dIsN, dNotN, Dv.isNon, dTup, isStr, Dv.isObj, madeR, mkR, isRefR, ePart, dNeg, dNotB, seqD, dTx, Is.fl, Is.bind, Dv.zipO, zipD, enumD, dSl, iMap, hIf, hIs, hRetL, hCons, hFl, hNil, compH, powH, mulH, zeroH, q, qa, qb, Nat.mul_add]
theorem powH_pow {h : Hm} {a b : Nat} : powH (powH h a) b = powH h (a * b) := by
  funext n
  by_cases q : (h n).1 = true
  · by_cases qa : a = 0 <;> by_cases qb : b = 0 <;> simp [rdv, dI2, dCmp, blD, fnF, okKp, kpL, intO, rdL, dInt, dAdd, outE, dLen, dAbs, shL, runF, mkE, slOf, nrm, muOf, okMu, backR, putS, isM, dList, dIsN, dNotN, Dv.isNon, dTup, isStr, Dv.isObj, madeR, mkR, isRefR, ePart, dNeg, dNotB, seqD, dTx, Is.fl, Is.bind, Dv.zipO, zipD, enumD, dSl, iMap, hIf, hIs, hRetL, hCons, hFl, hNil, powH, mulH, zeroH, q, qa, qb, Nat.mul_eq_zero]
  · by_cases qa : a = 0 <;> by_cases qb : b = 0 <;> simp [rdv, dI2, dCmp, blD, fnF, okKp, kpL, intO, rdL, dInt, dAdd, outE, dLen, dAbs, shL, runF, mkE, slOf, nrm, muOf, okMu, backR, putS, isM, dList, dIsN, dNotN, Dv.isNon, dTup, isStr, Dv.isObj, madeR, mkR, isRefR, ePart, dNeg, dNotB, seqD, dTx, Is.fl, Is.bind, Dv.zipO, zipD, enumD, dSl, iMap, hIf, hIs, hRetL, hCons, hFl, hNil, powH, mulH, zeroH, q, qa, qb, Nat.mul_assoc, Nat.mul_eq_zero]
theorem nz_mul {h : Hm} {t : Nat} (ht : 0 < t) {n : List Nat} : nz (mulH h t) n = nz h n := by
  have ht' : t ≠ 0 := by omega
  unfold nz mulH
  obtain ⟨b, m, hb⟩ : ∃ b m, h n = (b, m) := ⟨_, _, rfl⟩
  rw [hb]
  cases b <;> simp [rdv, dI2, dCmp, blD, fnF, okKp, kpL, intO, rdL, dInt, dAdd, outE, dLen, dAbs, shL, runF, mkE, slOf, nrm, muOf, okMu, backR, putS, isM, dList, dIsN, dNotN, Dv.isNon, dTup, isStr, Dv.isObj, madeR, mkR, isRefR, ePart, dNeg, dNotB, seqD, dTx, Is.fl, Is.bind, Dv.zipO, zipD, enumD, dSl, iMap, hIf, hIs, hRetL, hCons, hFl, hNil, ht', Nat.mul_eq_zero]
theorem acD_zero {ns : List (List Nat)} : acD ns zeroH = .obj 0 [.dct []] := by
  unfold acD
  have : (sortT ns).filter (nz zeroH) = [] := List.filter_eq_nil_iff.mpr fun a _ => by simp [rdv, dI2, dCmp, blD, fnF, okKp, kpL, intO, rdL, dInt, dAdd, outE, dLen, dAbs, shL, runF, mkE, slOf, nrm, muOf, okMu, backR, putS, isM, dList, dIsN, dNotN, Dv.isNon, dTup, isStr, Dv.isObj, madeR, mkR, isRefR, ePart, dNeg, dNotB, seqD, dTx, Is.fl, Is.bind, Dv.zipO, zipD, enumD, dSl, iMap, hIf, hIs, hRetL, hCons, hFl, hNil, nz, zeroH]
  rw [this]
  rfl
theorem r_repeated {x : Bool × Nat} {t : Nat} (hx : x.2 < 2 ^ 240) (ht : t < 2 ^ 240) : f_repeated [.sh (chD x), .sh (.int (t : Int))] = .ok (.sh (chD (if x.1 = true then x else (false, x.2 * t)))) [.no, .no] := by
  obtain ⟨b, n⟩ := x
  have l2 : (2 : Nat) ≤ lim := by decide
  have hc : cMul (n : Int) (t : Int) = true := cmul_ok (by show n < _; have : n < 2 ^ 240 := hx; omega) (by show t < _; omega)
  unfold f_repeated g_repeated chD
  cases b with
  | true => simp [rdv, dI2, dCmp, blD, fnF, okKp, kpL, intO, rdL, dInt, dAdd, outE, dLen, dAbs, shL, runF, mkE, slOf, nrm, muOf, okMu, backR, putS, isM, dList, dIsN, dNotN, Dv.isNon, dTup, isStr, Dv.isObj, madeR, mkR, isRefR, ePart, dNeg, dNotB, seqD, dTx, Is.fl, Is.bind, Dv.zipO, zipD, enumD, dSl, iMap, hIf, hIs, hRetL, hCons, hFl, hNil, wS]
  | false => simp [rdv, dI2, dCmp, blD, fnF, okKp, kpL, intO, rdL, dInt, dAdd, outE, dLen, dAbs, shL, runF, mkE, slOf, nrm, muOf, okMu, backR, putS, isM, dList, dIsN, dNotN, Dv.isNon, dTup, isStr, Dv.isObj, madeR, mkR, isRefR, ePart, dNeg, dNotB, seqD, dTx, Is.fl, Is.bind, Dv.zipO, zipD, enumD, dSl, iMap, hIf, hIs, hRetL, hCons, hFl, hNil, wA, l2, hc]
/-- numbers that may be multiplied -/
def SmH (h : Hm) : Prop := ∀ n, (h n).2 < 2 ^ 240
theorem r_mul {ns : List (List Nat)} {h : Hm} (o : NsOk ns) (z : AcOk ns h) (sm : SmH h) {t : Nat} (ht : t < 2 ^ 240) : f_Action_mul [.bo (acD ns h), .sh (.int (t : Int))] = .ok (.ow (acD ns (powH h t))) [.no, .no] := by
  have n1 := r_is_natural (i := (t : Int)) (by omega)
  by_cases h0 : t = 0
  · subst h0
    have a0 := r_act0 o
    unfold powH
    rw [if_pos rfl]
    unfold f_Action_mul g_Action_mul acD at *
    simp [rdv, dI2, dCmp, blD, fnF, okKp, kpL, intO, rdL, dInt, dAdd, outE, dLen, dAbs, shL, runF, mkE, slOf, nrm, muOf, okMu, backR, putS, isM, dList, dIsN, dNotN, Dv.isNon, dTup, isStr, Dv.isObj, madeR, mkR, isRefR, ePart, dNeg, dNotB, seqD, dTx, Is.fl, Is.bind, Dv.zipO, zipD, enumD, dSl, iMap, hIf, hIs, hRetL, hCons, hFl, hNil] at n1
    simp [rdv, dI2, dCmp, blD, fnF, okKp, kpL, intO, rdL, dInt, dAdd, outE, dLen, dAbs, shL, runF, mkE, slOf, nrm, muOf, okMu, backR, putS, isM, dList, dIsN, dNotN, Dv.isNon, dTup, isStr, Dv.isObj, madeR, mkR, isRefR, ePart, dNeg, dNotB, seqD, dTx, Is.fl, Is.bind, Dv.zipO, zipD, enumD, dSl, iMap, hIf, hIs, hRetL, hCons, hFl, hNil, n1, a0]
  · have hp : 0 < t := by omega
    unfold powH
    rw [if_neg h0]
    have hk : ((sortT ns).filter (nz h)).Nodup := (sort_nd o.nd).filter _
    have hs : ∀ k ∈ (sortT ns).filter (nz h), k ∈ ns := fun k q => mem_sort.mp (List.mem_filter.mp q).1
    have hl : ((sortT ns).filter (nz h)).length ≤ 5 := by
      have := List.length_filter_le (nz h) (sortT ns)
      rw [sort_len] at this
      have := o.len
      omega
    have zk : AcOk ((sortT ns).filter (nz h)) (mulH h t) := fun n hn => by
      by_cases w : n ∈ ns
      · have : ¬ nz h n = true := fun q => hn (List.mem_filter.mpr ⟨mem_sort.mpr w, q⟩)
        unfold nz at this
        have e : h n = (false, 0) := by simpa [rdv, dI2, dCmp, blD, fnF, okKp, kpL, intO, rdL, dInt, dAdd, outE, dLen, dAbs, shL, runF, mkE, slOf, nrm, muOf, okMu, backR, putS, isM, dList, dIsN, dNotN, Dv.isNon, dTup, isStr, Dv.isObj, madeR, mkR, isRefR, ePart, dNeg, dNotB, seqD, dTx, Is.fl, Is.bind, Dv.zipO, zipD, enumD, dSl, iMap, hIf, hIs, hRetL, hCons, hFl, hNil] using this
        unfold mulH
        rw [e]
        simp [rdv, dI2, dCmp, blD, fnF, okKp, kpL, intO, rdL, dInt, dAdd, outE, dLen, dAbs, shL, runF, mkE, slOf, nrm, muOf, okMu, backR, putS, isM, dList, dIsN, dNotN, Dv.isNon, dTup, isStr, Dv.isObj, madeR, mkR, isRefR, ePart, dNeg, dNotB, seqD, dTx, Is.fl, Is.bind, Dv.zipO, zipD, enumD, dSl, iMap, hIf, hIs, hRetL, hCons, hFl, hNil]
      · exact mulH_ok z t n w
    have a1 := make_act (h := mulH h t) o hk hs (by omega) zk
    have d1 := dcK_map (pr := fun ds => ds.map fun q => .tup [q.1, q.2]) (x := vFld 0 0 (vVar 0)) (tg := tgTup (tgCons (tgN 2) (tgCons (tgN 3) tgNil))) (test := eBl true) (ek := eVar 2) (ev := eCall [.bo, .bo] (fun e => noX (f_repeated e)) (aCons (eVar 3) (aCons (eVar 1) aNil))) (vs := [2, 3]) (e := [.bo (acD ns h), .sh (.int (t : Int)), .no, .no]) (e0 := [.bo (acD ns h), .sh (.int (t : Int)), .no, .no]) (kvs := ((sortT ns).filter (nz h)).map fun n => (D.str n, chD (h n))) (xs := (sortT ns).filter (nz h)) (fun n => D.tup [.str n, chD (h n)]) (fun _ => true) id (fun n => chD (mulH h t n)) rfl (by rw [List.map_map]; rfl) rfl (Nat.le_trans hl (by decide)) (by rw [List.map_id]; exact hk)
      (fun x hx => ⟨[.bo (acD ns h), .sh (.int (t : Int)), .sh (.str x), .sh (chD (h x))], rfl, rfl, rfl, fun _ => ⟨by simp [rdv, dI2, dCmp, blD, fnF, okKp, kpL, intO, rdL, dInt, dAdd, outE, dLen, dAbs, shL, runF, mkE, slOf, nrm, muOf, okMu, backR, putS, isM, dList, dIsN, dNotN, Dv.isNon, dTup, isStr, Dv.isObj, madeR, mkR, isRefR, ePart, dNeg, dNotB, seqD, dTx, Is.fl, Is.bind, Dv.zipO, zipD, enumD, dSl, iMap, hIf, hIs, hRetL, hCons, hFl, hNil], by
        have h4 := r_repeated (x := h x) (t := t) (sm x) ht
        have e : (if (h x).1 = true then h x else (false, (h x).2 * t)) = mulH h t x := rfl
        rw [e] at h4
        have h5 : chD (mulH h t x) = .tup [.str (if (mulH h t x).1 = true then wS else wA), .int ((mulH h t x).2 : Int)] := rfl
        have h6 : chD (h x) = .tup [.str (if (h x).1 = true then wS else wA), .int ((h x).2 : Int)] := rfl
        rw [h5, h6] at h4
        rw [h5, h6]
        generalize acD ns h = AA
        simp [rdv, dI2, dCmp, blD, fnF, okKp, kpL, intO, rdL, dInt, dAdd, outE, dLen, dAbs, shL, runF, mkE, slOf, nrm, muOf, okMu, backR, putS, isM, dList, dIsN, dNotN, Dv.isNon, dTup, isStr, Dv.isObj, madeR, mkR, isRefR, ePart, dNeg, dNotB, seqD, dTx, Is.fl, Is.bind, Dv.zipO, zipD, enumD, dSl, iMap, hIf, hIs, hRetL, hCons, hFl, hNil, h4]⟩⟩)
    rw [filt_true] at d1
    simp only [id] at d1
    obtain ⟨x3, y3⟩ : ∃ x, acD ns h = .obj 0 x := ⟨_, rfl⟩
    obtain ⟨x4, y4⟩ : ∃ x, acD ns (mulH h t) = .obj 0 x := ⟨_, rfl⟩
    rw [y3] at d1 ⊢
    rw [y4] at a1 ⊢
    generalize ((sortT ns).filter (nz h)).map (fun x => (D.str x, chD (mulH h t x))) = W at a1 d1
    unfold f_Action_mul g_Action_mul
    simp [rdv, dI2, dCmp, blD, fnF, okKp, kpL, intO, rdL, dInt, dAdd, outE, dLen, dAbs, shL, runF, mkE, slOf, nrm, muOf, okMu, backR, putS, isM, dList, dIsN, dNotN, Dv.isNon, dTup, isStr, Dv.isObj, madeR, mkR, isRefR, ePart, dNeg, dNotB, seqD, dTx, Is.fl, Is.bind, Dv.zipO, zipD, enumD, dSl, iMap, hIf, hIs, hRetL, hCons, hFl, hNil, n1, h0, d1, a1]
theorem r_str0 : f_Action_str [.bo (.obj 0 [.dct []])] = .ok (.sh (.str [110, 111, 116, 104, 105, 110, 103])) [.no] := by
  unfold f_Action_str g_Action_str
  simp [rdv, dI2, dCmp, blD, fnF, okKp, kpL, intO, rdL, dInt, dAdd, outE, dLen, dAbs, shL, runF, mkE, slOf, nrm, muOf, okMu, backR, putS, isM, dList, dIsN, dNotN, Dv.isNon, dTup, isStr, Dv.isObj, madeR, mkR, isRefR, ePart, dNeg, dNotB, seqD, dTx, Is.fl, Is.bind, Dv.zipO, zipD, enumD, dSl, iMap, hIf, hIs, hRetL, hCons, hFl, hNil]
theorem r_changes_of {ns : List (List Nat)} {h : Hm} (o : NsOk ns) : f_Action_changes [.bo (acD ns h)] = .ok (.ow (.dct (((sortT ns).filter (nz h)).map fun n => (D.str n, chD (h n))))) [.no] := by
  unfold f_Action_changes g_Action_changes acD
  simp [rdv, dI2, dCmp, blD, fnF, okKp, kpL, intO, rdL, dInt, dAdd, outE, dLen, dAbs, shL, runF, mkE, slOf, nrm, muOf, okMu, backR, putS, isM, dList, dIsN, dNotN, Dv.isNon, dTup, isStr, Dv.isObj, madeR, mkR, isRefR, ePart, dNeg, dNotB, seqD, dTx, Is.fl, Is.bind, Dv.zipO, zipD, enumD, dSl, iMap, hIf, hIs, hRetL, hCons, hFl, hNil, dDict]
end Pt
namespace Pt
open PySem PySem.Spec PyProof.Rows L2 Dv
open SX (S S_len S_cat)
/-! dicts of changes compared -/
def pyC (x : Bool × Nat) : PyData := .tuple [.str (S (if x.1 = true then wS else wA)), .int (x.2 : Int)]
theorem pyD_ch {x : Bool × Nat} : pyD (chD x) = some (pyC x) := by
  unfold chD pyC
  simp [rdv, dI2, dCmp, blD, fnF, okKp, kpL, intO, rdL, dInt, dAdd, outE, dLen, dAbs, shL, runF, mkE, slOf, nrm, muOf, okMu, backR, putS, isM, dList, dIsN, dNotN, Dv.isNon, dTup, isStr, Dv.isObj, madeR, mkR, isRefR, ePart, dNeg, dNotB, seqD, dTx, Is.fl, Is.bind, Dv.zipO, zipD, enumD, dSl, iMap, hIf, hIs, hRetL, hCons, hFl, hNil, pyD, pyL]
theorem shaped_ch {x : Bool × Nat} : SeqAt.shaped (pyC x) = true := by
  have h2 : PyData.canLay0 (.str (S wS)) = true := by decide +kernel
  have h3 : PyData.canLay0 (.str (S wA)) = true := by decide +kernel
  obtain ⟨b, n⟩ := x
  cases b
  · simp [rdv, dI2, dCmp, blD, fnF, okKp, kpL, intO, rdL, dInt, dAdd, outE, dLen, dAbs, shL, runF, mkE, slOf, nrm, muOf, okMu, backR, putS, isM, dList, dIsN, dNotN, Dv.isNon, dTup, isStr, Dv.isObj, madeR, mkR, isRefR, ePart, dNeg, dNotB, seqD, dTx, Is.fl, Is.bind, Dv.zipO, zipD, enumD, dSl, iMap, hIf, hIs, hRetL, hCons, hFl, hNil, pyC, SeqAt.shaped, PyData.canLay0, PyData.canLayAll0, PyData.depth, PyData.depthAll] at h3 ⊢
    simp [rdv, dI2, dCmp, blD, fnF, okKp, kpL, intO, rdL, dInt, dAdd, outE, dLen, dAbs, shL, runF, mkE, slOf, nrm, muOf, okMu, backR, putS, isM, dList, dIsN, dNotN, Dv.isNon, dTup, isStr, Dv.isObj, madeR, mkR, isRefR, ePart, dNeg, dNotB, seqD, dTx, Is.fl, Is.bind, Dv.zipO, zipD, enumD, dSl, iMap, hIf, hIs, hRetL, hCons, hFl, hNil, h3]
  · simp [rdv, dI2, dCmp, blD, fnF, okKp, kpL, intO, rdL, dInt, dAdd, outE, dLen, dAbs, shL, runF, mkE, slOf, nrm, muOf, okMu, backR, putS, isM, dList, dIsN, dNotN, Dv.isNon, dTup, isStr, Dv.isObj, madeR, mkR, isRefR, ePart, dNeg, dNotB, seqD, dTx, Is.fl, Is.bind, Dv.zipO, zipD, enumD, dSl, iMap, hIf, hIs, hRetL, hCons, hFl, hNil, pyC, SeqAt.shaped, PyData.canLay0, PyData.canLayAll0, PyData.depth, PyData.depthAll] at h2 ⊢
    simp [rdv, dI2, dCmp, blD, fnF, okKp, kpL, intO, rdL, dInt, dAdd, outE, dLen, dAbs, shL, runF, mkE, slOf, nrm, muOf, okMu, backR, putS, isM, dList, dIsN, dNotN, Dv.isNon, dTup, isStr, Dv.isObj, madeR, mkR, isRefR, ePart, dNeg, dNotB, seqD, dTx, Is.fl, Is.bind, Dv.zipO, zipD, enumD, dSl, iMap, hIf, hIs, hRetL, hCons, hFl, hNil, h2]
theorem eqv_ch {x : Bool × Nat} : PyData.eqv (pyC x) (pyC x) = true := by
  obtain ⟨b, n⟩ := x
  cases b <;> simp [rdv, dI2, dCmp, blD, fnF, okKp, kpL, intO, rdL, dInt, dAdd, outE, dLen, dAbs, shL, runF, mkE, slOf, nrm, muOf, okMu, backR, putS, isM, dList, dIsN, dNotN, Dv.isNon, dTup, isStr, Dv.isObj, madeR, mkR, isRefR, ePart, dNeg, dNotB, seqD, dTx, Is.fl, Is.bind, Dv.zipO, zipD, enumD, dSl, iMap, hIf, hIs, hRetL, hCons, hFl, hNil, pyC, PyData.eqv, PyData.eqvAll]
theorem eqPy_ch {x : Bool × Nat} : eqPy (chD x) (chD x) = some true := by
  unfold eqPy
  rw [pyD_ch]
  show (if (SeqAt.shaped (pyC x) && SeqAt.shaped (pyC x)) = true then some (PyData.eqv (pyC x) (pyC x)) else none) = _
  rw [shaped_ch, eqv_ch]
  rfl
theorem hits_ch {B : List (List Nat)} {h : Hm} : ∀ {A : List (List Nat)}, (∀ n ∈ A, n ∈ B) → hitsD (B.map fun n => (D.str n, chD (h n))) (A.map fun n => (D.str n, chD (h n))) = some true
  | [], _ => rfl
  | n :: A, hs => by
    have ih := hits_ch (h := h) (A := A) fun x hx => hs x (List.mem_cons_of_mem _ hx)
    rw [List.map_cons]
    unfold Dv.hitsD
    rw [getD_map (F := fun n => chD (h n)), if_pos (hs n (List.mem_cons_self ..))]
    show ((eqPy (chD (h n)) (chD (h n))).bind fun b => (Dv.hitsD _ _).map (b && ·)) = _
    rw [eqPy_ch, ih]
    rfl
theorem eqD_ch {A B : List (List Nat)} {h : Hm} (hp : A.Perm B) : eqD1 (.dct (A.map fun n => (D.str n, chD (h n)))) (.dct (B.map fun n => (D.str n, chD (h n)))) = some true := by
  show (if (A.map _).length = (B.map _).length then Dv.hitsD _ _ else some false) = _
  rw [if_pos (by rw [List.length_map, List.length_map]; exact hp.length_eq)]
  exact hits_ch fun n hn => hp.subset hn
theorem dEq_ch {A B : List (List Nat)} {h : Hm} (hp : A.Perm B) : dEq (.dct (A.map fun n => (D.str n, chD (h n)))) (.dct (B.map fun n => (D.str n, chD (h n)))) = some (.sh (.bl true)) := by
  unfold dEq
  rw [eqD_ch hp]
  rfl
theorem dNe_chs {A B : List (List Nat)} {h : Hm} (hp : A.Perm B) : dNe (.dct (A.map fun n => (D.str n, chD (h n)))) (.dct (B.map fun n => (D.str n, chD (h n)))) = some (.sh (.bl false)) := by
  unfold dNe
  rw [eqD_ch hp]
  rfl
theorem r_eq {ns : List (List Nat)} {h : Hm} : f_Action_eq [.bo (acD ns h), .bo (acD ns h)] = .ok (.sh (.bl true)) [.no, .no] := by
  have e := dEq_ch (h := h) (List.Perm.refl ((sortT ns).filter (nz h)))
  unfold f_Action_eq g_Action_eq acD
  generalize ((sortT ns).filter (nz h)).map (fun n => (D.str n, chD (h n))) = X at *
  simp [rdv, dI2, dCmp, blD, fnF, okKp, kpL, intO, rdL, dInt, dAdd, outE, dLen, dAbs, shL, runF, mkE, slOf, nrm, muOf, okMu, backR, putS, isM, dList, dIsN, dNotN, Dv.isNon, dTup, isStr, Dv.isObj, madeR, mkR, isRefR, ePart, dNeg, dNotB, seqD, dTx, Is.fl, Is.bind, Dv.zipO, zipD, enumD, dSl, iMap, hIf, hIs, hRetL, hCons, hFl, hNil, e]
/-! what the law tells of a power -/
def pwP (h : Hm) (t : Nat) (n : List Nat) : Bool := decide (0 < t) && nz h n
theorem nz_iff {h : Hm} {n : List Nat} : nz h n = ((h n).1 || decide (0 < (h n).2)) := by
  unfold nz
  obtain ⟨b, m, hb⟩ : ∃ b m, h n = (b, m) := ⟨_, _, rfl⟩
  rw [hb]
  cases b
  · by_cases z : m = 0
    · simp [rdv, dI2, dCmp, blD, fnF, okKp, kpL, intO, rdL, dInt, dAdd, outE, dLen, dAbs, shL, runF, mkE, slOf, nrm, muOf, okMu, backR, putS, isM, dList, dIsN, dNotN, Dv.isNon, dTup, isStr, Dv.isObj, madeR, mkR, isRefR, ePart, dNeg, dNotB, seqD, dTx, Is.fl, Is.bind, Dv.zipO, zipD, enumD, dSl, iMap, hIf, hIs, hRetL, hCons, hFl, hNil, z]
    · simp [rdv, dI2, dCmp, blD, fnF, okKp, kpL, intO, rdL, dInt, dAdd, outE, dLen, dAbs, shL, runF, mkE, slOf, nrm, muOf, okMu, backR, putS, isM, dList, dIsN, dNotN, Dv.isNon, dTup, isStr, Dv.isObj, madeR, mkR, isRefR, ePart, dNeg, dNotB, seqD, dTx, Is.fl, Is.bind, Dv.zipO, zipD, enumD, dSl, iMap, hIf, hIs, hRetL, hCons, hFl, hNil, z]; omega
  · simp [rdv, dI2, dCmp, blD, fnF, okKp, kpL, intO, rdL, dInt, dAdd, outE, dLen, dAbs, shL, runF, mkE, slOf, nrm, muOf, okMu, backR, putS, isM, dList, dIsN, dNotN, Dv.isNon, dTup, isStr, Dv.isObj, madeR, mkR, isRefR, ePart, dNeg, dNotB, seqD, dTx, Is.fl, Is.bind, Dv.zipO, zipD, enumD, dSl, iMap, hIf, hIs, hRetL, hCons, hFl, hNil]
theorem power_step {ks : List (List Nat)} {h : Hm} (sm : SmH h) {t : Nat} (ht : t < 2 ^ 240) {acc : List (List Nat)} {n : List Nat} (hn : n ∈ ks) (ha : n ∉ acc) (hl : acc.length ≤ 100) {s3 s4 s5 : Sl} :
    ∃ s4' s5', b0_Lpower [.bo (.dct (ks.map fun n => (D.str n, chD (h n)))), .sh (.int (t : Int)), .ow (.dct (acc.map fun n => (D.str n, chD (powH h t n)))), .sh (.str n), s4, s5] = .nx [.bo (.dct (ks.map fun n => (D.str n, chD (h n)))), .sh (.int (t : Int)), .ow (.dct ((if pwP h t n = true then acc ++ [n] else acc).map fun n => (D.str n, chD (powH h t n)))), .sh (.str n), s4', s5'] := by
  have hx : dIx (.dct (ks.map fun n => (D.str n, chD (h n)))) (.str n) = some (.sh (chD (h n))) := dIx_map (F := fun n => chD (h n)) hn
  have hnew : ∀ p ∈ acc.map (fun n => (D.str n, chD (powH h t n))), eqK p.1 (.str n) = false := fun p hp => by
    obtain ⟨m, hm, rfl⟩ := List.mem_map.mp hp
    exact decide_eq_false fun z => ha (by rw [← z]; exact hm)
  have hp := fun v => putD_new (v := v) hnew
  have e2 : nz h n = ((h n).1 || decide (0 < (h n).2)) := nz_iff
  have ll : (acc.map fun n => (D.str n, chD (powH h t n))).length < lim := by
    rw [List.length_map]
    have : (1000 : Nat) < lim := by decide
    omega
  have l2 : (2 : Nat) ≤ lim := by decide
  have hc : cMul ((h n).2 : Int) (t : Int) = true := cmul_ok (by show (h n).2 < _; have := sm n; omega) (by show t < _; omega)
  generalize (ks.map fun n => (D.str n, chD (h n))) = X at *
  have e3 : (if pwP h t n = true then acc ++ [n] else acc).map (fun n => (D.str n, chD (powH h t n))) = if pwP h t n = true then acc.map (fun n => (D.str n, chD (powH h t n))) ++ [(D.str n, chD (powH h t n))] else acc.map fun n => (D.str n, chD (powH h t n)) := by
    by_cases q : pwP h t n = true <;> simp [rdv, dI2, dCmp, blD, fnF, okKp, kpL, intO, rdL, dInt, dAdd, outE, dLen, dAbs, shL, runF, mkE, slOf, nrm, muOf, okMu, backR, putS, isM, dList, dIsN, dNotN, Dv.isNon, dTup, isStr, Dv.isObj, madeR, mkR, isRefR, ePart, dNeg, dNotB, seqD, dTx, Is.fl, Is.bind, Dv.zipO, zipD, enumD, dSl, iMap, hIf, hIs, hRetL, hCons, hFl, hNil, q]
  rw [e3]
  generalize (acc.map fun n => (D.str n, chD (powH h t n))) = Y at *
  unfold b0_Lpower pwP
  rw [e2]
  by_cases h0 : t = 0
  · subst h0
    unfold chD at hx
    simp [rdv, dI2, dCmp, blD, fnF, okKp, kpL, intO, rdL, dInt, dAdd, outE, dLen, dAbs, shL, runF, mkE, slOf, nrm, muOf, okMu, backR, putS, isM, dList, dIsN, dNotN, Dv.isNon, dTup, isStr, Dv.isObj, madeR, mkR, isRefR, ePart, dNeg, dNotB, seqD, dTx, Is.fl, Is.bind, Dv.zipO, zipD, enumD, dSl, iMap, hIf, hIs, hRetL, hCons, hFl, hNil, hx]
  · have h0' : 0 < t := by omega
    have hi : (0 : Int) < (t : Int) := by omega
    have ep : powH h t n = if (h n).1 = true then h n else (false, (h n).2 * t) := by unfold powH; rw [if_neg h0]; rfl
    rw [ep]
    obtain ⟨b, m, hb⟩ : ∃ b m, h n = (b, m) := ⟨_, _, rfl⟩
    rw [hb] at hx hc ⊢
    unfold chD at hx
    cases b with
    | true =>
      simp [rdv, dI2, dCmp, blD, fnF, okKp, kpL, intO, rdL, dInt, dAdd, outE, dLen, dAbs, shL, runF, mkE, slOf, nrm, muOf, okMu, backR, putS, isM, dList, dIsN, dNotN, Dv.isNon, dTup, isStr, Dv.isObj, madeR, mkR, isRefR, ePart, dNeg, dNotB, seqD, dTx, Is.fl, Is.bind, Dv.zipO, zipD, enumD, dSl, iMap, hIf, hIs, hRetL, hCons, hFl, hNil, wS] at hx
      simp [rdv, dI2, dCmp, blD, fnF, okKp, kpL, intO, rdL, dInt, dAdd, outE, dLen, dAbs, shL, runF, mkE, slOf, nrm, muOf, okMu, backR, putS, isM, dList, dIsN, dNotN, Dv.isNon, dTup, isStr, Dv.isObj, madeR, mkR, isRefR, ePart, dNeg, dNotB, seqD, dTx, Is.fl, Is.bind, Dv.zipO, zipD, enumD, dSl, iMap, hIf, hIs, hRetL, hCons, hFl, hNil, hx, h0', hi, l2, ll, hp, chD, wS]
    | false =>
      simp [rdv, dI2, dCmp, blD, fnF, okKp, kpL, intO, rdL, dInt, dAdd, outE, dLen, dAbs, shL, runF, mkE, slOf, nrm, muOf, okMu, backR, putS, isM, dList, dIsN, dNotN, Dv.isNon, dTup, isStr, Dv.isObj, madeR, mkR, isRefR, ePart, dNeg, dNotB, seqD, dTx, Is.fl, Is.bind, Dv.zipO, zipD, enumD, dSl, iMap, hIf, hIs, hRetL, hCons, hFl, hNil, wA] at hx hc
      by_cases hm : 0 < m
      · simp [rdv, dI2, dCmp, blD, fnF, okKp, kpL, intO, rdL, dInt, dAdd, outE, dLen, dAbs, shL, runF, mkE, slOf, nrm, muOf, okMu, backR, putS, isM, dList, dIsN, dNotN, Dv.isNon, dTup, isStr, Dv.isObj, madeR, mkR, isRefR, ePart, dNeg, dNotB, seqD, dTx, Is.fl, Is.bind, Dv.zipO, zipD, enumD, dSl, iMap, hIf, hIs, hRetL, hCons, hFl, hNil, hx, h0', hi, l2, ll, hp, chD, wA, hm, hc]
      · simp [rdv, dI2, dCmp, blD, fnF, okKp, kpL, intO, rdL, dInt, dAdd, outE, dLen, dAbs, shL, runF, mkE, slOf, nrm, muOf, okMu, backR, putS, isM, dList, dIsN, dNotN, Dv.isNon, dTup, isStr, Dv.isObj, madeR, mkR, isRefR, ePart, dNeg, dNotB, seqD, dTx, Is.fl, Is.bind, Dv.zipO, zipD, enumD, dSl, iMap, hIf, hIs, hRetL, hCons, hFl, hNil, hx, h0', hi, l2, ll, hp, chD, wA, hm, hc]
theorem r_power {ks : List (List Nat)} {h : Hm} (sm : SmH h) (nd : ks.Nodup) (hl : ks.length ≤ 60) {t : Nat} (ht : t < 2 ^ 240) : f_Lpower [.bo (.dct (ks.map fun n => (D.str n, chD (h n)))), .sh (.int (t : Int))] = .ok (.ow (.dct ((ks.filter (pwP h t)).map fun n => (D.str n, chD (powH h t n))))) [.no, .no] := by
  obtain ⟨e', h1, s3, s4, s5, rfl⟩ := forL_inv (tg := tgN 3) (f := b0_Lpower) (fun i e => ∃ s3 s4 s5 : Sl, e = [.bo (.dct (ks.map fun n => (D.str n, chD (h n)))), .sh (.int (t : Int)), .ow (.dct (((ks.take i).filter (pwP h t)).map fun n => (D.str n, chD (powH h t n)))), s3, s4, s5])
    (ks.map D.str) 0 [.bo (.dct (ks.map fun n => (D.str n, chD (h n)))), .sh (.int (t : Int)), .ow (.dct []), .no, .no, .no]
    (fun i d e hi ⟨s3, s4, s5, he⟩ => by
      subst he
      rw [List.getElem?_map] at hi
      obtain ⟨c, hc, rfl⟩ := Option.map_eq_some_iff.mp hi
      have hi2 : i < ks.length := (List.getElem?_eq_some_iff.mp hc).1
      have hl2 : ((ks.take i).filter (pwP h t)).length ≤ 100 := by
        have := List.length_filter_le (pwP h t) (ks.take i)
        rw [List.length_take] at this
        omega
      obtain ⟨s4', s5', h2⟩ := power_step (ks := ks) (h := h) sm ht (acc := (ks.take i).filter (pwP h t)) (n := c) (List.mem_of_getElem? hc) (fun q => nd_at nd hc (List.mem_filter.mp q).1) hl2 (s3 := s3) (s4 := s4) (s5 := s5)
      rw [Nat.zero_add]
      refine ⟨_, _, rfl, .inl h2, .sh (.str c), s4', s5', ?_⟩
      have e : (ks.take (i + 1)).filter (pwP h t) = if pwP h t c = true then (ks.take i).filter (pwP h t) ++ [c] else (ks.take i).filter (pwP h t) := by
        rw [List.take_add_one, hc, List.filter_append]
        by_cases q : pwP h t c = true <;> simp [rdv, dI2, dCmp, blD, fnF, okKp, kpL, intO, rdL, dInt, dAdd, outE, dLen, dAbs, shL, runF, mkE, slOf, nrm, muOf, okMu, backR, putS, isM, dList, dIsN, dNotN, Dv.isNon, dTup, isStr, Dv.isObj, madeR, mkR, isRefR, ePart, dNeg, dNotB, seqD, dTx, Is.fl, Is.bind, Dv.zipO, zipD, enumD, dSl, iMap, hIf, hIs, hRetL, hCons, hFl, hNil, q]
      rw [e])
    ⟨.no, .no, .no, rfl⟩
  rw [List.length_map, Nat.zero_add, List.take_of_length_le (Nat.le_refl _)] at h1
  have h2 : fKeys (fun ds => ds.map (·.1)) (vVar 0) (tgN 3) b0_Lpower [.bo (.dct (ks.map fun n => (D.str n, chD (h n)))), .sh (.int (t : Int)), .ow (.dct []), .no, .no, .no] = .nx [.bo (.dct (ks.map fun n => (D.str n, chD (h n)))), .sh (.int (t : Int)), .ow (.dct ((ks.filter (pwP h t)).map fun n => (D.str n, chD (powH h t n)))), s3, s4, s5] := by
    show noXF (forL _ _ ((ks.map fun n => (D.str n, chD (h n))).map (·.1)) _) = _
    rw [List.map_map, show ((fun q : D × D => q.1) ∘ fun n => (D.str n, chD (h n))) = D.str from rfl, h1]
    rfl
  unfold f_Lpower g_Lpower
  generalize fKeys (fun ds => ds.map (·.1)) (vVar 0) (tgN 3) b0_Lpower = Z at h2
  simp [rdv, dI2, dCmp, blD, fnF, okKp, kpL, intO, rdL, dInt, dAdd, outE, dLen, dAbs, shL, runF, mkE, slOf, nrm, muOf, okMu, backR, putS, isM, dList, dIsN, dNotN, Dv.isNon, dTup, isStr, Dv.isObj, madeR, mkR, isRefR, ePart, dNeg, dNotB, seqD, dTx, Is.fl, Is.bind, Dv.zipO, zipD, enumD, dSl, iMap, hIf, hIs, hRetL, hCons, hFl, hNil, h2]
/-- the changes that are told of a power -/
theorem told_power {ks : List (List Nat)} {h : Hm} (nd : ks.Nodup) (t : Nat) : dNe (.dct (((sortT ks).filter (nz (powH h t))).map fun n => (D.str n, chD (powH h t n)))) (.dct ((ks.filter (pwP h t)).map fun n => (D.str n, chD (powH h t n)))) = some (.sh (.bl false)) := by
  have e : pwP h t = nz (powH h t) := by
    funext n
    unfold pwP powH
    by_cases h0 : t = 0
    · subst h0
      simp [rdv, dI2, dCmp, blD, fnF, okKp, kpL, intO, rdL, dInt, dAdd, outE, dLen, dAbs, shL, runF, mkE, slOf, nrm, muOf, okMu, backR, putS, isM, dList, dIsN, dNotN, Dv.isNon, dTup, isStr, Dv.isObj, madeR, mkR, isRefR, ePart, dNeg, dNotB, seqD, dTx, Is.fl, Is.bind, Dv.zipO, zipD, enumD, dSl, iMap, hIf, hIs, hRetL, hCons, hFl, hNil, nz, zeroH]
    · rw [if_neg h0, nz_mul (by omega), decide_eq_true (by omega : 0 < t), Bool.true_and]
  rw [e]
  exact dNe_chs ((sortT_perm ks).filter _)
end Pt
namespace Pt
open PySem PySem.Spec PyProof.Rows L2 Dv
open SX (S S_len S_cat)
/-! changes that are drawn -/
def bas5 : List (List Nat) := [[97], [99, 104, 97, 112, 116, 101, 114], [122, 122], [102, 105, 103], [120]]
theorem bas5_nd : bas5.Nodup := by decide
theorem bas5_nm : ∀ n ∈ bas5, nameL n = true := by decide
def setH (h : Hm) (c : List Nat) (x : Bool × Nat) : Hm := fun n => if n = c then x else h n
theorem changes_step {A B : Int} (ht : TapeOk A B) {acc : List (List Nat)} {h : Hm} {c : List Nat} (ha : c ∉ acc) (hl : acc.length ≤ 100) {x3 : Sl} : ∃ (A' B' : Int) (x : Bool × Nat) (y3 : Sl), TapeOk A' B' ∧ x.2 < 10 ^ 30 ∧
    b0_Lchanges [.ow (tapeD A B), .ow (.dct (acc.map fun n => (D.str n, chD (h n)))), .sh (.str c), x3] = .nx [.ow (tapeD A' B'), .ow (.dct ((acc ++ [c]).map fun n => (D.str n, chD (setH h c x n)))), .sh (.str c), y3] := by
  obtain ⟨r1, A1, B1, p1, l1, u1, t1⟩ := r_pick ht (m := 3) (by omega) (by omega)
  obtain ⟨m, e1, _, e2⟩ := atI_nat (xs := [(2 : Int), 100, 10 ^ 30]) l1 (by simpa [rdv, dI2, dCmp, blD, fnF, okKp, kpL, intO, rdL, dInt, dAdd, outE, dLen, dAbs, shL, runF, mkE, slOf, nrm, muOf, okMu, backR, putS, isM, dList, dIsN, dNotN, Dv.isNon, dTup, isStr, Dv.isObj, madeR, mkR, isRefR, ePart, dNeg, dNotB, seqD, dTx, Is.fl, Is.bind, Dv.zipO, zipD, enumD, dSl, iMap, hIf, hIs, hRetL, hCons, hFl, hNil] using u1)
  have hm : 0 < m ∧ m ≤ 10 ^ 30 := by
    simp only [List.mem_cons, List.not_mem_nil, or_false] at e2
    rcases e2 with rfl | rfl | rfl <;> decide
  have e3 := atI_map D.int e1
  obtain ⟨r2, A2, B2, p2, l2, u2, t2⟩ := r_pick t1 (m := m) hm.1 (by have := hm.2; omega)
  obtain ⟨r3, A3, B3, p3, l3, u3, t3⟩ := r_pick t2 (m := 2) (by omega) (by omega)
  obtain ⟨w, f1, _, f2⟩ := atI_nat (xs := [wA, wS]) l3 (by simpa [rdv, dI2, dCmp, blD, fnF, okKp, kpL, intO, rdL, dInt, dAdd, outE, dLen, dAbs, shL, runF, mkE, slOf, nrm, muOf, okMu, backR, putS, isM, dList, dIsN, dNotN, Dv.isNon, dTup, isStr, Dv.isObj, madeR, mkR, isRefR, ePart, dNeg, dNotB, seqD, dTx, Is.fl, Is.bind, Dv.zipO, zipD, enumD, dSl, iMap, hIf, hIs, hRetL, hCons, hFl, hNil] using u3)
  have f3 := atI_map D.str f1
  have hw : ∃ b : Bool, w = if b = true then wS else wA := by
    simp only [List.mem_cons, List.not_mem_nil, or_false] at f2
    rcases f2 with rfl | rfl
    · exact ⟨false, rfl⟩
    · exact ⟨true, rfl⟩
  obtain ⟨b, hb⟩ := hw
  refine ⟨A3, B3, (b, r2.toNat), .sh (.int r2), t3, by show r2.toNat < _; have := hm.2; omega, ?_⟩
  have hnew : ∀ p ∈ acc.map (fun n => (D.str n, chD (h n))), eqK p.1 (.str c) = false := fun p hp => by
    obtain ⟨m, hm, rfl⟩ := List.mem_map.mp hp
    exact decide_eq_false fun z => ha (by rw [← z]; exact hm)
  have hp := fun v => putD_new (v := v) hnew
  have ll : (acc.map fun n => (D.str n, chD (h n))).length < lim := by
    rw [List.length_map]
    have : (1000 : Nat) < lim := by decide
    omega
  have e4 : (acc ++ [c]).map (fun n => (D.str n, chD (setH h c (b, r2.toNat) n))) = acc.map (fun n => (D.str n, chD (h n))) ++ [(D.str c, .tup [.str w, .int r2])] := by
    rw [List.map_append]
    congr 1
    · apply List.map_congr_left
      intro n hn
      unfold setH
      rw [if_neg fun z => ha (by rw [← z]; exact hn)]
    · have hx : ((r2.toNat : Nat) : Int) = r2 := by omega
      simp [rdv, dI2, dCmp, blD, fnF, okKp, kpL, intO, rdL, dInt, dAdd, outE, dLen, dAbs, shL, runF, mkE, slOf, nrm, muOf, okMu, backR, putS, isM, dList, dIsN, dNotN, Dv.isNon, dTup, isStr, Dv.isObj, madeR, mkR, isRefR, ePart, dNeg, dNotB, seqD, dTx, Is.fl, Is.bind, Dv.zipO, zipD, enumD, dSl, iMap, hIf, hIs, hRetL, hCons, hFl, hNil, setH, chD, hb, hx]
  rw [e4]
  generalize (acc.map fun n => (D.str n, chD (h n))) = Y at *
  have l33 : (3 : Nat) ≤ lim := by decide
  have l2' : (2 : Nat) ≤ lim := by decide
  unfold b0_Lchanges
  simp [rdv, dI2, dCmp, blD, fnF, okKp, kpL, intO, rdL, dInt, dAdd, outE, dLen, dAbs, shL, runF, mkE, slOf, nrm, muOf, okMu, backR, putS, isM, dList, dIsN, dNotN, Dv.isNon, dTup, isStr, Dv.isObj, madeR, mkR, isRefR, ePart, dNeg, dNotB, seqD, dTx, Is.fl, Is.bind, Dv.zipO, zipD, enumD, dSl, iMap, hIf, hIs, hRetL, hCons, hFl, hNil, wA, wS] at e3 f3
  have cp : cPow 10 30 = true := by decide
  simp [rdv, dI2, dCmp, blD, fnF, okKp, kpL, intO, rdL, dInt, dAdd, outE, dLen, dAbs, shL, runF, mkE, slOf, nrm, muOf, okMu, backR, putS, isM, dList, dIsN, dNotN, Dv.isNon, dTup, isStr, Dv.isObj, madeR, mkR, isRefR, ePart, dNeg, dNotB, seqD, dTx, Is.fl, Is.bind, Dv.zipO, zipD, enumD, dSl, iMap, hIf, hIs, hRetL, hCons, hFl, hNil, p1, cp, e3, p2, p3, f3, l33, l2', ll, hp]
theorem r_changes {A B : Int} (ht : TapeOk A B) : ∃ (A' B' : Int) (ks : List (List Nat)) (h : Hm), TapeOk A' B' ∧ ks.Nodup ∧ 1 ≤ ks.length ∧ ks.length ≤ 5 ∧ (∀ n ∈ ks, n ∈ bas5) ∧ AcOk ks h ∧ (∀ n, (h n).2 < 10 ^ 30) ∧
    f_Lchanges [.ow (tapeD A B)] = .ok (.ow (.dct (ks.map fun n => (D.str n, chD (h n))))) [.ow (tapeD A' B')] := by
  obtain ⟨A1, B1, w, q1, t1, p1⟩ := r_shuffled (xs := bas5.map D.str) ht (by decide)
  obtain ⟨zs, rfl, q2⟩ := perm_strs q1
  obtain ⟨r, A2, B2, p2, l2, u2, t2⟩ := r_pick t1 (m := 5) (by omega) (by omega)
  have hl := q2.length_eq
  have hl5 : zs.length = 5 := hl
  obtain ⟨ks, hks⟩ : ∃ ks, zs.take (1 + r.toNat) = ks := ⟨_, rfl⟩
  have k1 : ks.Nodup := by rw [← hks]; exact (q2.nodup_iff.mpr bas5_nd).sublist (List.take_sublist ..)
  have k2 : ks.length = 1 + r.toNat := by rw [← hks, List.length_take]; omega
  have k3 : ∀ n ∈ ks, n ∈ bas5 := fun x hx => q2.mem_iff.mp (List.mem_of_mem_take (by rw [hks]; exact hx))
  have e1 : 1 + r = ((1 + r.toNat : Nat) : Int) := by omega
  obtain ⟨e', h1, A3, B3, h, s2, s3, rfl, t3, h4, h5⟩ := forL_inv (tg := tgN 2) (f := b0_Lchanges) (fun i e => ∃ (A3 B3 : Int) (h : Hm) (s2 s3 : Sl), e = [.ow (tapeD A3 B3), .ow (.dct ((ks.take i).map fun n => (D.str n, chD (h n)))), s2, s3] ∧ TapeOk A3 B3 ∧ (∀ n, n ∉ ks.take i → h n = (false, 0)) ∧ ∀ n, (h n).2 < 10 ^ 30)
    (ks.map D.str) 0 [.ow (tapeD A2 B2), .ow (.dct []), .no, .no]
    (fun i d e hi ⟨A3, B3, h, s2, s3, he, t3, h4, h5⟩ => by
      subst he
      rw [Nat.zero_add] at h4 ⊢
      rw [List.getElem?_map] at hi
      obtain ⟨c, hc, rfl⟩ := Option.map_eq_some_iff.mp hi
      have hi2 : i < ks.length := (List.getElem?_eq_some_iff.mp hc).1
      obtain ⟨A4, B4, x, y3, t4, hx, st⟩ := changes_step t3 (acc := ks.take i) (h := h) (c := c) (nd_at k1 hc) (by rw [List.length_take]; omega) (x3 := s3)
      have e2 : ks.take (i + 1) = ks.take i ++ [c] := by rw [List.take_add_one, hc]; rfl
      refine ⟨_, _, rfl, .inl st, A4, B4, setH h c x, .sh (.str c), y3, by rw [e2], t4, fun n hn => ?_, fun n => ?_⟩
      · rw [e2, List.mem_append, not_or, List.mem_singleton] at hn
        unfold setH
        rw [if_neg hn.2]
        exact h4 n hn.1
      · unfold setH
        by_cases z : n = c
        · rw [if_pos z]; exact hx
        · rw [if_neg z]; exact h5 n)
    ⟨A2, B2, zeroH, .no, .no, rfl, t2, fun _ _ => rfl, fun _ => by show (0 : Nat) < _; decide⟩
  rw [List.length_map, Nat.zero_add, List.take_of_length_le (Nat.le_refl _)] at h1 h4
  refine ⟨A3, B3, ks, h, t3, k1, by omega, by omega, k3, h4, h5, ?_⟩
  have l5 : (5 : Nat) ≤ lim := by decide
  have src : iSeq (eSl (eCall [.mu, .bo] (fun e => noX (f_Lshuffled e)) (aCons (eVar 0) (aCons (eLst (aCons (eTk (eC (.str [97]))) (aCons (eTk (eC (.str [99, 104, 97, 112, 116, 101, 114]))) (aCons (eTk (eC (.str [122, 122]))) (aCons (eTk (eC (.str [102, 105, 103]))) (aCons (eTk (eC (.str [120]))) aNil)))))) aNil))) none (some (eOp2 dAdd (eC (.int 1)) (eCall [.mu, .bo] (fun e => noX (f_Lpick e)) (aCons (eVar 0) (aCons (eC (.int 5)) aNil)))))) [.ow (tapeD A B), .ow (.dct []), .no, .no] = .ok (ks.map D.str) [.ow (tapeD A2 B2), .ow (.dct []), .no, .no] := by
    simp only [bas5, List.map_cons, List.map_nil] at p1
    have cut : Dv.cutD zs none (some (1 + r)) = ks := by rw [e1, cut_take, hks]
    have cutM : Dv.cutD (zs.map D.str) none (some (1 + r)) = ks.map D.str := by rw [e1, cut_take, ← List.map_take, hks]
    simp [rdv, dI2, dCmp, blD, fnF, okKp, kpL, intO, rdL, dInt, dAdd, outE, dLen, dAbs, shL, runF, mkE, slOf, nrm, muOf, okMu, backR, putS, isM, dList, dIsN, dNotN, Dv.isNon, dTup, isStr, Dv.isObj, madeR, mkR, isRefR, ePart, dNeg, dNotB, seqD, dTx, Is.fl, Is.bind, Dv.zipO, zipD, enumD, dSl, iMap, hIf, hIs, hRetL, hCons, hFl, hNil, p1, p2, l5, cutM]
  unfold f_Lchanges g_Lchanges
  have h2 := (fFor_at (f := b0_Lchanges) src).trans h1
  generalize fFor (iSeq (eSl (eCall [.mu, .bo] (fun e => noX (f_Lshuffled e)) (aCons (eVar 0) (aCons (eLst (aCons (eTk (eC (.str [97]))) (aCons (eTk (eC (.str [99, 104, 97, 112, 116, 101, 114]))) (aCons (eTk (eC (.str [122, 122]))) (aCons (eTk (eC (.str [102, 105, 103]))) (aCons (eTk (eC (.str [120]))) aNil)))))) aNil))) none (some (eOp2 dAdd (eC (.int 1)) (eCall [.mu, .bo] (fun e => noX (f_Lpick e)) (aCons (eVar 0) (aCons (eC (.int 5)) aNil))))))) (tgN 2) b0_Lchanges = Z at h2
  simp [rdv, dI2, dCmp, blD, fnF, okKp, kpL, intO, rdL, dInt, dAdd, outE, dLen, dAbs, shL, runF, mkE, slOf, nrm, muOf, okMu, backR, putS, isM, dList, dIsN, dNotN, Dv.isNon, dTup, isStr, Dv.isObj, madeR, mkR, isRefR, ePart, dNeg, dNotB, seqD, dTx, Is.fl, Is.bind, Dv.zipO, zipD, enumD, dSl, iMap, hIf, hIs, hRetL, hCons, hFl, hNil, h2]
end Pt
namespace Pt
open PySem PySem.Spec PyProof.Rows L2 Dv
open SX (S S_len S_cat)
/-! a walk that ends with an error at the first bad one -/
theorem forL_raise {tg : D → En → Option En} {f : En → Fl} {T : Type} (R : T → En) (ei : List Nat → D) {c : Nat} {fs : List D} {e' : En} : ∀ (pre : List (List Nat)) (x : List Nat) (post : List (List Nat)) (z : T), (∀ y ∈ pre, ∀ z, ∃ e1 z', tg (ei y) (R z) = some e1 ∧ f e1 = .nx (R z')) → (∀ z, ∃ e1, tg (ei x) (R z) = some e1 ∧ f e1 = .exc c fs e') → forL tg f ((pre ++ x :: post).map ei) (R z) = .exc c fs e'
  | [], x, post, z, _, h2 => by
    obtain ⟨e1, h3, h4⟩ := h2 z
    show forL tg f (ei x :: post.map ei) (R z) = _
    unfold forL
    rw [h3]
    dsimp only
    rw [h4]
  | y :: pre, x, post, z, h1, h2 => by
    obtain ⟨e1, z', h3, h4⟩ := h1 y (List.mem_cons_self ..) z
    have ih := forL_raise R ei pre x post z' (fun y hy => h1 y (List.mem_cons_of_mem _ hy)) h2
    rw [List.cons_append, List.map_cons]
    unfold forL
    rw [h3]
    dsimp only
    rw [h4]
    exact ih
/-- the sorted names, cut at one of them: what stands before is not greater -/
theorem sort_cut {l : List (List Nat)} (nd : l.Nodup) {c : List Nat} (hc : c ∈ l) : ∃ pre post, sortT l = pre ++ c :: post ∧ ∀ y ∈ pre, y ∈ l ∧ y ≠ c ∧ ltCps c y = false := by
  obtain ⟨pre, post, e⟩ := List.append_of_mem (mem_sort.mpr hc)
  refine ⟨pre, post, e, fun y hy => ⟨mem_sort.mp (by rw [e]; exact List.mem_append_left _ hy), ?_, ?_⟩⟩
  · have n := sort_nd nd
    rw [e, List.nodup_append] at n
    exact n.2.2 y hy c (List.mem_cons_self ..)
  · have s := sortT_sorted l
    rw [e, List.pairwise_append] at s
    exact s.2.2 y hy c (List.mem_cons_self ..)
/-! what is refused -/
theorem r_nat_neg {i : Int} (h : i < 0) : f_is_natural [.sh (.int i)] = .ok (.sh (.bl false)) [.no] := by
  have h' : ¬ 0 ≤ i := by omega
  unfold f_is_natural g_is_natural
  simp [rdv, dI2, dCmp, blD, fnF, okKp, kpL, intO, rdL, dInt, dAdd, outE, dLen, dAbs, shL, runF, mkE, slOf, nrm, muOf, okMu, backR, putS, isM, dList, dIsN, dNotN, Dv.isNon, dTup, isStr, Dv.isObj, madeR, mkR, isRefR, ePart, dNeg, dNotB, seqD, dTx, Is.fl, Is.bind, Dv.zipO, zipD, enumD, dSl, iMap, hIf, hIs, hRetL, hCons, hFl, hNil, h']
theorem r_nat_bl {b : Bool} : f_is_natural [.sh (.bl b)] = .ok (.sh (.bl false)) [.no] := by
  have h1 : dIsi ownC [.bl b, .ty "int"] = some (.sh (.bl true)) := rfl
  have h2 : dIsi ownC [.bl b, .ty "bool"] = some (.sh (.bl true)) := rfl
  unfold f_is_natural g_is_natural f_is_number g_is_number
  simp [rdv, dI2, dCmp, blD, fnF, okKp, kpL, intO, rdL, dInt, dAdd, outE, dLen, dAbs, shL, runF, mkE, slOf, nrm, muOf, okMu, backR, putS, isM, dList, dIsN, dNotN, Dv.isNon, dTup, isStr, Dv.isObj, madeR, mkR, isRefR, ePart, dNeg, dNotB, seqD, dTx, Is.fl, Is.bind, Dv.zipO, zipD, enumD, dSl, iMap, hIf, hIs, hRetL, hCons, hFl, hNil, h1, h2]
theorem r_nat_non : f_is_natural [.sh .non] = .ok (.sh (.bl false)) [.no] := by
  have h1 : dIsi ownC [.non, .ty "int"] = some (.sh (.bl false)) := rfl
  unfold f_is_natural g_is_natural f_is_number g_is_number
  simp [rdv, dI2, dCmp, blD, fnF, okKp, kpL, intO, rdL, dInt, dAdd, outE, dLen, dAbs, shL, runF, mkE, slOf, nrm, muOf, okMu, backR, putS, isM, dList, dIsN, dNotN, Dv.isNon, dTup, isStr, Dv.isObj, madeR, mkR, isRefR, ePart, dNeg, dNotB, seqD, dTx, Is.fl, Is.bind, Dv.zipO, zipD, enumD, dSl, iMap, hIf, hIs, hRetL, hCons, hFl, hNil, h1]
theorem r_nat_str {l : List Nat} : f_is_natural [.sh (.str l)] = .ok (.sh (.bl false)) [.no] := by
  have h1 : dIsi ownC [.str l, .ty "int"] = some (.sh (.bl false)) := rfl
  unfold f_is_natural g_is_natural f_is_number g_is_number
  simp [rdv, dI2, dCmp, blD, fnF, okKp, kpL, intO, rdL, dInt, dAdd, outE, dLen, dAbs, shL, runF, mkE, slOf, nrm, muOf, okMu, backR, putS, isM, dList, dIsN, dNotN, Dv.isNon, dTup, isStr, Dv.isObj, madeR, mkR, isRefR, ePart, dNeg, dNotB, seqD, dTx, Is.fl, Is.bind, Dv.zipO, zipD, enumD, dSl, iMap, hIf, hIs, hRetL, hCons, hFl, hNil, h1]
theorem r_nat_lst {l : List D} : f_is_natural [.bo (.lst l)] = .ok (.sh (.bl false)) [.no] := by
  have h1 : dIsi ownC [.lst l, .ty "int"] = some (.sh (.bl false)) := rfl
  unfold f_is_natural g_is_natural f_is_number g_is_number
  simp [rdv, dI2, dCmp, blD, fnF, okKp, kpL, intO, rdL, dInt, dAdd, outE, dLen, dAbs, shL, runF, mkE, slOf, nrm, muOf, okMu, backR, putS, isM, dList, dIsN, dNotN, Dv.isNon, dTup, isStr, Dv.isObj, madeR, mkR, isRefR, ePart, dNeg, dNotB, seqD, dTx, Is.fl, Is.bind, Dv.zipO, zipD, enumD, dSl, iMap, hIf, hIs, hRetL, hCons, hFl, hNil, h1]
theorem r_name_no {l : List Nat} (hl : l.length ≤ 100) (h : nameL l = false) : f_is_name [.sh (.str l)] = .ok (.sh (.bl false)) [.no] := by
  have hl' : l.length ≤ lim := Nat.le_trans hl (by decide)
  unfold f_is_name g_is_name
  by_cases h8 : l.length ≤ 8
  · have hv := name_val h8
    rw [h] at hv
    have h9 : ¬ (8 : Int) < l.length := by omega
    cases ha : Txt.isascii (S l)
    · simp [rdv, dI2, dCmp, blD, fnF, okKp, kpL, intO, rdL, dInt, dAdd, outE, dLen, dAbs, shL, runF, mkE, slOf, nrm, muOf, okMu, backR, putS, isM, dList, dIsN, dNotN, Dv.isNon, dTup, isStr, Dv.isObj, madeR, mkR, isRefR, ePart, dNeg, dNotB, seqD, dTx, Is.fl, Is.bind, Dv.zipO, zipD, enumD, dSl, iMap, hIf, hIs, hRetL, hCons, hFl, hNil, h9, hl', ha]
    · cases hb : Txt.isalpha (S l)
      · simp [rdv, dI2, dCmp, blD, fnF, okKp, kpL, intO, rdL, dInt, dAdd, outE, dLen, dAbs, shL, runF, mkE, slOf, nrm, muOf, okMu, backR, putS, isM, dList, dIsN, dNotN, Dv.isNon, dTup, isStr, Dv.isObj, madeR, mkR, isRefR, ePart, dNeg, dNotB, seqD, dTx, Is.fl, Is.bind, Dv.zipO, zipD, enumD, dSl, iMap, hIf, hIs, hRetL, hCons, hFl, hNil, h9, hl', ha, hb]
      · rw [ha, hb] at hv
        have hv' : Txt.islower (S l) = false := by simpa [rdv, dI2, dCmp, blD, fnF, okKp, kpL, intO, rdL, dInt, dAdd, outE, dLen, dAbs, shL, runF, mkE, slOf, nrm, muOf, okMu, backR, putS, isM, dList, dIsN, dNotN, Dv.isNon, dTup, isStr, Dv.isObj, madeR, mkR, isRefR, ePart, dNeg, dNotB, seqD, dTx, Is.fl, Is.bind, Dv.zipO, zipD, enumD, dSl, iMap, hIf, hIs, hRetL, hCons, hFl, hNil] using hv
        simp [rdv, dI2, dCmp, blD, fnF, okKp, kpL, intO, rdL, dInt, dAdd, outE, dLen, dAbs, shL, runF, mkE, slOf, nrm, muOf, okMu, backR, putS, isM, dList, dIsN, dNotN, Dv.isNon, dTup, isStr, Dv.isObj, madeR, mkR, isRefR, ePart, dNeg, dNotB, seqD, dTx, Is.fl, Is.bind, Dv.zipO, zipD, enumD, dSl, iMap, hIf, hIs, hRetL, hCons, hFl, hNil, h9, hl', ha, hb, hv']
  · have h9 : (8 : Int) < l.length := by omega
    simp [rdv, dI2, dCmp, blD, fnF, okKp, kpL, intO, rdL, dInt, dAdd, outE, dLen, dAbs, shL, runF, mkE, slOf, nrm, muOf, okMu, backR, putS, isM, dList, dIsN, dNotN, Dv.isNon, dTup, isStr, Dv.isObj, madeR, mkR, isRefR, ePart, dNeg, dNotB, seqD, dTx, Is.fl, Is.bind, Dv.zipO, zipD, enumD, dSl, iMap, hIf, hIs, hRetL, hCons, hFl, hNil, h9, hl']
def odds : List D := [.tup [.str wA, .int (-1)], .tup [.str wS, .int (-1)], .tup [.str [112, 117, 116], .int 1], .tup [.str wA], .tup [.str wA, .int 1, .int 1], .lst [.str wA, .int 1], .str wA, .non, .tup [.str wA, .bl true], .int 3, .tup [.str wA, .str [49]], .tup [.str wS, .non], .tup [.int 1, .str wA], .tup [.str [65, 100, 100], .int 1], .tup []]
theorem odd_len : odds.length = 15 := rfl
theorem r_odd {d : D} (h : d ∈ odds) : f_is_change [nrm d] = .ok (.sh (.bl false)) [.no] := by
  have l2 : (2 : Nat) ≤ lim := by decide
  have i1 := r_nat_neg (i := -1) (by decide)
  have n1 := r_nat_bl (b := true)
  have n2 := r_nat_str (l := [49])
  have n3 := r_nat_non
  have d1 : dIn false (.str wA) (.tup [.str [97, 100, 100], .str [115, 101, 116]]) = some (.sh (.bl true)) := rfl
  have d2 : dIn false (.str wS) (.tup [.str [97, 100, 100], .str [115, 101, 116]]) = some (.sh (.bl true)) := rfl
  have d3 : dIn false (.str [112, 117, 116]) (.tup [.str [97, 100, 100], .str [115, 101, 116]]) = some (.sh (.bl false)) := rfl
  have d4 : dIn false (.str [65, 100, 100]) (.tup [.str [97, 100, 100], .str [115, 101, 116]]) = some (.sh (.bl false)) := rfl
  have t1 : ∀ ds, dIsi ownC [.lst ds, .ty "tuple"] = some (.sh (.bl false)) := fun _ => rfl
  have t2 : ∀ l, dIsi ownC [.str l, .ty "tuple"] = some (.sh (.bl false)) := fun _ => rfl
  have t3 : dIsi ownC [.non, .ty "tuple"] = some (.sh (.bl false)) := rfl
  have t4 : ∀ i, dIsi ownC [.int i, .ty "tuple"] = some (.sh (.bl false)) := fun _ => rfl
  have t5 : ∀ i, dIsi ownC [.int i, .ty "str"] = some (.sh (.bl false)) := fun _ => rfl
  unfold f_is_change g_is_change
  simp only [odds, List.mem_cons, List.not_mem_nil, or_false] at h
  rcases h with rfl | rfl | rfl | rfl | rfl | rfl | rfl | rfl | rfl | rfl | rfl | rfl | rfl | rfl | rfl <;> simp [rdv, dI2, dCmp, blD, fnF, okKp, kpL, intO, rdL, dInt, dAdd, outE, dLen, dAbs, shL, runF, mkE, slOf, nrm, muOf, okMu, backR, putS, isM, dList, dIsN, dNotN, Dv.isNon, dTup, isStr, Dv.isObj, madeR, mkR, isRefR, ePart, dNeg, dNotB, seqD, dTx, Is.fl, Is.bind, Dv.zipO, zipD, enumD, dSl, iMap, hIf, hIs, hRetL, hCons, hFl, hNil, l2, i1, n1, n2, n3, d1, d2, d3, d4, t1, t2, t3, t4, t5]
theorem r_made_exc {l : List (List Nat)} {F : List Nat → D} {c : List Nat} (nd : l.Nodup) (hl : l.length ≤ 60) (hc : c ∈ l) (hp : ∀ n ∈ l, n ≠ c → ltCps c n = false → nameL n = true ∧ f_is_change [nrm (F n)] = .ok (.sh (.bl true)) [.no])
    (hf : f_is_name [.sh (.str c)] = .ok (.sh (.bl false)) [.no] ∨ (nameL c = true ∧ f_is_change [nrm (F c)] = .ok (.sh (.bl false)) [.no])) : f_Lmade [.bo (.dct (l.map fun n => (D.str n, F n)))] = .ok (.ow (.lst [.str c, .bl true])) [.no] := by
  obtain ⟨pre, post, e, hpre⟩ := sort_cut nd hc
  have s1 := dSort_dct (F := F) (l := l) (by omega)
  rw [e] at s1
  have hx : ∀ n ∈ l, dIx (.dct (l.map fun n => (D.str n, F n))) (.str n) = some (.sh (F n)) := fun n hn => dIx_map hn
  generalize (l.map fun n => (D.str n, F n)) = X at *
  have h1 := forL_raise (tg := tgN 2) (f := b0_Action_init) (fun (z : Sl) => [.ow (.obj 0 []), .bo (.dct X), z]) D.str (c := 4) (fs := [.str c]) (e' := [.ow (.obj 0 []), .bo (.dct X), .sh (.str c)]) pre c post .no
    (fun y hy z => by
      obtain ⟨m1, m2, m3⟩ := hpre y hy
      obtain ⟨h4, h5⟩ := hp y m1 m2 m3
      have h6 := r_is_name h4
      have h7 := hx y m1
      refine ⟨[.ow (.obj 0 []), .bo (.dct X), .sh (.str y)], .sh (.str y), rfl, ?_⟩
      have h8 : nrm (.str y) = .sh (.str y) := rfl
      unfold b0_Action_init
      simp [rdv, dI2, dCmp, blD, fnF, okKp, kpL, intO, rdL, dInt, dAdd, outE, dLen, dAbs, shL, runF, mkE, slOf, muOf, okMu, backR, putS, dList, dIsN, dNotN, Dv.isNon, dTup, isStr, Dv.isObj, madeR, mkR, isRefR, ePart, dNeg, dNotB, seqD, dTx, Is.fl, Is.bind, Dv.zipO, zipD, enumD, dSl, iMap, hIf, hIs, hRetL, hCons, hFl, hNil, h7, h6, h5, h8])
    (fun z => by
      refine ⟨[.ow (.obj 0 []), .bo (.dct X), .sh (.str c)], rfl, ?_⟩
      have h7 := hx c hc
      unfold b0_Action_init
      rcases hf with h6 | ⟨h4, h5⟩
      · simp [rdv, dI2, dCmp, blD, fnF, okKp, kpL, intO, rdL, dInt, dAdd, outE, dLen, dAbs, shL, runF, mkE, slOf, nrm, muOf, okMu, backR, putS, isM, dList, dIsN, dNotN, Dv.isNon, dTup, isStr, Dv.isObj, madeR, mkR, isRefR, ePart, dNeg, dNotB, seqD, dTx, Is.fl, Is.bind, Dv.zipO, zipD, enumD, dSl, iMap, hIf, hIs, hRetL, hCons, hFl, hNil, h6, fRaise]
      · have h6 := r_is_name h4
        have h8 : nrm (.str c) = .sh (.str c) := rfl
        simp [rdv, dI2, dCmp, blD, fnF, okKp, kpL, intO, rdL, dInt, dAdd, outE, dLen, dAbs, shL, runF, mkE, slOf, muOf, okMu, backR, putS, dList, dIsN, dNotN, Dv.isNon, dTup, isStr, Dv.isObj, madeR, mkR, isRefR, ePart, dNeg, dNotB, seqD, dTx, Is.fl, Is.bind, Dv.zipO, zipD, enumD, dSl, iMap, hIf, hIs, hRetL, hCons, hFl, hNil, h7, h6, h5, h8, fRaise])
  have l2 : (2 : Nat) ≤ lim := by decide
  generalize (pre ++ c :: post).map D.str = Ls at s1 h1
  have h2 : f_Action_init [.ow (.obj 0 []), .bo (.dct X)] = .exc 4 [.str c] [.ow (.obj 0 []), .no] := by
    unfold f_Action_init g_Action_init
    simp [rdv, dI2, dCmp, blD, fnF, okKp, kpL, intO, rdL, dInt, dAdd, outE, dLen, dAbs, shL, runF, mkE, slOf, nrm, muOf, okMu, backR, putS, isM, dList, dIsN, dNotN, Dv.isNon, dTup, isStr, Dv.isObj, madeR, mkR, isRefR, ePart, dNeg, dNotB, seqD, dTx, Is.fl, Is.bind, Dv.zipO, zipD, enumD, dSl, iMap, hIf, hIs, hRetL, hCons, hFl, hNil, s1, h1]
  unfold f_Lmade g_Lmade
  simp [rdv, dI2, dCmp, blD, fnF, okKp, kpL, intO, rdL, dInt, dAdd, outE, dLen, dAbs, shL, runF, mkE, slOf, nrm, muOf, okMu, backR, putS, isM, dList, dIsN, dNotN, Dv.isNon, dTup, isStr, Dv.isObj, madeR, mkR, isRefR, ePart, dNeg, dNotB, seqD, dTx, Is.fl, Is.bind, Dv.zipO, zipD, enumD, dSl, iMap, hIf, hIs, hRetL, hCons, hFl, hNil, fTry, h2, catG, hRetL, hCons, hFl, hIs, isG, hNil, l2]
theorem r_made_ok {ks : List (List Nat)} {h : Hm} (hl : ks.length ≤ 60) (nd : ks.Nodup) (hn : ∀ k ∈ ks, nameL k = true) : f_Lmade [.bo (.dct (ks.map fun n => (D.str n, chD (h n))))] = .ok (.ow (.lst [])) [.no] := by
  have h1 := r_Action_init (h := h) (by omega) nd hn
  obtain ⟨x3, y3⟩ : ∃ x, acD ks h = .obj 0 x := ⟨_, rfl⟩
  rw [y3] at h1
  unfold f_Lmade g_Lmade
  simp [rdv, dI2, dCmp, blD, fnF, okKp, kpL, intO, rdL, dInt, dAdd, outE, dLen, dAbs, shL, runF, mkE, slOf, nrm, muOf, okMu, backR, putS, isM, dList, dIsN, dNotN, Dv.isNon, dTup, isStr, Dv.isObj, madeR, mkR, isRefR, ePart, dNeg, dNotB, seqD, dTx, Is.fl, Is.bind, Dv.zipO, zipD, enumD, dSl, iMap, hIf, hIs, hRetL, hCons, hFl, hNil, fTry, h1]
@[simp] theorem ap_eMulOwn {c : Nat} {ms : List Md} {f a b : En → Rs} {e : En} : eMulOwn c ms f a b e = ((pubR (a e)).bind fun r1 e1 => (pubR (b e1)).bind fun r2 e2 => if (objR c e2 r1 && tyR e2 r2) = true then isRefR (runF ms f [r1, r2] e2) else .stuck) := rfl
@[simp] theorem ap_eEqOwn {c : Nat} {ms : List Md} {f a b : En → Rs} {e : En} : eEqOwn c ms f a b e = ((pubR (a e)).bind fun r1 e1 => (pubR (b e1)).bind fun r2 e2 => if (objR c e2 r1 && objR c e2 r2) = true then isBlR (runF ms f [r1, r2] e2) else .stuck) := rfl
@[simp] theorem ap_eStrOwn {c : Nat} {ms : List Md} {f a : En → Rs} {e : En} : eStrOwn c ms f a e = ((pubR (a e)).bind fun r1 e1 => if objR c e1 r1 = true then isStrR (runF ms f [r1] e1) else .stuck) := rfl
@[simp] theorem objR_sh {c : Nat} {e : En} {fs : List D} : objR c e (.sh (.obj c fs)) = true := by simp [rdv, dI2, dCmp, blD, fnF, okKp, kpL, intO, rdL, dInt, dAdd, outE, dLen, dAbs, shL, runF, mkE, slOf, nrm, muOf, okMu, backR, putS, isM, dList, dIsN, dNotN, Dv.isNon, dTup, isStr, Dv.isObj, madeR, mkR, isRefR, ePart, dNeg, dNotB, seqD, dTx, Is.fl, Is.bind, Dv.zipO, zipD, enumD, dSl, iMap, hIf, hIs, hRetL, hCons, hFl, hNil, objR, rdv, Dv.isObj]
theorem r_times_exc {ns : List (List Nat)} {h : Hm} {d : D} (ht : ∀ e, tyR e (.sh d) = true) (hd : f_is_natural [nrm d] = .ok (.sh (.bl false)) [.no]) : f_Ltimes [.bo (acD ns h), .sh d] = .ok (.ow (.lst [.str [116, 105, 109, 101, 115], d])) [.no, .no] := by
  have l2 : (2 : Nat) ≤ lim := by decide
  obtain ⟨x3, y3⟩ : ∃ x, acD ns h = .obj 0 x := ⟨_, rfl⟩
  rw [y3]
  have h2 : f_Action_mul [.bo (.obj 0 x3), .sh d] = .exc 5 [d] [.no, .no] := by
    unfold f_Action_mul g_Action_mul
    simp [rdv, dI2, dCmp, blD, fnF, okKp, kpL, intO, rdL, dInt, dAdd, outE, dLen, dAbs, shL, runF, mkE, slOf, muOf, okMu, backR, putS, dList, dIsN, dNotN, Dv.isNon, dTup, isStr, Dv.isObj, madeR, mkR, isRefR, ePart, dNeg, dNotB, seqD, dTx, Is.fl, Is.bind, Dv.zipO, zipD, enumD, dSl, iMap, hIf, hIs, hRetL, hCons, hFl, hNil, hd, fRaise]
  have h8 : nrm (.obj 0 x3) = .bo (.obj 0 x3) := rfl
  unfold f_Ltimes g_Ltimes
  simp [rdv, dI2, dCmp, blD, fnF, okKp, kpL, intO, rdL, dInt, dAdd, outE, dLen, dAbs, shL, runF, mkE, slOf, muOf, okMu, backR, putS, dList, dIsN, dNotN, Dv.isNon, dTup, isStr, Dv.isObj, madeR, mkR, isRefR, ePart, dNeg, dNotB, seqD, dTx, Is.fl, Is.bind, Dv.zipO, zipD, enumD, dSl, iMap, hIf, hIs, hRetL, hCons, hFl, hNil, fTry, h2, h8, catM, hRetL, hCons, hC, hFl, hNil, l2, objR, ht]
end Pt
namespace Pt
open PySem PySem.Spec PyProof.Rows L2 Dv
open SX (S S_len S_cat)
@[simp] theorem pubR_x {c : Nat} {fs : List D} {e : En} : pubR (.exc c fs e) = .exc c fs e := rfl
@[simp] theorem Rsb_x {c : Nat} {fs : List D} {e : En} {k : Rv → En → Rs} : (Rs.exc c fs e).bind k = .exc c fs e := rfl
@[simp] theorem Asb_x {c : Nat} {fs : List D} {e : En} {k : List Rv → En → Rs} : (As.exc c fs e).bind k = .exc c fs e := rfl
@[simp] theorem Rsf_x {c : Nat} {fs : List D} {e : En} {k : Rv → En → Fl} : (Rs.exc c fs e).fl k = .exc c fs e := rfl
/-! what may be shown -/
def pyW : List Nat → D → D := fun w d => .lst [.str w, d]
def wT : List Nat := [116, 105, 109, 101, 115]
def wN : List Nat := [110, 117, 109, 98, 101, 114]
def tmsD : List D := [.int (-1), .bl true, .non, .str [50], .bl false, .lst [.int 1], .int (-100000000000000000000)]
def rpB (d : D) : Bool := match pyD d with
  | some p => okRp p
  | none => false
theorem rp_times : ∀ d ∈ tmsD, rpB (pyW wT d) = true := by
  intro d h
  simp only [tmsD, List.mem_cons, List.not_mem_nil, or_false] at h
  rcases h with rfl | rfl | rfl | rfl | rfl | rfl | rfl <;> decide +kernel
def numD : List D := [.int (-1), .non, .bl true, .str [52], .int (-7)]
theorem rp_num : ∀ d ∈ numD, rpB (pyW wN d) = true := by
  intro d h
  simp only [numD, List.mem_cons, List.not_mem_nil, or_false] at h
  rcases h with rfl | rfl | rfl | rfl | rfl <;> decide +kernel
theorem repr_ok {w : List Nat} {d : D} (h : rpB (pyW w d) = true) : ∃ l, dRepr [.lst [.str w, d]] = some (.sh (.str l)) := by
  unfold rpB pyW at h
  cases q : pyD (.lst [.str w, d]) with
  | none => rw [q] at h; cases h
  | some p =>
    rw [q] at h
    refine ⟨p.shown.cps.toList, ?_⟩
    show ((pyD (.lst [.str w, d])).bind fun p => if okRp p = true then some (Rv.sh (D.str p.shown.cps.toList)) else none) = _
    rw [q]
    show (if okRp p = true then some (Rv.sh (D.str p.shown.cps.toList)) else none) = _
    rw [if_pos h]
theorem tm_ty {d : D} (h : d ∈ tmsD) : (∀ e, tyR e (.sh d) = true) ∧ f_is_natural [nrm d] = .ok (.sh (.bl false)) [.no] := by
  simp only [tmsD, List.mem_cons, List.not_mem_nil, or_false] at h
  rcases h with rfl | rfl | rfl | rfl | rfl | rfl | rfl
  · exact ⟨fun _ => rfl, r_nat_neg (by decide)⟩
  · exact ⟨fun _ => rfl, r_nat_bl⟩
  · exact ⟨fun _ => rfl, r_nat_non⟩
  · exact ⟨fun _ => rfl, r_nat_str⟩
  · exact ⟨fun _ => rfl, r_nat_bl⟩
  · exact ⟨fun _ => rfl, r_nat_lst⟩
  · exact ⟨fun _ => rfl, r_nat_neg (by decide)⟩
/-- numbers with a wrong one -/
theorem r_of_exc {ns l : List (List Nat)} {h : Hm} {F : List Nat → D} {c : List Nat} (nd : l.Nodup) (hl : l.length ≤ 60) (hc : c ∈ l) (hp : ∀ n ∈ l, n ≠ c → ltCps c n = false → f_is_natural [nrm (F n)] = .ok (.sh (.bl true)) [.no])
    (hf : f_is_natural [nrm (F c)] = .ok (.sh (.bl false)) [.no]) : f_Lof [.bo (acD ns h), .bo (.dct (l.map fun n => (D.str n, F n)))] = .ok (.ow (.lst [.str wN, F c])) [.no, .no] := by
  obtain ⟨pre, post, e, hpre⟩ := sort_cut nd hc
  have s1 := dSort_dct (F := F) (l := l) (by omega)
  rw [e] at s1
  have hx : ∀ n ∈ l, dIx (.dct (l.map fun n => (D.str n, F n))) (.str n) = some (.sh (F n)) := fun n hn => dIx_map hn
  generalize (l.map fun n => (D.str n, F n)) = X at *
  obtain ⟨x3, y3⟩ : ∃ x, acD ns h = .obj 0 x := ⟨_, rfl⟩
  rw [y3]
  have h1 := forL_raise (tg := tgN 2) (f := b0_Action_of) (fun (z : Sl) => [.bo (.obj 0 x3), .bo (.dct X), z]) D.str (c := 3) (fs := [F c]) (e' := [.bo (.obj 0 x3), .bo (.dct X), .sh (.str c)]) pre c post .no
    (fun y hy z => by
      obtain ⟨m1, m2, m3⟩ := hpre y hy
      have h5 := hp y m1 m2 m3
      have h7 := hx y m1
      refine ⟨[.bo (.obj 0 x3), .bo (.dct X), .sh (.str y)], .sh (.str y), rfl, ?_⟩
      unfold b0_Action_of
      simp [rdv, dI2, dCmp, blD, fnF, okKp, kpL, intO, rdL, dInt, dAdd, outE, dLen, dAbs, shL, runF, mkE, slOf, muOf, okMu, backR, putS, dList, dIsN, dNotN, Dv.isNon, dTup, isStr, Dv.isObj, madeR, mkR, isRefR, ePart, dNeg, dNotB, seqD, dTx, Is.fl, Is.bind, Dv.zipO, zipD, enumD, dSl, iMap, hIf, hIs, hRetL, hCons, hFl, hNil, h7, h5])
    (fun z => by
      refine ⟨[.bo (.obj 0 x3), .bo (.dct X), .sh (.str c)], rfl, ?_⟩
      have h7 := hx c hc
      unfold b0_Action_of
      simp [rdv, dI2, dCmp, blD, fnF, okKp, kpL, intO, rdL, dInt, dAdd, outE, dLen, dAbs, shL, runF, mkE, slOf, muOf, okMu, backR, putS, dList, dIsN, dNotN, Dv.isNon, dTup, isStr, Dv.isObj, madeR, mkR, isRefR, ePart, dNeg, dNotB, seqD, dTx, Is.fl, Is.bind, Dv.zipO, zipD, enumD, dSl, iMap, hIf, hIs, hRetL, hCons, hFl, hNil, h7, hf, fRaise])
  have l2 : (2 : Nat) ≤ lim := by decide
  generalize (pre ++ c :: post).map D.str = Ls at s1 h1
  have h2 : f_Action_of [.bo (.obj 0 x3), .bo (.dct X)] = .exc 3 [F c] [.no, .no] := by
    unfold f_Action_of g_Action_of
    simp [rdv, dI2, dCmp, blD, fnF, okKp, kpL, intO, rdL, dInt, dAdd, outE, dLen, dAbs, shL, runF, mkE, slOf, nrm, muOf, okMu, backR, putS, isM, dList, dIsN, dNotN, Dv.isNon, dTup, isStr, Dv.isObj, madeR, mkR, isRefR, ePart, dNeg, dNotB, seqD, dTx, Is.fl, Is.bind, Dv.zipO, zipD, enumD, dSl, iMap, hIf, hIs, hRetL, hCons, hFl, hNil, s1, h1]
  unfold f_Lof g_Lof
  simp [rdv, dI2, dCmp, blD, fnF, okKp, kpL, intO, rdL, dInt, dAdd, outE, dLen, dAbs, shL, runF, mkE, slOf, nrm, muOf, okMu, backR, putS, isM, dList, dIsN, dNotN, Dv.isNon, dTup, isStr, Dv.isObj, madeR, mkR, isRefR, ePart, dNeg, dNotB, seqD, dTx, Is.fl, Is.bind, Dv.zipO, zipD, enumD, dSl, iMap, hIf, hIs, hRetL, hCons, hFl, hNil, fTry, h2, catN, hRetL, hCons, hC, hFl, hNil, l2, wN]
end Pt
namespace Pt
open PySem PySem.Spec PyProof.Rows L2 Dv
open SX (S S_len S_cat)
/-! what the law asks of refusals -/
theorem times_loop {ns : List (List Nat)} {h : Hm} (R : Sl → En) (hR2 : ∀ z, (R z)[2]? = some (.bo (acD ns h))) (hR8 : ∀ z, (R z)[8]? = some z) (hS : ∀ z d, (R z).set 8 (.sh d) = R (.sh d)) (hl : ∀ z, (R z).length = 13) : ∀ (ds : List D) (z : Sl), (∀ d ∈ ds, d ∈ tmsD) → ∃ z', forL (tgN 8) b0_Lrefused ds (R z) = .nx (R z')
  | [], z, _ => ⟨z, rfl⟩
  | d :: ds, z, hd => by
    obtain ⟨z', ih⟩ := times_loop R hR2 hR8 hS hl ds (.sh d) fun x hx => hd x (List.mem_cons_of_mem _ hx)
    have hm := hd d (List.mem_cons_self ..)
    obtain ⟨ht, hn⟩ := tm_ty hm
    have h1 := r_times_exc (ns := ns) (h := h) ht hn
    obtain ⟨l, h2⟩ := repr_ok (w := wT) (rp_times d hm)
    have h2' : dRepr [.lst [.str [116, 105, 109, 101, 115], d]] = some (.sh (.str l)) := h2
    have hr2 := hR2 (.sh d)
    have hr8 := hR8 (.sh d)
    have tg : tgN 8 d (R z) = some (R (.sh d)) := by
      unfold tgN
      rw [if_pos (by rw [hl]; decide), hS]
    refine ⟨z', ?_⟩
    unfold forL
    rw [tg]
    have l2 : (2 : Nat) ≤ lim := by decide
    have st : b0_Lrefused (R (.sh d)) = .nx (R (.sh d)) := by
      obtain ⟨x3, y3⟩ : ∃ x, acD ns h = .obj 0 x := ⟨_, rfl⟩
      rw [y3] at h1 hr2
      have h8 : nrm (.obj 0 x3) = .bo (.obj 0 x3) := rfl
      generalize R (.sh d) = e at *
      unfold b0_Lrefused
      simp [rdv, dI2, dCmp, blD, fnF, okKp, kpL, intO, rdL, dInt, dAdd, outE, dLen, dAbs, shL, runF, mkE, slOf, muOf, okMu, backR, putS, dList, dIsN, dNotN, Dv.isNon, dTup, isStr, Dv.isObj, madeR, mkR, isRefR, ePart, dNeg, dNotB, seqD, dTx, Is.fl, Is.bind, Dv.zipO, zipD, enumD, dSl, iMap, hIf, hIs, hRetL, hCons, hFl, hNil, hr2, hr8, h8, h1, h2', l2]
    dsimp only
    rw [st]
    exact ih
end Pt
namespace Pt
open PySem PySem.Spec PyProof.Rows L2 Dv
open SX (S S_len S_cat)
theorem pairs_of {F : List Nat → D} : ∀ {l : List (List Nat)}, pairsD (l.map fun n => .tup [.str n, F n]) = some (l.map fun n => (.str n, F n))
  | [] => rfl
  | n :: l => by
    rw [List.map_cons, List.map_cons]
    show (if (keyD (.str n)).isSome = true then (pairsD (l.map fun n => .tup [.str n, F n])).bind fun ps => some ((.str n, F n) :: ps) else none) = _
    rw [if_pos (show (keyD (.str n)).isSome = true from rfl), pairs_of]
    rfl
theorem dict_of {F : List Nat → D} {l : List (List Nat)} (nd : l.Nodup) : dDict [.lst (l.map fun n => .tup [.str n, F n])] = some (.ow (.dct (l.map fun n => (.str n, F n)))) := by
  show (pairsD _).map _ = _
  rw [pairs_of]
  show some (Rv.ow (.dct (mergeD [] _))) = _
  rw [mergeD_new (fun _ _ _ h => absurd h List.not_mem_nil) (List.pairwise_map.mpr (nd.imp fun h => decide_eq_false h)), List.nil_append]
theorem put_in {ks : List (List Nat)} {F : List Nat → D} {c : List Nat} {v : D} (h : c ∈ ks) : putD (ks.map fun n => (D.str n, F n)) (.str c) v = ks.map fun n => (D.str n, if n = c then v else F n) := by
  rw [putD_map]
  unfold insK
  rw [if_pos h]
theorem atI_last {α : Type} {xs : List α} (h : 0 < xs.length) : ∃ x, atI xs (-1) = some x ∧ xs[xs.length - 1]? = some x := by
  refine ⟨xs[xs.length - 1]'(by omega), ?_, List.getElem?_eq_getElem _⟩
  have e : ixN xs.length (-1) = some (xs.length - 1) := by
    unfold ixN
    rw [if_neg (by decide)]
    have h2 : (0 : Int) ≤ (xs.length : Int) + -1 := by omega
    first
      | rw [if_pos h2]; congr 1; omega
      | rw [if_pos (by omega)]; congr 1; omega
  unfold atI
  rw [e]
  show xs[xs.length - 1]? = _
  exact List.getElem?_eq_getElem _
theorem last_ge {l : List (List Nat)} {i : Nat} {c z : List Nat} (hc : (sortT l)[i]? = some c) (hz : (sortT l)[(sortT l).length - 1]? = some z) (ne : c ≠ z) : ltCps z c = false := by
  obtain ⟨h1, e1⟩ := List.getElem?_eq_some_iff.mp hc
  obtain ⟨h2, e2⟩ := List.getElem?_eq_some_iff.mp hz
  have hi : i < (sortT l).length - 1 := by
    by_cases q : i = (sortT l).length - 1
    · subst q; exact absurd (e1.symm.trans e2) ne
    · omega
  have := (List.pairwise_iff_getElem.mp (sortT_sorted l)) i ((sortT l).length - 1) h1 h2 hi
  rw [e1, e2] at this
  exact this
def bads : List (List Nat) := [[], [65], [110, 105, 110, 101, 108, 101, 116, 116, 101], [97, 32, 98], [97, 49]]
def z8 : List Nat := [122, 122, 122, 122, 122, 122, 122, 122]
def z3 : List Nat := [122, 122, 122]
theorem bad_facts {b : List Nat} (h : b ∈ bads) : nameL b = false ∧ b.length ≤ 100 ∧ ltCps b z8 = true ∧ b ≠ z8 ∧ b < z8 := by
  simp only [bads, List.mem_cons, List.not_mem_nil, or_false] at h
  rcases h with rfl | rfl | rfl | rfl | rfl <;> exact ⟨by decide, by decide, by decide, by decide, by decide⟩
theorem bas_facts {c : List Nat} (h : c ∈ bas5) : ltCps c z3 = true ∧ c ≠ z3 ∧ c ≠ z8 ∧ c ≠ [110, 111, 110, 101] ∧ c < z3 := by
  simp only [bas5, List.mem_cons, List.not_mem_nil, or_false] at h
  rcases h with rfl | rfl | rfl | rfl | rfl <;> exact ⟨by decide, by decide, by decide, by decide, by decide⟩
theorem lay_str {c : List Nat} (h : c ∈ bas5 ++ bads) : PyData.canLay0 (.str (S c)) = true := by
  simp only [bas5, bads, List.cons_append, List.nil_append, List.mem_cons, List.not_mem_nil, or_false] at h
  rcases h with rfl | rfl | rfl | rfl | rfl | rfl | rfl | rfl | rfl | rfl <;> decide +kernel
theorem ne_true {c : List Nat} (h : c ∈ bas5 ++ bads) : dNe (.lst [.str c, .bl true]) (.lst [.str c, .bl true]) = some (.sh (.bl false)) := by
  have h2 := lay_str h
  have e : eqD1 (.lst [.str c, .bl true]) (.lst [.str c, .bl true]) = some true := by
    show eqPy _ _ = _
    simp [rdv, dI2, dCmp, blD, fnF, okKp, kpL, intO, rdL, dInt, dAdd, outE, dLen, dAbs, shL, runF, mkE, slOf, nrm, muOf, okMu, backR, putS, isM, dList, dIsN, dNotN, Dv.isNon, dTup, isStr, Dv.isObj, madeR, mkR, isRefR, ePart, dNeg, dNotB, seqD, dTx, Is.fl, Is.bind, Dv.zipO, zipD, enumD, dSl, iMap, hIf, hIs, hRetL, hCons, hFl, hNil, eqPy, pyD, pyL, SeqAt.shaped, PyData.eqv, PyData.eqvAll, PyData.canLay0, PyData.canLayAll0, PyData.depth, PyData.depthAll] at h2 ⊢
    simp [rdv, dI2, dCmp, blD, fnF, okKp, kpL, intO, rdL, dInt, dAdd, outE, dLen, dAbs, shL, runF, mkE, slOf, nrm, muOf, okMu, backR, putS, isM, dList, dIsN, dNotN, Dv.isNon, dTup, isStr, Dv.isObj, madeR, mkR, isRefR, ePart, dNeg, dNotB, seqD, dTx, Is.fl, Is.bind, Dv.zipO, zipD, enumD, dSl, iMap, hIf, hIs, hRetL, hCons, hFl, hNil, h2]
  unfold dNe
  rw [e]
  rfl
theorem ne_nil : dNe (.lst []) (.lst []) = some (.sh (.bl false)) := by
  have e : eqD1 (.lst []) (.lst []) = some true := by
    show eqPy _ _ = _
    simp [rdv, dI2, dCmp, blD, fnF, okKp, kpL, intO, rdL, dInt, dAdd, outE, dLen, dAbs, shL, runF, mkE, slOf, nrm, muOf, okMu, backR, putS, isM, dList, dIsN, dNotN, Dv.isNon, dTup, isStr, Dv.isObj, madeR, mkR, isRefR, ePart, dNeg, dNotB, seqD, dTx, Is.fl, Is.bind, Dv.zipO, zipD, enumD, dSl, iMap, hIf, hIs, hRetL, hCons, hFl, hNil, eqPy, pyD, pyL, SeqAt.shaped, PyData.eqv, PyData.eqvAll, PyData.canLay0, PyData.canLayAll0, PyData.depth, PyData.depthAll]
  unfold dNe
  rw [e]
  rfl
end Pt
namespace Pt
open PySem PySem.Spec PyProof.Rows L2 Dv
open SX (S S_len S_cat)
theorem r_refused {A B : Int} (ht : TapeOk A B) {ks : List (List Nat)} {h : Hm} (nd : ks.Nodup) (l1 : 1 ≤ ks.length) (l5 : ks.length ≤ 5) (hb : ∀ n ∈ ks, n ∈ bas5) : ∃ A' B', TapeOk A' B' ∧
    f_Lrefused [.ow (tapeD A B), .bo (.dct (ks.map fun n => (D.str n, chD (h n)))), .bo (acD ks h)] = .ok (.sh (.bl true)) [.ow (tapeD A' B'), .no, .no] := by
  have nms : ∀ k ∈ ks, nameL k = true := fun k hk => bas5_nm k (hb k hk)
  have sl := sort_len (l := ks)
  have snd := sort_nd nd
  obtain ⟨r, A1, B1, p1, r0, r1, t1⟩ := r_pick ht (m := (ks.length : Int)) (by omega) (by omega)
  obtain ⟨c, c1, c2, c3⟩ := atI_nat (xs := sortT ks) r0 (by omega)
  obtain ⟨z, z1, z2⟩ := atI_last (xs := sortT ks) (by omega)
  have hc : c ∈ ks := mem_sort.mp c3
  have hz : z ∈ ks := mem_sort.mp (List.mem_of_getElem? z2)
  have hcb := hb c hc
  have c1' := atI_map D.str c1
  have z1' := atI_map D.str z1
  obtain ⟨q1, A2, B2, p2, q10, q11, t2⟩ := r_pick t1 (m := 15) (by omega) (by omega)
  obtain ⟨o1, o11, _, o12⟩ := atI_nat (xs := odds) q10 (by rw [odd_len]; omega)
  obtain ⟨q2, A3, B3, p3, q20, q21, t3⟩ := r_pick t2 (m := 15) (by omega) (by omega)
  obtain ⟨o2, o21, _, o22⟩ := atI_nat (xs := odds) q20 (by rw [odd_len]; omega)
  obtain ⟨q3, A4, B4, p4, q30, q31, t4⟩ := r_pick t3 (m := 5) (by omega) (by omega)
  obtain ⟨b, b1, _, b2⟩ := atI_nat (xs := bads) q30 (by show q3 < 5; omega)
  have b1' := atI_map D.str b1
  obtain ⟨q4, A5, B5, p5, q40, q41, t5⟩ := r_pick t4 (m := 4) (by omega) (by omega)
  obtain ⟨v, v1, _, v2⟩ := atI_nat (xs := [D.int (-1), .non, .bl true, .str [52]]) q40 (by show q4 < 4; omega)
  obtain ⟨bf1, bf2, bf3, bf4, bf5⟩ := bad_facts b2
  obtain ⟨cf1, cf2, cf3, cf4, cf5⟩ := bas_facts hcb
  -- the three dicts
  have m1 := r_made_exc (l := ks) (F := fun n => if n = z then o2 else if n = c then o1 else chD (h n)) (c := c) nd (by omega) hc
    (fun n hn ne lt => by
      have nz : n ≠ z := fun e => by
        subst e
        exact ne (lt_tri _ _ lt (last_ge c2 z2 (Ne.symm ne))).symm
      rw [if_neg nz, if_neg ne]
      exact ⟨nms n hn, r_is_change⟩)
    (.inr ⟨nms c hc, by
      by_cases e : c = z
      · rw [if_pos e]; exact r_odd o22
      · rw [if_neg e, if_pos rfl]; exact r_odd o12⟩)
  have bn : b ∉ ks := fun q => by
    rw [nms b q] at bf1
    cases bf1
  have zn : z8 ∉ ks := fun q => (bas_facts (hb _ q)).2.2.1 rfl
  have nd2 : (ks ++ [b, z8]).Nodup := by
    rw [List.nodup_append]
    refine ⟨nd, by simp [rdv, dI2, dCmp, blD, fnF, okKp, kpL, intO, rdL, dInt, dAdd, outE, dLen, dAbs, shL, runF, mkE, slOf, nrm, muOf, okMu, backR, putS, isM, dList, dIsN, dNotN, Dv.isNon, dTup, isStr, Dv.isObj, madeR, mkR, isRefR, ePart, dNeg, dNotB, seqD, dTx, Is.fl, Is.bind, Dv.zipO, zipD, enumD, dSl, iMap, hIf, hIs, hRetL, hCons, hFl, hNil, bf4], fun x hx y hy e => ?_⟩
    simp only [List.mem_cons, List.not_mem_nil, or_false] at hy
    rcases hy with rfl | rfl
    · exact bn (by rw [← e]; exact hx)
    · exact zn (by rw [← e]; exact hx)
  have m2 := r_made_exc (l := ks ++ [b, z8]) (F := fun n => if n = z8 then .tup [.str wA, .int (-1)] else if n = b then .tup [.str wA, .int 1] else chD (h n)) (c := b) nd2 (by simp [rdv, dI2, dCmp, blD, fnF, okKp, kpL, intO, rdL, dInt, dAdd, outE, dLen, dAbs, shL, runF, mkE, slOf, nrm, muOf, okMu, backR, putS, isM, dList, dIsN, dNotN, Dv.isNon, dTup, isStr, Dv.isObj, madeR, mkR, isRefR, ePart, dNeg, dNotB, seqD, dTx, Is.fl, Is.bind, Dv.zipO, zipD, enumD, dSl, iMap, hIf, hIs, hRetL, hCons, hFl, hNil]; omega) (by simp [rdv, dI2, dCmp, blD, fnF, okKp, kpL, intO, rdL, dInt, dAdd, outE, dLen, dAbs, shL, runF, mkE, slOf, nrm, muOf, okMu, backR, putS, isM, dList, dIsN, dNotN, Dv.isNon, dTup, isStr, Dv.isObj, madeR, mkR, isRefR, ePart, dNeg, dNotB, seqD, dTx, Is.fl, Is.bind, Dv.zipO, zipD, enumD, dSl, iMap, hIf, hIs, hRetL, hCons, hFl, hNil])
    (fun n hn ne lt => by
      have n8 : n ≠ z8 := fun e => by
        subst e
        rw [bf3] at lt
        cases lt
      have hk : n ∈ ks := by
        simp only [List.mem_append, List.mem_cons, List.not_mem_nil, or_false] at hn
        rcases hn with q | q | q
        · exact q
        · exact absurd q ne
        · exact absurd q n8
      rw [if_neg n8, if_neg ne]
      exact ⟨nms n hk, r_is_change⟩)
    (.inl (r_name_no bf2 bf1))
  have m3 := r_made_ok (h := h) (ks := ks) (by omega) nd nms
  have nd3 : ([z3] ++ ((sortT ks).reverse ++ [[110, 111, 110, 101]])).Nodup := by
    rw [List.nodup_append]
    refine ⟨by simp [rdv, dI2, dCmp, blD, fnF, okKp, kpL, intO, rdL, dInt, dAdd, outE, dLen, dAbs, shL, runF, mkE, slOf, nrm, muOf, okMu, backR, putS, isM, dList, dIsN, dNotN, Dv.isNon, dTup, isStr, Dv.isObj, madeR, mkR, isRefR, ePart, dNeg, dNotB, seqD, dTx, Is.fl, Is.bind, Dv.zipO, zipD, enumD, dSl, iMap, hIf, hIs, hRetL, hCons, hFl, hNil], ?_, fun x hx y hy e => ?_⟩
    · rw [List.nodup_append]
      refine ⟨(List.reverse_perm _).nodup_iff.mpr snd, by simp [rdv, dI2, dCmp, blD, fnF, okKp, kpL, intO, rdL, dInt, dAdd, outE, dLen, dAbs, shL, runF, mkE, slOf, nrm, muOf, okMu, backR, putS, isM, dList, dIsN, dNotN, Dv.isNon, dTup, isStr, Dv.isObj, madeR, mkR, isRefR, ePart, dNeg, dNotB, seqD, dTx, Is.fl, Is.bind, Dv.zipO, zipD, enumD, dSl, iMap, hIf, hIs, hRetL, hCons, hFl, hNil], fun x hx y hy e => ?_⟩
      rw [List.mem_singleton] at hy
      subst hy
      exact (bas_facts (hb x (mem_sort.mp (List.mem_reverse.mp hx)))).2.2.2.1 e
    · rw [List.mem_singleton] at hx
      subst hx
      rcases List.mem_append.mp hy with q | q
      · exact (bas_facts (hb y (mem_sort.mp (List.mem_reverse.mp q)))).2.1 e.symm
      · rw [List.mem_singleton] at q
        rw [q] at e
        exact absurd e (by decide)
  have hcl : c ∈ [z3] ++ ((sortT ks).reverse ++ [[110, 111, 110, 101]]) := by simp [rdv, dI2, dCmp, blD, fnF, okKp, kpL, intO, rdL, dInt, dAdd, outE, dLen, dAbs, shL, runF, mkE, slOf, nrm, muOf, okMu, backR, putS, isM, dList, dIsN, dNotN, Dv.isNon, dTup, isStr, Dv.isObj, madeR, mkR, isRefR, ePart, dNeg, dNotB, seqD, dTx, Is.fl, Is.bind, Dv.zipO, zipD, enumD, dSl, iMap, hIf, hIs, hRetL, hCons, hFl, hNil, c3]
  have vf : f_is_natural [nrm v] = .ok (.sh (.bl false)) [.no] ∧ v ∈ numD := by
    simp only [List.mem_cons, List.not_mem_nil, or_false] at v2
    rcases v2 with rfl | rfl | rfl | rfl
    · exact ⟨r_nat_neg (by decide), by simp [rdv, dI2, dCmp, blD, fnF, okKp, kpL, intO, rdL, dInt, dAdd, outE, dLen, dAbs, shL, runF, mkE, slOf, nrm, muOf, okMu, backR, putS, isM, dList, dIsN, dNotN, Dv.isNon, dTup, isStr, Dv.isObj, madeR, mkR, isRefR, ePart, dNeg, dNotB, seqD, dTx, Is.fl, Is.bind, Dv.zipO, zipD, enumD, dSl, iMap, hIf, hIs, hRetL, hCons, hFl, hNil, numD]⟩
    · exact ⟨r_nat_non, by simp [rdv, dI2, dCmp, blD, fnF, okKp, kpL, intO, rdL, dInt, dAdd, outE, dLen, dAbs, shL, runF, mkE, slOf, nrm, muOf, okMu, backR, putS, isM, dList, dIsN, dNotN, Dv.isNon, dTup, isStr, Dv.isObj, madeR, mkR, isRefR, ePart, dNeg, dNotB, seqD, dTx, Is.fl, Is.bind, Dv.zipO, zipD, enumD, dSl, iMap, hIf, hIs, hRetL, hCons, hFl, hNil, numD]⟩
    · exact ⟨r_nat_bl, by simp [rdv, dI2, dCmp, blD, fnF, okKp, kpL, intO, rdL, dInt, dAdd, outE, dLen, dAbs, shL, runF, mkE, slOf, nrm, muOf, okMu, backR, putS, isM, dList, dIsN, dNotN, Dv.isNon, dTup, isStr, Dv.isObj, madeR, mkR, isRefR, ePart, dNeg, dNotB, seqD, dTx, Is.fl, Is.bind, Dv.zipO, zipD, enumD, dSl, iMap, hIf, hIs, hRetL, hCons, hFl, hNil, numD]⟩
    · exact ⟨r_nat_str, by simp [rdv, dI2, dCmp, blD, fnF, okKp, kpL, intO, rdL, dInt, dAdd, outE, dLen, dAbs, shL, runF, mkE, slOf, nrm, muOf, okMu, backR, putS, isM, dList, dIsN, dNotN, Dv.isNon, dTup, isStr, Dv.isObj, madeR, mkR, isRefR, ePart, dNeg, dNotB, seqD, dTx, Is.fl, Is.bind, Dv.zipO, zipD, enumD, dSl, iMap, hIf, hIs, hRetL, hCons, hFl, hNil, numD]⟩
  have m4 := r_of_exc (ns := ks) (h := h) (l := [z3] ++ ((sortT ks).reverse ++ [[110, 111, 110, 101]])) (F := fun n => if n = c then v else if n = z3 then .int (-7) else .int 4) (c := c) nd3 (by simp [rdv, dI2, dCmp, blD, fnF, okKp, kpL, intO, rdL, dInt, dAdd, outE, dLen, dAbs, shL, runF, mkE, slOf, nrm, muOf, okMu, backR, putS, isM, dList, dIsN, dNotN, Dv.isNon, dTup, isStr, Dv.isObj, madeR, mkR, isRefR, ePart, dNeg, dNotB, seqD, dTx, Is.fl, Is.bind, Dv.zipO, zipD, enumD, dSl, iMap, hIf, hIs, hRetL, hCons, hFl, hNil, sl]; omega) hcl
    (fun n hn ne lt => by
      have n3 : n ≠ z3 := fun e => by
        subst e
        rw [cf1] at lt
        cases lt
      rw [if_neg ne, if_neg n3]
      exact r_is_natural (by decide))
    (by rw [if_pos rfl]; exact vf.1)
  rw [if_pos rfl] at m4
  obtain ⟨rp, hrp⟩ := repr_ok (w := wN) (rp_num v vf.2)
  have nt := ne_true (c := c) (List.mem_append_left _ hcb)
  have nt2 := ne_true (c := b) (List.mem_append_right _ b2)
  have sN := dSort_lst (l := ks) (by omega)
  have hk : (ks.map fun n => (D.str n, chD (h n))).map (·.1) = ks.map D.str := by rw [List.map_map]; rfl
  have pu1 := put_in (F := fun n => chD (h n)) (v := o1) hc
  have pu2 := put_in (F := fun n => if n = c then o1 else chD (h n)) (v := o2) hz
  have it : dDict [.lst ((ks.map fun n => (D.str n, chD (h n))).map (fun q => .tup [q.1, q.2]) ++ [.tup [.str b, .tup [.str wA, .int 1]], .tup [.str z8, .tup [.str wA, .int (-1)]]])] = some (.ow (.dct ((ks ++ [b, z8]).map fun n => (D.str n, if n = z8 then .tup [.str wA, .int (-1)] else if n = b then .tup [.str wA, .int 1] else chD (h n))))) := by
    rw [← dict_of nd2]
    congr 2
    rw [List.map_append, List.map_map]
    congr 2
    · apply List.map_congr_left
      intro n hn
      have e1 : n ≠ z8 := fun e => zn (by rw [← e]; exact hn)
      have e2 : n ≠ b := fun e => bn (by rw [← e]; exact hn)
      simp [rdv, dI2, dCmp, blD, fnF, okKp, kpL, intO, rdL, dInt, dAdd, outE, dLen, dAbs, shL, runF, mkE, slOf, nrm, muOf, okMu, backR, putS, isM, dList, dIsN, dNotN, Dv.isNon, dTup, isStr, Dv.isObj, madeR, mkR, isRefR, ePart, dNeg, dNotB, seqD, dTx, Is.fl, Is.bind, Dv.zipO, zipD, enumD, dSl, iMap, hIf, hIs, hRetL, hCons, hFl, hNil, e1, e2]
    · simp [rdv, dI2, dCmp, blD, fnF, okKp, kpL, intO, rdL, dInt, dAdd, outE, dLen, dAbs, shL, runF, mkE, slOf, nrm, muOf, okMu, backR, putS, isM, dList, dIsN, dNotN, Dv.isNon, dTup, isStr, Dv.isObj, madeR, mkR, isRefR, ePart, dNeg, dNotB, seqD, dTx, Is.fl, Is.bind, Dv.zipO, zipD, enumD, dSl, iMap, hIf, hIs, hRetL, hCons, hFl, hNil, bf4]
  have nu : dDict [.lst (.tup [.str z3, .int (-7)] :: ((sortT ks).reverse ++ [[110, 111, 110, 101]]).map fun n => .tup [.str n, .int 4])] = some (.ow (.dct (([z3] ++ ((sortT ks).reverse ++ [[110, 111, 110, 101]])).map fun n => (D.str n, if n = z3 then .int (-7) else .int 4)))) := by
    rw [← dict_of nd3]
    congr 2
    rw [List.cons_append, List.nil_append, List.map_cons]
    have e0 : (if z3 = z3 then D.int (-7) else .int 4) = .int (-7) := if_pos rfl
    rw [e0]
    congr 2
    apply List.map_congr_left
    intro n hn
    have e1 : n ≠ z3 := fun e => by
      subst e
      rw [List.cons_append, List.nil_append, List.nodup_cons] at nd3
      exact nd3.1 hn
    rw [if_neg e1]
  have pu3 := put_in (F := fun n => if n = z3 then D.int (-7) else .int 4) (v := v) hcl
  have ix3 := dIx_map (F := fun n => if n = c then v else if n = z3 then D.int (-7) else .int 4) hcl
  rw [if_pos rfl] at ix3
  have lims : ∀ n : Nat, n ≤ 100 → n ≤ lim := fun n hn => Nat.le_trans hn (by decide)
  have big : (1000 : Nat) < lim := by decide
  have lX : (ks.map fun n => (D.str n, chD (h n))).length < lim := by rw [List.length_map]; omega
  have lX2 : (ks.map fun n => (D.str n, chD (h n))).length + 2 ≤ lim := by rw [List.length_map]; omega
  have lN : (sortT ks).length + 1 ≤ lim := by omega
  have hrp' : dRepr [.lst [.str [110, 117, 109, 98, 101, 114], v]] = some (.sh (.str rp)) := hrp
  have lY1 : (ks.map fun n => (D.str n, if n = c then o1 else chD (h n))).length < lim := by rw [List.length_map]; omega
  have lY4 : (([z3] ++ ((sortT ks).reverse ++ [[110, 111, 110, 101]])).map fun n => (D.str n, if n = z3 then D.int (-7) else .int 4)).length < lim := by
    rw [List.length_map]
    simp [rdv, dI2, dCmp, blD, fnF, okKp, kpL, intO, rdL, dInt, dAdd, outE, dLen, dAbs, shL, runF, mkE, slOf, nrm, muOf, okMu, backR, putS, isM, dList, dIsN, dNotN, Dv.isNon, dTup, isStr, Dv.isObj, madeR, mkR, isRefR, ePart, dNeg, dNotB, seqD, dTx, Is.fl, Is.bind, Dv.zipO, zipD, enumD, dSl, iMap, hIf, hIs, hRetL, hCons, hFl, hNil, sl]
    omega
  generalize (ks.map fun n => (D.str n, chD (h n))) = X at *
  generalize (ks.map fun n => (D.str n, if n = c then o1 else chD (h n))) = Y1 at *
  generalize (ks.map fun n => (D.str n, if n = z then o2 else if n = c then o1 else chD (h n))) = Y2 at *
  generalize ((ks ++ [b, z8]).map fun n => (D.str n, if n = z8 then .tup [.str wA, .int (-1)] else if n = b then .tup [.str wA, .int 1] else chD (h n))) = Y3 at *
  generalize (([z3] ++ ((sortT ks).reverse ++ [[110, 111, 110, 101]])).map fun n => (D.str n, if n = c then v else if n = z3 then D.int (-7) else .int 4)) = Y5 at *
  generalize (([z3] ++ ((sortT ks).reverse ++ [[110, 111, 110, 101]])).map fun n => (D.str n, if n = z3 then D.int (-7) else .int 4)) = Y4 at *
  obtain ⟨w8, hloop⟩ := times_loop (ns := ks) (h := h) (fun z => [.ow (tapeD A4 B4), .bo (.dct X), .bo (acD ks h), .ow (.lst ((sortT ks).map D.str)), .sh (.int r), .ow (.lst odds), .ow (.dct Y3), .sh (.str b), z, .no, .no, .no, .no]) (fun _ => rfl) (fun _ => rfl) (fun _ _ => rfl) (fun _ => rfl) tmsD .no fun _ h => h
  have cp : cPow 10 20 = true := by decide
  have src : iSeq (eLst (aCons (eTk (eOp1 dNeg (eC (.int 1)))) (aCons (eTk (eC (.bl true))) (aCons (eTk (eC .non)) (aCons (eTk (eC (.str [50]))) (aCons (eTk (eC (.bl false))) (aCons (eTk (eLst (aCons (eTk (eC (.int 1))) aNil))) (aCons (eTk (eOp2 dSub (eC (.int 0)) (eOp2 dPow (eC (.int 10)) (eC (.int 20))))) aNil)))))))) [.ow (tapeD A4 B4), .bo (.dct X), .bo (acD ks h), .ow (.lst ((sortT ks).map D.str)), .sh (.int r), .ow (.lst odds), .ow (.dct Y3), .sh (.str b), .no, .no, .no, .no, .no] = .ok tmsD [.ow (tapeD A4 B4), .bo (.dct X), .bo (acD ks h), .ow (.lst ((sortT ks).map D.str)), .sh (.int r), .ow (.lst odds), .ow (.dct Y3), .sh (.str b), .no, .no, .no, .no, .no] := by
    simp [rdv, dI2, dCmp, blD, fnF, okKp, kpL, intO, rdL, dInt, dAdd, outE, dLen, dAbs, shL, runF, mkE, slOf, nrm, muOf, okMu, backR, putS, isM, dList, dIsN, dNotN, Dv.isNon, dTup, isStr, Dv.isObj, madeR, mkR, isRefR, ePart, dNeg, dNotB, seqD, dTx, Is.fl, Is.bind, Dv.zipO, zipD, enumD, dSl, iMap, hIf, hIs, hRetL, hCons, hFl, hNil, tmsD, cp, lims]
  have hlc := lc_map (src := iSeq (eOp2 dAdd (eRev (eVar 3)) (eLst (aCons (eTk (eC (.str [110, 111, 110, 101]))) aNil)))) (tg := tgN 12) (test := eBl true) (elt := eTup (aCons (eTk (eVar 12)) (aCons (eTk (eC (.int 4))) aNil))) (vs := [12]) (e := [.ow (tapeD A4 B4), .bo (.dct X), .bo (acD ks h), .ow (.lst ((sortT ks).map D.str)), .sh (.int r), .ow (.lst odds), .ow (.dct Y3), .sh (.str b), w8, .no, .no, .no, .no]) (e1 := [.ow (tapeD A4 B4), .bo (.dct X), .bo (acD ks h), .ow (.lst ((sortT ks).map D.str)), .sh (.int r), .ow (.lst odds), .ow (.dct Y3), .sh (.str b), w8, .no, .no, .no, .no]) (e0 := [.ow (tapeD A4 B4), .bo (.dct X), .bo (acD ks h), .ow (.lst ((sortT ks).map D.str)), .sh (.int r), .ow (.lst odds), .ow (.dct Y3), .sh (.str b), w8, .no, .no, .no, .no]) (xs := (sortT ks).reverse ++ [[110, 111, 110, 101]]) D.str (fun _ => true) (fun n => .tup [.str n, .int 4])
    (by simp [rdv, dI2, dCmp, blD, fnF, okKp, kpL, intO, rdL, dInt, dAdd, outE, dLen, dAbs, shL, runF, mkE, slOf, nrm, muOf, okMu, backR, putS, isM, dList, dIsN, dNotN, Dv.isNon, dTup, isStr, Dv.isObj, madeR, mkR, isRefR, ePart, dNeg, dNotB, seqD, dTx, Is.fl, Is.bind, Dv.zipO, zipD, enumD, dSl, iMap, hIf, hIs, hRetL, hCons, hFl, hNil, dRev, lN, lims]) rfl (by simp [rdv, dI2, dCmp, blD, fnF, okKp, kpL, intO, rdL, dInt, dAdd, outE, dLen, dAbs, shL, runF, mkE, slOf, nrm, muOf, okMu, backR, putS, isM, dList, dIsN, dNotN, Dv.isNon, dTup, isStr, Dv.isObj, madeR, mkR, isRefR, ePart, dNeg, dNotB, seqD, dTx, Is.fl, Is.bind, Dv.zipO, zipD, enumD, dSl, iMap, hIf, hIs, hRetL, hCons, hFl, hNil, sl]; omega)
    (fun x hx => ⟨_, rfl, rfl, rfl, fun _ => by simp [rdv, dI2, dCmp, blD, fnF, okKp, kpL, intO, rdL, dInt, dAdd, outE, dLen, dAbs, shL, runF, mkE, slOf, nrm, muOf, okMu, backR, putS, isM, dList, dIsN, dNotN, Dv.isNon, dTup, isStr, Dv.isObj, madeR, mkR, isRefR, ePart, dNeg, dNotB, seqD, dTx, Is.fl, Is.bind, Dv.zipO, zipD, enumD, dSl, iMap, hIf, hIs, hRetL, hCons, hFl, hNil, lims]⟩)
  rw [filt_true] at hlc
  have lZ : 1 + (((sortT ks).reverse ++ [[110, 111, 110, 101]]).map fun n => D.tup [.str n, .int 4]).length ≤ lim := by
    rw [List.length_map]
    simp [rdv, dI2, dCmp, blD, fnF, okKp, kpL, intO, rdL, dInt, dAdd, outE, dLen, dAbs, shL, runF, mkE, slOf, nrm, muOf, okMu, backR, putS, isM, dList, dIsN, dNotN, Dv.isNon, dTup, isStr, Dv.isObj, madeR, mkR, isRefR, ePart, dNeg, dNotB, seqD, dTx, Is.fl, Is.bind, Dv.zipO, zipD, enumD, dSl, iMap, hIf, hIs, hRetL, hCons, hFl, hNil, sl]
    omega
  generalize (((sortT ks).reverse ++ [[110, 111, 110, 101]]).map fun n => D.tup [.str n, .int 4]) = Z at *
  have nM : nrm (acD ks h) = .bo (acD ks h) := rfl
  have run : g_Lrefused [.ow (tapeD A B), .bo (.dct X), .bo (acD ks h), .no, .no, .no, .no, .no, .no, .no, .no, .no, .no] = .rt (.sh (.bl true)) [.ow (tapeD A5 B5), .bo (.dct X), .bo (acD ks h), .ow (.lst ((sortT ks).map D.str)), .sh (.int r), .ow (.lst odds), .ow (.dct Y3), .sh (.str b), w8, .ow (.dct Y5), .ow (.lst [.str wN, v]), .sh v, .no] := by
    simp only [z8, z3, bads, wA, List.map_cons, List.map_nil] at *
    unfold g_Lrefused
    refine (fSeq_at (e1 := [.ow (tapeD A B), .bo (.dct X), .bo (acD ks h), .ow (.lst ((sortT ks).map D.str)), .no, .no, .no, .no, .no, .no, .no, .no, .no]) ?_).trans ?_
    · simp [rdv, dI2, dCmp, blD, fnF, okKp, kpL, intO, rdL, dInt, dAdd, outE, dLen, dAbs, shL, runF, mkE, slOf, nrm, muOf, okMu, backR, putS, isM, dList, dIsN, dNotN, Dv.isNon, dTup, isStr, Dv.isObj, madeR, mkR, isRefR, ePart, dNeg, dNotB, seqD, dTx, Is.fl, Is.bind, Dv.zipO, zipD, enumD, dSl, iMap, hIf, hIs, hRetL, hCons, hFl, hNil, hk, sN]
    refine (fSeq_at (e1 := [.ow (tapeD A1 B1), .bo (.dct X), .bo (acD ks h), .ow (.lst ((sortT ks).map D.str)), .sh (.int r), .no, .no, .no, .no, .no, .no, .no, .no]) ?_).trans ?_
    · simp [rdv, dI2, dCmp, blD, fnF, okKp, kpL, intO, rdL, dInt, dAdd, outE, dLen, dAbs, shL, runF, mkE, slOf, nrm, muOf, okMu, backR, putS, isM, dList, dIsN, dNotN, Dv.isNon, dTup, isStr, Dv.isObj, madeR, mkR, isRefR, ePart, dNeg, dNotB, seqD, dTx, Is.fl, Is.bind, Dv.zipO, zipD, enumD, dSl, iMap, hIf, hIs, hRetL, hCons, hFl, hNil, sl, p1]
    refine (fSeq_at (e1 := [.ow (tapeD A1 B1), .bo (.dct X), .bo (acD ks h), .ow (.lst ((sortT ks).map D.str)), .sh (.int r), .ow (.lst (odds.take 10)), .no, .no, .no, .no, .no, .no, .no]) ?_).trans ?_
    · simp [rdv, dI2, dCmp, blD, fnF, okKp, kpL, intO, rdL, dInt, dAdd, outE, dLen, dAbs, shL, runF, mkE, slOf, nrm, muOf, okMu, backR, putS, isM, dList, dIsN, dNotN, Dv.isNon, dTup, isStr, Dv.isObj, madeR, mkR, isRefR, ePart, dNeg, dNotB, seqD, dTx, Is.fl, Is.bind, Dv.zipO, zipD, enumD, dSl, iMap, hIf, hIs, hRetL, hCons, hFl, hNil, odds, wA, wS, lims]
    refine (fSeq_at (e1 := [.ow (tapeD A1 B1), .bo (.dct X), .bo (acD ks h), .ow (.lst ((sortT ks).map D.str)), .sh (.int r), .ow (.lst odds), .no, .no, .no, .no, .no, .no, .no]) ?_).trans ?_
    · simp [rdv, dI2, dCmp, blD, fnF, okKp, kpL, intO, rdL, dInt, dAdd, outE, dLen, dAbs, shL, runF, mkE, slOf, nrm, muOf, okMu, backR, putS, isM, dList, dIsN, dNotN, Dv.isNon, dTup, isStr, Dv.isObj, madeR, mkR, isRefR, ePart, dNeg, dNotB, seqD, dTx, Is.fl, Is.bind, Dv.zipO, zipD, enumD, dSl, iMap, hIf, hIs, hRetL, hCons, hFl, hNil, odds, wA, wS, lims]
    refine (fSeq_at (e1 := [.ow (tapeD A1 B1), .bo (.dct X), .bo (acD ks h), .ow (.lst ((sortT ks).map D.str)), .sh (.int r), .ow (.lst odds), .ow (.dct X), .no, .no, .no, .no, .no, .no]) ?_).trans ?_
    · simp [rdv, dI2, dCmp, blD, fnF, okKp, kpL, intO, rdL, dInt, dAdd, outE, dLen, dAbs, shL, runF, mkE, slOf, nrm, muOf, okMu, backR, putS, isM, dList, dIsN, dNotN, Dv.isNon, dTup, isStr, Dv.isObj, madeR, mkR, isRefR, ePart, dNeg, dNotB, seqD, dTx, Is.fl, Is.bind, Dv.zipO, zipD, enumD, dSl, iMap, hIf, hIs, hRetL, hCons, hFl, hNil, dDict]
    refine (fSeq_at (e1 := [.ow (tapeD A2 B2), .bo (.dct X), .bo (acD ks h), .ow (.lst ((sortT ks).map D.str)), .sh (.int r), .ow (.lst odds), .ow (.dct Y1), .no, .no, .no, .no, .no, .no]) ?_).trans ?_
    · simp [rdv, dI2, dCmp, blD, fnF, okKp, kpL, intO, rdL, dInt, dAdd, outE, dLen, dAbs, shL, runF, mkE, slOf, nrm, muOf, okMu, backR, putS, isM, dList, dIsN, dNotN, Dv.isNon, dTup, isStr, Dv.isObj, madeR, mkR, isRefR, ePart, dNeg, dNotB, seqD, dTx, Is.fl, Is.bind, Dv.zipO, zipD, enumD, dSl, iMap, hIf, hIs, hRetL, hCons, hFl, hNil, p2, o11, c1', lX, pu1]
    refine (fSeq_at (e1 := [.ow (tapeD A3 B3), .bo (.dct X), .bo (acD ks h), .ow (.lst ((sortT ks).map D.str)), .sh (.int r), .ow (.lst odds), .ow (.dct Y2), .no, .no, .no, .no, .no, .no]) ?_).trans ?_
    · simp [rdv, dI2, dCmp, blD, fnF, okKp, kpL, intO, rdL, dInt, dAdd, outE, dLen, dAbs, shL, runF, mkE, slOf, nrm, muOf, okMu, backR, putS, isM, dList, dIsN, dNotN, Dv.isNon, dTup, isStr, Dv.isObj, madeR, mkR, isRefR, ePart, dNeg, dNotB, seqD, dTx, Is.fl, Is.bind, Dv.zipO, zipD, enumD, dSl, iMap, hIf, hIs, hRetL, hCons, hFl, hNil, p3, o21, z1', lY1, pu2]
    refine (fSeq_at (e1 := [.ow (tapeD A3 B3), .bo (.dct X), .bo (acD ks h), .ow (.lst ((sortT ks).map D.str)), .sh (.int r), .ow (.lst odds), .ow (.dct Y2), .no, .no, .no, .no, .no, .no]) ?_).trans ?_
    · simp [rdv, dI2, dCmp, blD, fnF, okKp, kpL, intO, rdL, dInt, dAdd, outE, dLen, dAbs, shL, runF, mkE, slOf, nrm, muOf, okMu, backR, putS, isM, dList, dIsN, dNotN, Dv.isNon, dTup, isStr, Dv.isObj, madeR, mkR, isRefR, ePart, dNeg, dNotB, seqD, dTx, Is.fl, Is.bind, Dv.zipO, zipD, enumD, dSl, iMap, hIf, hIs, hRetL, hCons, hFl, hNil, m1, m3, c1', nt, ne_nil, lims]
    refine (fSeq_at (e1 := [.ow (tapeD A4 B4), .bo (.dct X), .bo (acD ks h), .ow (.lst ((sortT ks).map D.str)), .sh (.int r), .ow (.lst odds), .ow (.dct Y2), .sh (.str b), .no, .no, .no, .no, .no]) ?_).trans ?_
    · simp [rdv, dI2, dCmp, blD, fnF, okKp, kpL, intO, rdL, dInt, dAdd, outE, dLen, dAbs, shL, runF, mkE, slOf, nrm, muOf, okMu, backR, putS, isM, dList, dIsN, dNotN, Dv.isNon, dTup, isStr, Dv.isObj, madeR, mkR, isRefR, ePart, dNeg, dNotB, seqD, dTx, Is.fl, Is.bind, Dv.zipO, zipD, enumD, dSl, iMap, hIf, hIs, hRetL, hCons, hFl, hNil, p4, b1', lims]
    refine (fSeq_at (e1 := [.ow (tapeD A4 B4), .bo (.dct X), .bo (acD ks h), .ow (.lst ((sortT ks).map D.str)), .sh (.int r), .ow (.lst odds), .ow (.dct Y3), .sh (.str b), .no, .no, .no, .no, .no]) ?_).trans ?_
    · simp [rdv, dI2, dCmp, blD, fnF, okKp, kpL, intO, rdL, dInt, dAdd, outE, dLen, dAbs, shL, runF, mkE, slOf, nrm, muOf, okMu, backR, putS, isM, dList, dIsN, dNotN, Dv.isNon, dTup, isStr, Dv.isObj, madeR, mkR, isRefR, ePart, dNeg, dNotB, seqD, dTx, Is.fl, Is.bind, Dv.zipO, zipD, enumD, dSl, iMap, hIf, hIs, hRetL, hCons, hFl, hNil, dItems, lX2, it, lims]
    refine (fSeq_at (e1 := [.ow (tapeD A4 B4), .bo (.dct X), .bo (acD ks h), .ow (.lst ((sortT ks).map D.str)), .sh (.int r), .ow (.lst odds), .ow (.dct Y3), .sh (.str b), .no, .no, .no, .no, .no]) ?_).trans ?_
    · simp [rdv, dI2, dCmp, blD, fnF, okKp, kpL, intO, rdL, dInt, dAdd, outE, dLen, dAbs, shL, runF, mkE, slOf, nrm, muOf, okMu, backR, putS, isM, dList, dIsN, dNotN, Dv.isNon, dTup, isStr, Dv.isObj, madeR, mkR, isRefR, ePart, dNeg, dNotB, seqD, dTx, Is.fl, Is.bind, Dv.zipO, zipD, enumD, dSl, iMap, hIf, hIs, hRetL, hCons, hFl, hNil, m2, bf5, nt2, lims]
    refine (fSeq_at (e1 := [.ow (tapeD A4 B4), .bo (.dct X), .bo (acD ks h), .ow (.lst ((sortT ks).map D.str)), .sh (.int r), .ow (.lst odds), .ow (.dct Y3), .sh (.str b), w8, .no, .no, .no, .no]) ?_).trans ?_
    · exact (fFor_at (f := b0_Lrefused) src).trans hloop
    refine (fSeq_at (e1 := [.ow (tapeD A4 B4), .bo (.dct X), .bo (acD ks h), .ow (.lst ((sortT ks).map D.str)), .sh (.int r), .ow (.lst odds), .ow (.dct Y3), .sh (.str b), w8, .ow (.dct Y4), .no, .no, .no]) ?_).trans ?_
    · simp [rdv, dI2, dCmp, blD, fnF, okKp, kpL, intO, rdL, dInt, dAdd, outE, dLen, dAbs, shL, runF, mkE, slOf, nrm, muOf, okMu, backR, putS, isM, dList, dIsN, dNotN, Dv.isNon, dTup, isStr, Dv.isObj, madeR, mkR, isRefR, ePart, dNeg, dNotB, seqD, dTx, Is.fl, Is.bind, Dv.zipO, zipD, enumD, dSl, iMap, hIf, hIs, hRetL, hCons, hFl, hNil, hlc, nu, lZ, lims]
    refine (fSeq_at (e1 := [.ow (tapeD A5 B5), .bo (.dct X), .bo (acD ks h), .ow (.lst ((sortT ks).map D.str)), .sh (.int r), .ow (.lst odds), .ow (.dct Y3), .sh (.str b), w8, .ow (.dct Y5), .no, .no, .no]) ?_).trans ?_
    · simp [rdv, dI2, dCmp, blD, fnF, okKp, kpL, intO, rdL, dInt, dAdd, outE, dLen, dAbs, shL, runF, mkE, slOf, nrm, muOf, okMu, backR, putS, isM, dList, dIsN, dNotN, Dv.isNon, dTup, isStr, Dv.isObj, madeR, mkR, isRefR, ePart, dNeg, dNotB, seqD, dTx, Is.fl, Is.bind, Dv.zipO, zipD, enumD, dSl, iMap, hIf, hIs, hRetL, hCons, hFl, hNil, p5, v1, c1', lY4, pu3, lims]
    refine (fSeq_at (e1 := [.ow (tapeD A5 B5), .bo (.dct X), .bo (acD ks h), .ow (.lst ((sortT ks).map D.str)), .sh (.int r), .ow (.lst odds), .ow (.dct Y3), .sh (.str b), w8, .ow (.dct Y5), .ow (.lst [.str wN, v]), .no, .no]) ?_).trans ?_
    · simp [rdv, dI2, dCmp, blD, fnF, okKp, kpL, intO, rdL, dInt, dAdd, outE, dLen, dAbs, shL, runF, mkE, slOf, nrm, muOf, okMu, backR, putS, isM, dList, dIsN, dNotN, Dv.isNon, dTup, isStr, Dv.isObj, madeR, mkR, isRefR, ePart, dNeg, dNotB, seqD, dTx, Is.fl, Is.bind, Dv.zipO, zipD, enumD, dSl, iMap, hIf, hIs, hRetL, hCons, hFl, hNil, nM, m4]
    refine (fSeq_at (e1 := [.ow (tapeD A5 B5), .bo (.dct X), .bo (acD ks h), .ow (.lst ((sortT ks).map D.str)), .sh (.int r), .ow (.lst odds), .ow (.dct Y3), .sh (.str b), w8, .ow (.dct Y5), .ow (.lst [.str wN, v]), .sh v, .no]) ?_).trans ?_
    · simp [rdv, dI2, dCmp, blD, fnF, okKp, kpL, intO, rdL, dInt, dAdd, outE, dLen, dAbs, shL, runF, mkE, slOf, nrm, muOf, okMu, backR, putS, isM, dList, dIsN, dNotN, Dv.isNon, dTup, isStr, Dv.isObj, madeR, mkR, isRefR, ePart, dNeg, dNotB, seqD, dTx, Is.fl, Is.bind, Dv.zipO, zipD, enumD, dSl, iMap, hIf, hIs, hRetL, hCons, hFl, hNil, c1', cf5, ix3]
    simp [rdv, dI2, dCmp, blD, fnF, okKp, kpL, intO, rdL, dInt, dAdd, outE, dLen, dAbs, shL, runF, mkE, slOf, nrm, muOf, okMu, backR, putS, isM, dList, dIsN, dNotN, Dv.isNon, dTup, isStr, Dv.isObj, madeR, mkR, isRefR, ePart, dNeg, dNotB, seqD, dTx, Is.fl, Is.bind, Dv.zipO, zipD, enumD, dSl, iMap, hIf, hIs, hRetL, hCons, hFl, hNil, hrp, hrp', lims]
  refine ⟨A5, B5, t5, ?_⟩
  unfold f_Lrefused
  simp [rdv, dI2, dCmp, blD, fnF, okKp, kpL, intO, rdL, dInt, dAdd, outE, dLen, dAbs, shL, runF, mkE, slOf, nrm, muOf, okMu, backR, putS, isM, dList, dIsN, dNotN, Dv.isNon, dTup, isStr, Dv.isObj, madeR, mkR, isRefR, ePart, dNeg, dNotB, seqD, dTx, Is.fl, Is.bind, Dv.zipO, zipD, enumD, dSl, iMap, hIf, hIs, hRetL, hCons, hFl, hNil, run]
end Pt
namespace Pt
open PySem PySem.Spec PyProof.Rows L2 Dv
open SX (S S_len S_cat)
section
variable {P : Program} {w : World} {K : PySem.W.Frag} {mg : Str → Option Value} {base : Heap} {c : Cs}
abbrev slaw : Stmt := top 27
theorem sclaw : FnScope ["_law_script", "_law_k", "_law_tape_here", "_law_changes_here", "_law_made_here", "_law_few", "_law_great", "_law_added", "_law_turn", "_law_times_here", "_law_both"] ["_law_script"] (defScope slaw) := ⟨rfl, rfl, rfl, by decide +kernel, rfl, by decide +kernel, by decide +kernel⟩
def b0_law : En → Fl := (fAsg 7 (eBinOwn 0 [.bo, .bo] (fun e => noX (f_Action_add e)) (eVar 7) (eVar 4)))
def b1_law : En → Fl := (fIf (eTest (eOp2 dNe (eMeth 0 [.bo] (fun e => noX (f_Action_changes e)) (eMulOwn 0 [.bo, .sh] f_Action_mul (eVar 4) (eTk (eVar 9))) aNil) (eCall [.bo, .bo] (fun e => noX (f_Lpower e)) (aCons (eVar 3) (aCons (eVar 9) aNil))))) (fRet (eC (.bl false))) fNx)
def b2_law (ns : List Int) : En → Fl := (fSeq (fAsg 2 (eTp ns (eVar 1)))
  (fSeq (fAsg 3 (eCall [.mu] (fun e => noX (f_Lchanges e)) (aCons (eVar 2) aNil)))
  (fSeq (fAsg 4 (eMake 0 [.bo] f_Action_init (aCons (eVar 3) aNil)))
  (fSeq (fAsg 5 (eCall [.mu, .bo] (fun e => noX (f_Lpick e)) (aCons (eVar 2) (aCons (eC (.int 10)) aNil))))
  (fSeq (fAsg 6 (eLst (aCons (eTk (eCall [.mu, .bo] (fun e => noX (f_Lpick e)) (aCons (eVar 2) (aCons (eOp2 dPow (eC (.int 10)) (eC (.int 29))) aNil)))) (aCons (eTk (eCall [.mu, .bo] (fun e => noX (f_Lpick e)) (aCons (eVar 2) (aCons (eOp2 dPow (eC (.int 10)) (eC (.int 15))) aNil)))) aNil))))
  (fSeq (fAsg 7 (eMake 0 [.bo] f_Action_init (aCons eDct0 aNil)))
  (fSeq (fFor (iRng rngA1 (aCons (eVar 5) aNil)) (tgN 8)
  b0_law)
  (fSeq (fIf (eBr (eBr (eTest (eEqOwn 0 [.bo, .bo] (fun e => noX (f_Action_eq e)) (eMulOwn 0 [.bo, .sh] f_Action_mul (eVar 4) (eTk (eVar 5))) (eVar 7))) (eBl false) (eBl true)) (eBl true) (eTest (eOp2 dNe (eMeth 0 [.bo] (fun e => noX (f_Action_changes e)) (eMulOwn 0 [.bo, .sh] f_Action_mul (eVar 4) (eTk (eVar 5))) aNil) (eCall [.bo, .bo] (fun e => noX (f_Lpower e)) (aCons (eVar 3) (aCons (eVar 5) aNil)))))) (fRet (eC (.bl false))) fNx)
  (fSeq (fFor (iSeq (eVar 6)) (tgN 9)
  b1_law)
  (fSeq (fAsg 10 (eBinOwn 0 [.bo, .bo] (fun e => noX (f_Action_add e)) (eMulOwn 0 [.bo, .sh] f_Action_mul (eVar 4) (eTk (eOp2 dIx (eVar 6) (eC (.int 0))))) (eMulOwn 0 [.bo, .sh] f_Action_mul (eVar 4) (eTk (eOp2 dIx (eVar 6) (eC (.int 1)))))))
  (fSeq (fIf (eBr (eTest (eEqOwn 0 [.bo, .bo] (fun e => noX (f_Action_eq e)) (eVar 10) (eMulOwn 0 [.bo, .sh] f_Action_mul (eVar 4) (eTk (eOp2 dAdd (eOp2 dIx (eVar 6) (eC (.int 0))) (eOp2 dIx (eVar 6) (eC (.int 1)))))))) (eBl false) (eBl true)) (fRet (eC (.bl false))) fNx)
  (fSeq (fIf (eTest (eOp2 dNe (eMeth 0 [.bo] (fun e => noX (f_Action_changes e)) (eMulOwn 0 [.bo, .sh] f_Action_mul (eVar 4) (eTk (eC (.int 1)))) aNil) (eMeth 0 [.bo] (fun e => noX (f_Action_changes e)) (eVar 4) aNil))) (fRet (eC (.bl false))) fNx)
  (fSeq (fIf (eBr (eTest (eEqOwn 0 [.bo, .bo] (fun e => noX (f_Action_eq e)) (eMulOwn 0 [.bo, .sh] f_Action_mul (eMulOwn 0 [.bo, .sh] f_Action_mul (eVar 4) (eTk (eOp2 dIx (eVar 6) (eC (.int 1))))) (eTk (eVar 5))) (eMulOwn 0 [.bo, .sh] f_Action_mul (eVar 4) (eTk (eOp2 dMul (eOp2 dIx (eVar 6) (eC (.int 1))) (eVar 5)))))) (eBl false) (eBl true)) (fRet (eC (.bl false))) fNx)
  (fSeq (fIf (eTest (eOp2 dNe (eStrOwn 0 [.bo] (fun e => noX (f_Action_str e)) (eMulOwn 0 [.bo, .sh] f_Action_mul (eVar 4) (eTk (eC (.int 0))))) (eC (.str [110, 111, 116, 104, 105, 110, 103])))) (fRet (eC (.bl false))) fNx)
  (fIf (eBr (eBr (eTest (eCall [.mu, .bo, .bo] (fun e => noX (f_Lrefused e)) (aCons (eVar 2) (aCons (eVar 3) (aCons (eVar 4) aNil))))) (eBl false) (eBl true)) (eBl true) (eTest (eOp2 dNe (eMeth 0 [.bo] (fun e => noX (f_Action_changes e)) (eVar 4) aNil) (eCall [.bo, .bo] (fun e => noX (f_Lpower e)) (aCons (eVar 3) (aCons (eC (.int 1)) aNil)))))) (fRet (eC (.bl false))) fNx)))))))))))))))
def g_law (ns : List Int) : En → Fl := (fSeq (fFor (iRng rngA1 (aCons (eC (.int (mmS ns))) aNil)) (tgN 1)
  (b2_law ns))
  (fRet (eC (.bl true))))
def spLaw (K : PySem.W.Frag) : Sp := fun vs H Q _ => ∃ (a : Addr) (ns : List Int), vs = [.ref a] ∧ SqL K H a (ns.map V.int) ∧ ns.length ≤ 63 ∧ ∀ H', Q (.bl true) H'
theorem ok_law0 (T : Txt w K mg c) (cTp : Cal P w K mg base CX0 1 "_law_tape" (spTapeF K)) (cLchanges : Cal P w K mg base CX0 3 "_law_changes" (spD0 K (cdF c) f_Lchanges)) (hIA : FnOk P w K mg base (L2.CX P w) 4 c.iA c.fdIA ["self", "changes"] (spD K (cdF c) f_Action_init)) (cLpick : Cal P w K mg base CX0 1 "_law_pick" (spD0 K (cdF c) f_Lpick)) (hAd : FnOk P w K mg base CX0 6 c.mAd c.fdAd ["self", "other"] (spD0 K (cdF c) f_Action_add)) (hAe : FnOk P w K mg base CX0 1 c.mAe c.fdAe ["self", "other"] (spD0 K (cdF c) f_Action_eq)) (hAm : FnOk P w K mg base (L2.CX P w) 6 c.mAm c.fdAm ["self", "other"] (spD K (cdF c) f_Action_mul)) (hAc : FnOk P w K mg base CX0 1 c.mAc c.fdAc ["self"] (spD0 K (cdF c) f_Action_changes)) (cLpower : Cal P w K mg base CX0 1 "_law_power" (spD0 K (cdF c) f_Lpower)) (hAs : FnOk P w K mg base CX0 1 c.mAs c.fdAs ["self"] (spD0 K (cdF c) f_Action_str)) (cLrefused : CalG P w K mg base CX0 8 "_law_refused" (spD0 K (cdF c) f_Lrefused)) {f : Addr} {fd : FuncData} (F : Fun K "law" "law" slaw f fd) (hrun : ∀ ns : List Int, ns.length ≤ 63 → ∃ e', g_law ns (Sl.no :: List.replicate 10 Sl.no) = .rt (.sh (.bl true)) e') : FnOkG P w K mg base CX0 9 f fd ["_law_script"] (spLaw K) := by
  refine okG F sclaw (fun vs H Q E h => by obtain ⟨a, ns, rfl, _⟩ := h; rfl) (fun cdv A outer s H vs Q E hG hr h => ?_)
  obtain ⟨a, ns, rfl, hS, hl, q⟩ := h
  refine ⟨_, ?T, law_body (K := K) (cd := cdF c) (n := 10) (kp := (kpL [0])) (f := g_law ns) rfl (si_seq rfl (si_iter (fun i R q => mm_rng i R q) (si_for rfl (ei_rng1 (eb_cons ev_int eb_nil)) (tg_name rfl)
  (si_seq rfl (si_tape (E1 := E0) rfl ev_var)
  (si_seq rfl (si_of (es_asg rfl (ev_call0 (E1 := E0) (ea_cons ev_var ea_nil))))
  (si_seq rfl (si_of (es_asg rfl (ev_make (E' := E0) (c := 0) (ea_cons ev_var ea_nil))))
  (si_seq rfl (si_of (es_asg rfl (ev_call0 (E1 := E0) (ea_cons ev_var (ea_cons ev_int ea_nil)))))
  (si_seq rfl (si_of (es_asg rfl (ev_lst (ea_cons (ev_tk (ev_call0 (E1 := E0) (ea_cons ev_var (ea_cons (ev_op2 o2_pow ev_int ev_int) ea_nil)))) (ea_cons (ev_tk (ev_call0 (E1 := E0) (ea_cons ev_var (ea_cons (ev_op2 o2_pow ev_int ev_int) ea_nil)))) ea_nil)))))
  (si_seq rfl (si_of (es_asg rfl (ev_make (E' := E0) (c := 0) (ea_cons ev_dct0 ea_nil))))
  (si_seq rfl (si_of (es_for (ei_rng1 (eb_cons ev_var eb_nil)) (tg_name rfl)
  (es_asg rfl (ev_binOwn0 (E1 := E0) (c := 0) ev_var ev_var))))
  (si_seq rfl (si_of (es_if (et_or (et_not (et_test (ev_eqOwn0 (E1 := E0) (c := 0) (ev_mulOwn (E' := E0) (c := 0) ev_var (ev_tk ev_var)) ev_var))) (et_test (ev_op2 o2_ne (ev_meth0 (E1 := E0) (c := 0) (show ("changes" : Str) ∉ (["_changes"] : List Str) by decide) (ev_mulOwn (E' := E0) (c := 0) ev_var (ev_tk ev_var)) ea_nil) (ev_call0 (E1 := E0) (ea_cons ev_var (ea_cons ev_var ea_nil)))))) (es_ret ev_bl) es_next))
  (si_seq rfl (si_of (es_for (ei_seq ev_var) (tg_name rfl)
  (es_if (et_test (ev_op2 o2_ne (ev_meth0 (E1 := E0) (c := 0) (show ("changes" : Str) ∉ (["_changes"] : List Str) by decide) (ev_mulOwn (E' := E0) (c := 0) ev_var (ev_tk ev_var)) ea_nil) (ev_call0 (E1 := E0) (ea_cons ev_var (ea_cons ev_var ea_nil))))) (es_ret ev_bl) es_next)))
  (si_seq rfl (si_of (es_asg rfl (ev_binOwn0 (E1 := E0) (c := 0) (ev_mulOwn (E' := E0) (c := 0) ev_var (ev_tk (ev_op2 o2_ix ev_var ev_int))) (ev_mulOwn (E' := E0) (c := 0) ev_var (ev_tk (ev_op2 o2_ix ev_var ev_int))))))
  (si_seq rfl (si_of (es_if (et_not (et_test (ev_eqOwn0 (E1 := E0) (c := 0) ev_var (ev_mulOwn (E' := E0) (c := 0) ev_var (ev_tk (ev_op2 o2_add (ev_op2 o2_ix ev_var ev_int) (ev_op2 o2_ix ev_var ev_int))))))) (es_ret ev_bl) es_next))
  (si_seq rfl (si_of (es_if (et_test (ev_op2 o2_ne (ev_meth0 (E1 := E0) (c := 0) (show ("changes" : Str) ∉ (["_changes"] : List Str) by decide) (ev_mulOwn (E' := E0) (c := 0) ev_var (ev_tk ev_int)) ea_nil) (ev_meth0 (E1 := E0) (c := 0) (show ("changes" : Str) ∉ (["_changes"] : List Str) by decide) ev_var ea_nil))) (es_ret ev_bl) es_next))
  (si_seq rfl (si_of (es_if (et_not (et_test (ev_eqOwn0 (E1 := E0) (c := 0) (ev_mulOwn (E' := E0) (c := 0) (ev_mulOwn (E' := E0) (c := 0) ev_var (ev_tk (ev_op2 o2_ix ev_var ev_int))) (ev_tk ev_var)) (ev_mulOwn (E' := E0) (c := 0) ev_var (ev_tk (ev_op2 o2_mul (ev_op2 o2_ix ev_var ev_int) ev_var)))))) (es_ret ev_bl) es_next))
  (si_seq rfl (si_of (es_if (et_test (ev_op2 o2_ne (ev_strOwn0 (E1 := E0) (c := 0) (ev_mulOwn (E' := E0) (c := 0) ev_var (ev_tk ev_int))) ev_str)) (es_ret ev_bl) es_next))
  (si_of (es_if (et_or (et_not (et_B (ev_call0 (E1 := E0) (ea_cons ev_var (ea_cons ev_var (ea_cons ev_var ea_nil)))))) (et_test (ev_op2 o2_ne (ev_meth0 (E1 := E0) (c := 0) (show ("changes" : Str) ∉ (["_changes"] : List Str) by decide) ev_var ea_nil) (ev_call0 (E1 := E0) (ea_cons ev_var (ea_cons ev_int ea_nil)))))) (es_ret ev_bl) es_next))))))))))))))))))
  (si_of (es_ret ev_bl))) hS q (hrun ns hl)⟩
  exact (pss_cons (ps_for PassesOwn.never rfl (pi_range1 (by rfl) T.z_range (pa_cons (pe_callB (call_max2 rfl) (by rfl) T.z_max (by decide +kernel) (pa_cons pe_int (pa_cons (pe_callB (call_min2 rfl) (by rfl) T.z_min (by decide +kernel) (pa_cons pe_int (pa_cons (pe_callB call_lenA (by rfl) T.z_len (by decide +kernel) (pa_cons (pv 0) pa_nil)) pa_nil))) pa_nil))) pa_nil)) (pg_name (i := 1) sclaw.nd rfl (Or.inl rfl))
  (pss_cons (ps_set (i := 2) sclaw.nd rfl (Or.inl rfl) (pe_c cTp hr (by decide) rfl (pa_cons (pv 0) (pa_cons (pv 1) pa_nil))))
  (pss_cons (ps_set (i := 3) sclaw.nd rfl (Or.inl rfl) (pe_c cLchanges hr (by decide) rfl (pa_cons (pv 2) pa_nil)))
  (pss_cons (ps_set (i := 4) sclaw.nd rfl (Or.inl rfl) (pe_make (E := E0) T.mkA hIA (hr.mono (by decide)) rfl T.gCA T.bIA .nil passL (pa_cons (pv 3) pa_nil)))
  (pss_cons (ps_set (i := 5) sclaw.nd rfl (Or.inl rfl) (pe_c cLpick hr (by decide) rfl (pa_cons (pv 2) (pa_cons pe_int pa_nil))))
  (pss_cons (ps_set (i := 6) sclaw.nd rfl (Or.inl rfl) (pe_lst (pa_cons (pe_c cLpick hr (by decide) rfl (pa_cons (pv 2) (pa_cons (pe_op op_pow pe_int pe_int) pa_nil))) (pa_cons (pe_c cLpick hr (by decide) rfl (pa_cons (pv 2) (pa_cons (pe_op op_pow pe_int pe_int) pa_nil))) pa_nil))))
  (pss_cons (ps_set (i := 7) sclaw.nd rfl (Or.inl rfl) (pe_make (E := E0) T.mkA hIA (hr.mono (by decide)) rfl T.gCA T.bIA .nil passL (pa_cons pe_dnewK pa_nil)))
  (pss_cons (ps_for PassesOwn.never rfl (pi_range1 (by rfl) T.z_range (pa_cons (pv 5) pa_nil)) (pg_name (i := 8) sclaw.nd rfl (Or.inl rfl))
  (pss_one (ps_set (i := 7) sclaw.nd rfl (Or.inl rfl) (pe_op (op_binOwn (E := E0) hAd (hr.mono (by decide)) T.sfA T.MAd.at_ T.MAd.fn T.bAd pass0) (pv 7) (pv 4)))))
  (pss_cons (ps_if (PW.pt (pw_or (pt_not (pt_cmpR (op_eqOwn (E := E0) hAe (hr.mono (by decide)) T.MAe.at_ T.MAe.fn T.bAe pass0) (pe_mulOwn (E := E0) (K := K) rfl hAm (hr.mono (by decide)) T.sfA T.MAm.at_ T.MAm.fn T.muA T.bAm passL (pv 4) (pv 5)) (pv 7) (nomark _))) (pw_or1 (pt_cmpR (op_neA (u65 hr)) (pe_meth0 (E := E0) (pe_mulOwn (E := E0) (K := K) rfl hAm (hr.mono (by decide)) T.sfA T.MAm.at_ T.MAm.fn T.muA T.bAm passL (pv 4) (pv 5)) T.clA T.MAc hAc (hr.mono (by decide)) T.bAc .nil pass0) (pe_c cLpower hr (by decide) rfl (pa_cons (pv 3) (pa_cons (pv 5) pa_nil))) (nomark _))))) (pss_one (ps_ret pe_bl)) pss_nil)
  (pss_cons (ps_for PassesOwn.never rfl (pi_seqA (pv 6)) (pg_name (i := 9) sclaw.nd rfl (Or.inl rfl))
  (pss_one (ps_if (pt_cmpR (op_neA (u65 hr)) (pe_meth0 (E := E0) (pe_mulOwn (E := E0) (K := K) rfl hAm (hr.mono (by decide)) T.sfA T.MAm.at_ T.MAm.fn T.muA T.bAm passL (pv 4) (pv 9)) T.clA T.MAc hAc (hr.mono (by decide)) T.bAc .nil pass0) (pe_c cLpower hr (by decide) rfl (pa_cons (pv 3) (pa_cons (pv 9) pa_nil))) (nomark _)) (pss_one (ps_ret pe_bl)) pss_nil)))
  (pss_cons (ps_set (i := 10) sclaw.nd rfl (Or.inl rfl) (pe_op (op_binOwn (E := E0) hAd (hr.mono (by decide)) T.sfA T.MAd.at_ T.MAd.fn T.bAd pass0) (pe_mulOwn (E := E0) (K := K) rfl hAm (hr.mono (by decide)) T.sfA T.MAm.at_ T.MAm.fn T.muA T.bAm passL (pv 4) (pe_ix (ix_any (hu_of hr)) (pv 6) pe_int (fun _ _ => rfl))) (pe_mulOwn (E := E0) (K := K) rfl hAm (hr.mono (by decide)) T.sfA T.MAm.at_ T.MAm.fn T.muA T.bAm passL (pv 4) (pe_ix (ix_any (hu_of hr)) (pv 6) pe_int (fun _ _ => rfl)))))
  (pss_cons (ps_if (pt_not (pt_cmpR (op_eqOwn (E := E0) hAe (hr.mono (by decide)) T.MAe.at_ T.MAe.fn T.bAe pass0) (pv 10) (pe_mulOwn (E := E0) (K := K) rfl hAm (hr.mono (by decide)) T.sfA T.MAm.at_ T.MAm.fn T.muA T.bAm passL (pv 4) (pe_op op_addA (pe_ix (ix_any (hu_of hr)) (pv 6) pe_int (fun _ _ => rfl)) (pe_ix (ix_any (hu_of hr)) (pv 6) pe_int (fun _ _ => rfl)))) (nomark _))) (pss_one (ps_ret pe_bl)) pss_nil)
  (pss_cons (ps_if (pt_cmpR (op_neA (u65 hr)) (pe_meth0 (E := E0) (pe_mulOwn (E := E0) (K := K) rfl hAm (hr.mono (by decide)) T.sfA T.MAm.at_ T.MAm.fn T.muA T.bAm passL (pv 4) pe_int) T.clA T.MAc hAc (hr.mono (by decide)) T.bAc .nil pass0) (pe_meth0 (E := E0) (pv 4) T.clA T.MAc hAc (hr.mono (by decide)) T.bAc .nil pass0) (nomark _)) (pss_one (ps_ret pe_bl)) pss_nil)
  (pss_cons (ps_if (pt_not (pt_cmpR (op_eqOwn (E := E0) hAe (hr.mono (by decide)) T.MAe.at_ T.MAe.fn T.bAe pass0) (pe_mulOwn (E := E0) (K := K) rfl hAm (hr.mono (by decide)) T.sfA T.MAm.at_ T.MAm.fn T.muA T.bAm passL (pe_mulOwn (E := E0) (K := K) rfl hAm (hr.mono (by decide)) T.sfA T.MAm.at_ T.MAm.fn T.muA T.bAm passL (pv 4) (pe_ix (ix_any (hu_of hr)) (pv 6) pe_int (fun _ _ => rfl))) (pv 5)) (pe_mulOwn (E := E0) (K := K) rfl hAm (hr.mono (by decide)) T.sfA T.MAm.at_ T.MAm.fn T.muA T.bAm passL (pv 4) (pe_op op_mulW (pe_ix (ix_any (hu_of hr)) (pv 6) pe_int (fun _ _ => rfl)) (pv 5))) (nomark _))) (pss_one (ps_ret pe_bl)) pss_nil)
  (pss_cons (ps_if (pt_cmpR (op_neA (u65 hr)) (pe_callTy (call_strOwn (E := E0) hAs (hr.mono (by decide)) T.MAs.at_ T.MAs.fn T.bAs pass0) (by rfl) T.z_str (by decide +kernel) (pa_cons (pe_mulOwn (E := E0) (K := K) rfl hAm (hr.mono (by decide)) T.sfA T.MAm.at_ T.MAm.fn T.muA T.bAm passL (pv 4) pe_int) pa_nil)) (pe_strS [110, 111, 116, 104, 105, 110, 103] (by decide +kernel)) (nomark _)) (pss_one (ps_ret pe_bl)) pss_nil)
  (pss_one (ps_if (PW.pt (pw_or (pt_not (pt_val (pe_cG cLrefused hG hr (by decide) rfl (pa_cons (pv 2) (pa_cons (pv 3) (pa_cons (pv 4) pa_nil)))))) (pw_or1 (pt_cmpR (op_neA (u65 hr)) (pe_meth0 (E := E0) (pv 4) T.clA T.MAc hAc (hr.mono (by decide)) T.bAc .nil pass0) (pe_c cLpower hr (by decide) rfl (pa_cons (pv 3) (pa_cons pe_int pa_nil))) (nomark _))))) (pss_one (ps_ret pe_bl)) pss_nil)))))))))))))))))
  (pss_one (ps_ret pe_bl)))
end
abbrev sNInit : Stmt := inClass (top 2) 0
theorem scNInit : FnScope ["self", "number"] ["self", "number"] (defScope sNInit) := ⟨rfl, rfl, rfl, by decide +kernel, rfl, by decide +kernel, by decide +kernel⟩
theorem ok_Ninit {P : Program} {w : World} {K : PySem.W.Frag} {mg : Str → Option Value} {base : Heap} {c : Cs} (T : Txt w K mg c) : FnOk P w K mg base CX0 1 c.fN c.fdN ["self", "number"] (spXI c.CN "number") := by
  refine T.fnN.ok scNInit (fun vs H Q E h => ?_) (fun cdv A outer s H vs Q E hr h => ?_)
  · obtain ⟨a, v, rfl, _⟩ := h
    rfl
  · obtain ⟨a, v, rfl, ha, q⟩ := h
    exact ⟨_, pss_one (ps_ost (pv 0) (pv 1)), _, rfl, _, rfl, a, c.CN, rfl, T.xN.oex, T.noN, .inl ⟨ha, fun d hd hne => q d hd hne⟩⟩
abbrev sGInit : Stmt := inClass (top 3) 0
theorem scGInit : FnScope ["self", "counter"] ["self", "counter"] (defScope sGInit) := ⟨rfl, rfl, rfl, by decide +kernel, rfl, by decide +kernel, by decide +kernel⟩
theorem ok_Ginit {P : Program} {w : World} {K : PySem.W.Frag} {mg : Str → Option Value} {base : Heap} {c : Cs} (T : Txt w K mg c) : FnOk P w K mg base CX0 1 c.fG c.fdG ["self", "counter"] (spXI c.CG "counter") := by
  refine T.fnG.ok scGInit (fun vs H Q E h => ?_) (fun cdv A outer s H vs Q E hr h => ?_)
  · obtain ⟨a, v, rfl, _⟩ := h
    rfl
  · obtain ⟨a, v, rfl, ha, q⟩ := h
    exact ⟨_, pss_one (ps_ost (pv 0) (pv 1)), _, rfl, _, rfl, a, c.CG, rfl, T.xG.oex, T.noG, .inl ⟨ha, fun d hd hne => q d hd hne⟩⟩
abbrev sMInit : Stmt := inClass (top 4) 0
theorem scMInit : FnScope ["self", "times"] ["self", "times"] (defScope sMInit) := ⟨rfl, rfl, rfl, by decide +kernel, rfl, by decide +kernel, by decide +kernel⟩
theorem ok_Minit {P : Program} {w : World} {K : PySem.W.Frag} {mg : Str → Option Value} {base : Heap} {c : Cs} (T : Txt w K mg c) : FnOk P w K mg base CX0 1 c.fM c.fdM ["self", "times"] (spXI c.CM "times") := by
  refine T.fnM.ok scMInit (fun vs H Q E h => ?_) (fun cdv A outer s H vs Q E hr h => ?_)
  · obtain ⟨a, v, rfl, _⟩ := h
    rfl
  · obtain ⟨a, v, rfl, ha, q⟩ := h
    exact ⟨_, pss_one (ps_ost (pv 0) (pv 1)), _, rfl, _, rfl, a, c.CM, rfl, T.xM.oex, T.noM, .inl ⟨ha, fun d hd hne => q d hd hne⟩⟩
abbrev sTape : Stmt := top 18
theorem scTape : FnScope ["_law_script", "_law_k", "_law_cell"] ["_law_script", "_law_k"] (defScope sTape) := ⟨rfl, rfl, rfl, by decide +kernel, rfl, by decide +kernel, by decide +kernel⟩
theorem ok_tapeF {P : Program} {w : World} {K : PySem.W.Frag} {mg : Str → Option Value} {base : Heap} {c : Cs} (T : Txt w K mg c) {f : Addr} {fd : FuncData} (F : Fun K "_law_tape" "_law_tape" sTape f fd) : FnOk P w K mg base CX0 1 f fd ["_law_script", "_law_k"] (spTapeF K) := by
  refine F.ok scTape (fun vs H Q E h => ?_) (fun cdv A outer s H vs Q E hr h => ?_)
  · obtain ⟨a, ns, k, rfl, _⟩ := h
    rfl
  · obtain ⟨a, ns, k, rfl, hS, h0, h1, q⟩ := h
    refine ⟨_, (pss_cons (ps_set (i := 2) scTape.nd rfl (Or.inl rfl) (pe_ifExp (pt_cmpR op_lt (pv 1) (pe_callB call_len_seq (by rfl) T.z_len (by decide +kernel) (pa_cons (pv 0) pa_nil)) (nomark _)) (pe_ix ix_list (pv 0) (pv 1) (fun _ _ => rfl)) pe_int))
  (pss_one (ps_ret (pe_lst (pa_cons (pe_callB call_abs (by rfl) T.z_abs (by decide +kernel) (pa_cons (pv 2) pa_nil)) (pa_cons (pe_op op_add (pe_op op_mul pe_int (pv 1)) pe_int) pa_nil)))))), ?_⟩
    have hl : (2 : Nat) ≤ sizeLine := by decide
    refine ⟨_, rfl, _, rfl, _, _, rfl, .inl hS, _, _, rfl, rfl, _, rfl, ?_⟩
    by_cases c : k < (((ns.map V.int).length : Nat) : Int)
    · have hk : k.toNat < ns.length := by rw [List.length_map] at c; omega
      have hz : atI (ns.map V.int) k = some (V.int ns[k.toNat]) := at_of (j := k.toNat) (by omega) (by rw [List.getElem?_map, List.getElem?_eq_getElem hk] <;> rfl)
      have ht : tA ns k = if ns[k.toNat] < 0 then -ns[k.toNat] else ns[k.toNat] := by
        unfold tA
        rw [List.getElem?_eq_getElem hk]
      refine if_true_of (decide_eq_true c) ?_
      refine ⟨_, rfl, _, rfl, _, _, _, _, rfl, rfl, hS, hz, ?_⟩
      rw [ht] at q
      exact ⟨_, rfl, _, rfl, _, rfl, _, _, rfl, rfl, .inl ⟨by decide, by decide⟩, _, _, rfl, rfl, hl, fun p hp => q p hp⟩
    · have hk : ns.length ≤ k.toNat := by rw [List.length_map] at c; omega
      have ht : tA ns k = if (0 : Int) < 0 then -0 else 0 := by
        unfold tA
        rw [List.getElem?_eq_none hk]
        rfl
      refine if_false_of (decide_eq_false c) ?_
      rw [ht] at q
      exact ⟨_, rfl, _, rfl, _, rfl, _, _, rfl, rfl, .inl ⟨by decide, by decide⟩, _, _, rfl, rfl, hl, fun p hp => q p hp⟩
end Pt
namespace Pt
open PySem PySem.Spec PyProof.Rows L2 Dv
open SX (S S_len S_cat)
/-! the law -/
theorem tA_nn {ns : List Int} {k : Int} : 0 ≤ tA ns k := by
  unfold tA
  split
  · split <;> omega
  · exact Int.le_refl _
theorem tape_ok {ns : List Int} {k : Int} (h0 : 0 ≤ k) (h1 : k ≤ 1000) : TapeOk (tA ns k) (7919 * k + 104729) := ⟨tA_nn, by omega, by omega⟩
theorem pow_sm {h : Hm} {B T : Nat} (hb : ∀ n, (h n).2 < B) (hB : 0 < B) (hT : 1 ≤ T) {t : Nat} (ht : t ≤ T) (n : List Nat) : (powH h t n).2 < B * T := by
  have h1 : B ≤ B * T := Nat.le_mul_of_pos_right B (by omega)
  unfold powH
  by_cases h0 : t = 0
  · rw [if_pos h0]
    show 0 < _
    omega
  · rw [if_neg h0]
    unfold mulH
    by_cases q : (h n).1 = true
    · rw [if_pos q]
      have := hb n
      omega
    · rw [if_neg q]
      show (h n).2 * t < B * T
      have := hb n
      calc (h n).2 * t ≤ (h n).2 * T := Nat.mul_le_mul_left _ ht
        _ < B * T := (Nat.mul_lt_mul_right (by omega)).mpr this
theorem law_turn {ns : List Int} {k : Int} (k0 : 0 ≤ k) (k1 : k ≤ 1000) (z2 z3 z4 z5 z6 z7 z8 z9 z10 : Sl) : ∃ y2 y3 y4 y5 y6 y7 y8 y9 y10, b2_law ns [.no, .sh (.int k), z2, z3, z4, z5, z6, z7, z8, z9, z10] = .nx [.no, .sh (.int k), y2, y3, y4, y5, y6, y7, y8, y9, y10] := by
  obtain ⟨A0, hA0⟩ : ∃ x, tA ns k = x := ⟨_, rfl⟩
  obtain ⟨B0, hB0⟩ : ∃ x, 7919 * k + 104729 = x := ⟨_, rfl⟩
  have t0 := tape_ok (ns := ns) k0 k1
  rw [hA0, hB0] at t0
  obtain ⟨A1, B1, ks, h, t1, nd, l1, l5, hb, z, hs, p1⟩ := r_changes t0
  have nms : ∀ n ∈ ks, nameL n = true := fun n hn => bas5_nm n (hb n hn)
  have o : NsOk ks := ⟨nd, l5, nms⟩
  have sm : SmH h := fun n => Nat.lt_trans (hs n) (by decide)
  obtain ⟨f', A2, B2, p2, f0, f1, t2⟩ := r_pick t1 (m := 10) (by omega) (by omega)
  obtain ⟨f, rfl⟩ : ∃ f : Nat, f' = (f : Int) := ⟨f'.toNat, by omega⟩
  obtain ⟨a', A3, B3, p3, a0, a1, t3⟩ := r_pick t2 (m := 100000000000000000000000000000) (by omega) (by omega)
  obtain ⟨a, rfl⟩ : ∃ f : Nat, a' = (f : Int) := ⟨a'.toNat, by omega⟩
  obtain ⟨b', A4, B4, p4, b0, b1, t4⟩ := r_pick t3 (m := 1000000000000000) (by omega) (by omega)
  obtain ⟨b, rfl⟩ : ∃ f : Nat, b' = (f : Int) := ⟨b'.toNat, by omega⟩
  obtain ⟨A5, B5, t5, p5⟩ := r_refused t4 (h := h) nd l1 l5 hb
  have f2 : f < 2 ^ 240 := by omega
  have a2 : a < 2 ^ 240 := by omega
  have b2 : b < 2 ^ 240 := by omega
  have ab2 : a + b < 2 ^ 240 := by omega
  have bf : b * f < 2 ^ 240 := by
    have h1 : b * f ≤ 10 ^ 15 * 10 := Nat.mul_le_mul (by omega) (by omega)
    have h2 : 10 ^ 15 * 10 < 2 ^ 240 := by decide
    omega
  have smb : SmH (powH h b) := fun n => Nat.lt_of_lt_of_le (pow_sm (B := 10 ^ 30) (T := 10 ^ 15) hs (by decide) (by decide) (by omega) n) (by decide)
  have zz := fun t => powH_ok z t
  obtain ⟨q, hq⟩ : ∃ q : Hm → List D, ∀ g, acD ks g = .obj 0 (q g) := ⟨_, fun _ => rfl⟩
  have Fmk := r_Action_init (h := h) (by omega) nd nms
  have Fmk0 := r_act0 o
  have Fadd : ∀ i, f_Action_add [.bo (acD ks (powH h i)), .bo (acD ks h)] = .ok (.ow (acD ks (powH h (i + 1)))) [.no, .no] := fun i => by
    have := r_add o (zz i) (zz 1)
    rw [powH_add, powH_one] at this
    exact this
  have Fadd2 : f_Action_add [.bo (acD ks (powH h a)), .bo (acD ks (powH h b))] = .ok (.ow (acD ks (powH h (a + b)))) [.no, .no] := by
    have := r_add o (zz a) (zz b)
    rw [powH_add] at this
    exact this
  have Fm := fun (t : Nat) ht => r_mul o z sm (t := t) ht
  have Fmf := Fm f f2
  have Fma := Fm a a2
  have Fmb := Fm b b2
  have Fmab := Fm (a + b) ab2
  have Fm1 := Fm 1 (by decide)
  have Fm0 := Fm 0 (by decide)
  have Fmbf := Fm (b * f) bf
  have Fbf := r_mul o (zz b) smb f2
  rw [powH_pow] at Fbf
  have Fe := fun g => r_eq (ns := ks) (h := g)
  have Fc := fun g => r_changes_of (h := g) o
  have Fp := fun (t : Nat) (ht : t < 2 ^ 240) => r_power sm nd (by omega) ht
  have Fn := fun t => told_power (h := h) nd t
  have Fpf := Fp f f2
  have Fpa := Fp a a2
  have Fpb := Fp b b2
  have Fp1 := Fp 1 (by decide)
  have Ft := dNe_chs (h := h) (List.Perm.refl ((sortT ks).filter (nz h)))
  have Fz := r_str0
  have e0 : powH h 0 = zeroH := rfl
  rw [e0] at Fm0
  rw [show ((0 : Nat) : Int) = 0 from rfl] at Fm0
  rw [show ((1 : Nat) : Int) = 1 from rfl] at Fm1 Fp1
  rw [powH_one] at Fm1
  have hz : acD ks zeroH = .obj 0 [.dct []] := acD_zero
  rw [← hz] at Fz
  have cbf : cMul (b : Int) (f : Int) = true := cmul_ok (by show b < _; omega) (by show f < _; omega)
  have cp1 : cPow 10 29 = true := by decide
  have cp2 : cPow 10 15 = true := by decide
  have cab : ((a + b : Nat) : Int) = (a : Int) + b := by omega
  have cbf2 : ((b * f : Nat) : Int) = (b : Int) * f := Int.natCast_mul b f
  rw [cab] at Fmab
  rw [cbf2] at Fmbf
  have l2 : (2 : Nat) ≤ lim := by decide
  simp only [hq] at *
  generalize (ks.map fun n => (D.str n, chD (h n))) = X at *
  obtain ⟨td, htd⟩ : ∃ td : Hm → List (D × D), ∀ g, (((sortT ks).filter (nz g)).map fun n => (D.str n, chD (g n))) = td g := ⟨_, fun _ => rfl⟩
  obtain ⟨pd, hpd⟩ : ∃ pd : Nat → List (D × D), ∀ t, ((ks.filter (pwP h t)).map fun n => (D.str n, chD (powH h t n))) = pd t := ⟨_, fun _ => rfl⟩
  simp only [htd, hpd] at *
  have Fn1 := Fn 1
  rw [powH_one] at Fn1
  -- the sums
  have loop : ∃ x8, forL (tgN 8) b0_law (rngD 0 f) [.no, .sh (.int k), .ow (tapeD A4 B4), .ow (.dct X), .ow (.obj 0 (q h)), .sh (.int (f : Int)), .ow (.lst [.int (a : Int), .int (b : Int)]), .ow (.obj 0 (q zeroH)), z8, z9, z10] = .nx [.no, .sh (.int k), .ow (tapeD A4 B4), .ow (.dct X), .ow (.obj 0 (q h)), .sh (.int (f : Int)), .ow (.lst [.int (a : Int), .int (b : Int)]), .ow (.obj 0 (q (powH h f))), x8, z9, z10] := by
    obtain ⟨e', h1, x8, rfl⟩ := forL_inv (tg := tgN 8) (f := b0_law) (fun i e => ∃ x8, e = [.no, .sh (.int k), .ow (tapeD A4 B4), .ow (.dct X), .ow (.obj 0 (q h)), .sh (.int (f : Int)), .ow (.lst [.int (a : Int), .int (b : Int)]), .ow (.obj 0 (q (powH h i))), x8, z9, z10]) (rngD 0 f) 0 [.no, .sh (.int k), .ow (tapeD A4 B4), .ow (.dct X), .ow (.obj 0 (q h)), .sh (.int (f : Int)), .ow (.lst [.int (a : Int), .int (b : Int)]), .ow (.obj 0 (q zeroH)), z8, z9, z10]
      (fun i d e hi ⟨x8, he⟩ => by
        subst he
        rw [Nat.zero_add]
        have fa := Fadd i
        refine ⟨_, _, rfl, .inl ?_, .sh d, rfl⟩
        unfold b0_law
        simp [rdv, dI2, dCmp, blD, fnF, okKp, kpL, intO, rdL, dInt, dAdd, outE, dLen, dAbs, shL, runF, mkE, slOf, nrm, muOf, okMu, backR, putS, isM, dList, dIsN, dNotN, Dv.isNon, dTup, isStr, Dv.isObj, madeR, mkR, isRefR, ePart, dNeg, dNotB, seqD, dTx, Is.fl, Is.bind, Dv.zipO, zipD, enumD, dSl, iMap, hIf, hIs, hRetL, hCons, hFl, hNil, fa])
      ⟨z8, by rw [e0]⟩
    rw [rngD_len, Nat.zero_add] at h1
    exact ⟨x8, h1⟩
  obtain ⟨x8, loop⟩ := loop
  obtain ⟨x9, loop2⟩ := forL_chk (tg := tgN 9) (f := b1_law) (fun (w : Sl) => [.no, .sh (.int k), .ow (tapeD A4 B4), .ow (.dct X), .ow (.obj 0 (q h)), .sh (.int (f : Int)), .sh (.lst [.int (a : Int), .int (b : Int)]), .ow (.obj 0 (q (powH h f))), x8, w, z10]) (fun (n : Nat) => D.int (n : Int)) [a, b] z9 (fun n hn w => by
    refine ⟨_, .sh (.int (n : Int)), rfl, ?_⟩
    have hn' : n = a ∨ n = b := by simpa [rdv, dI2, dCmp, blD, fnF, okKp, kpL, intO, rdL, dInt, dAdd, outE, dLen, dAbs, shL, runF, mkE, slOf, nrm, muOf, okMu, backR, putS, isM, dList, dIsN, dNotN, Dv.isNon, dTup, isStr, Dv.isObj, madeR, mkR, isRefR, ePart, dNeg, dNotB, seqD, dTx, Is.fl, Is.bind, Dv.zipO, zipD, enumD, dSl, iMap, hIf, hIs, hRetL, hCons, hFl, hNil] using hn
    have fn := Fn n
    unfold b1_law
    rcases hn' with rfl | rfl
    · have fc := Fc (powH h n)
      simp [rdv, dI2, dCmp, blD, fnF, okKp, kpL, intO, rdL, dInt, dAdd, outE, dLen, dAbs, shL, runF, mkE, slOf, nrm, muOf, okMu, backR, putS, isM, dList, dIsN, dNotN, Dv.isNon, dTup, isStr, Dv.isObj, madeR, mkR, isRefR, ePart, dNeg, dNotB, seqD, dTx, Is.fl, Is.bind, Dv.zipO, zipD, enumD, dSl, iMap, hIf, hIs, hRetL, hCons, hFl, hNil, Fma, fc, Fpa, fn, objR, tyR]
    · have fc := Fc (powH h n)
      simp [rdv, dI2, dCmp, blD, fnF, okKp, kpL, intO, rdL, dInt, dAdd, outE, dLen, dAbs, shL, runF, mkE, slOf, nrm, muOf, okMu, backR, putS, isM, dList, dIsN, dNotN, Dv.isNon, dTup, isStr, Dv.isObj, madeR, mkR, isRefR, ePart, dNeg, dNotB, seqD, dTx, Is.fl, Is.bind, Dv.zipO, zipD, enumD, dSl, iMap, hIf, hIs, hRetL, hCons, hFl, hNil, Fmb, fc, Fpb, fn, objR, tyR])
  simp only [List.map_cons, List.map_nil] at loop2
  have rg := rng1_nat (n := f) (by omega)
  refine ⟨.ow (tapeD A5 B5), .ow (.dct X), .ow (.obj 0 (q h)), .sh (.int (f : Int)), .sh (.lst [.int (a : Int), .int (b : Int)]), .ow (.obj 0 (q (powH h f))), x8, x9, .ow (.obj 0 (q (powH h (a + b)))), ?_⟩
  unfold b2_law
  refine (fSeq_at (e1 := [.no, .sh (.int k), .ow (tapeD A0 B0), z3, z4, z5, z6, z7, z8, z9, z10]) ?_).trans ?_
  · unfold eTp tpD tapeD
    simp [rdv, dI2, dCmp, blD, fnF, okKp, kpL, intO, rdL, dInt, dAdd, outE, dLen, dAbs, shL, runF, mkE, slOf, nrm, muOf, okMu, backR, putS, isM, dList, dIsN, dNotN, Dv.isNon, dTup, isStr, Dv.isObj, madeR, mkR, isRefR, ePart, dNeg, dNotB, seqD, dTx, Is.fl, Is.bind, Dv.zipO, zipD, enumD, dSl, iMap, hIf, hIs, hRetL, hCons, hFl, hNil, k0, k1, hA0, hB0]
  refine (fSeq_at (e1 := [.no, .sh (.int k), .ow (tapeD A1 B1), .ow (.dct X), z4, z5, z6, z7, z8, z9, z10]) ?_).trans ?_
  · simp [rdv, dI2, dCmp, blD, fnF, okKp, kpL, intO, rdL, dInt, dAdd, outE, dLen, dAbs, shL, runF, mkE, slOf, nrm, muOf, okMu, backR, putS, isM, dList, dIsN, dNotN, Dv.isNon, dTup, isStr, Dv.isObj, madeR, mkR, isRefR, ePart, dNeg, dNotB, seqD, dTx, Is.fl, Is.bind, Dv.zipO, zipD, enumD, dSl, iMap, hIf, hIs, hRetL, hCons, hFl, hNil, p1]
  refine (fSeq_at (e1 := [.no, .sh (.int k), .ow (tapeD A1 B1), .ow (.dct X), .ow (.obj 0 (q h)), z5, z6, z7, z8, z9, z10]) ?_).trans ?_
  · simp [rdv, dI2, dCmp, blD, fnF, okKp, kpL, intO, rdL, dInt, dAdd, outE, dLen, dAbs, shL, runF, mkE, slOf, nrm, muOf, okMu, backR, putS, isM, dList, dIsN, dNotN, Dv.isNon, dTup, isStr, Dv.isObj, madeR, mkR, isRefR, ePart, dNeg, dNotB, seqD, dTx, Is.fl, Is.bind, Dv.zipO, zipD, enumD, dSl, iMap, hIf, hIs, hRetL, hCons, hFl, hNil, Fmk, objR, tyR]
  refine (fSeq_at (e1 := [.no, .sh (.int k), .ow (tapeD A2 B2), .ow (.dct X), .ow (.obj 0 (q h)), .sh (.int (f : Int)), z6, z7, z8, z9, z10]) ?_).trans ?_
  · simp [rdv, dI2, dCmp, blD, fnF, okKp, kpL, intO, rdL, dInt, dAdd, outE, dLen, dAbs, shL, runF, mkE, slOf, nrm, muOf, okMu, backR, putS, isM, dList, dIsN, dNotN, Dv.isNon, dTup, isStr, Dv.isObj, madeR, mkR, isRefR, ePart, dNeg, dNotB, seqD, dTx, Is.fl, Is.bind, Dv.zipO, zipD, enumD, dSl, iMap, hIf, hIs, hRetL, hCons, hFl, hNil, p2]
  refine (fSeq_at (e1 := [.no, .sh (.int k), .ow (tapeD A4 B4), .ow (.dct X), .ow (.obj 0 (q h)), .sh (.int (f : Int)), .ow (.lst [.int (a : Int), .int (b : Int)]), z7, z8, z9, z10]) ?_).trans ?_
  · simp [rdv, dI2, dCmp, blD, fnF, okKp, kpL, intO, rdL, dInt, dAdd, outE, dLen, dAbs, shL, runF, mkE, slOf, nrm, muOf, okMu, backR, putS, isM, dList, dIsN, dNotN, Dv.isNon, dTup, isStr, Dv.isObj, madeR, mkR, isRefR, ePart, dNeg, dNotB, seqD, dTx, Is.fl, Is.bind, Dv.zipO, zipD, enumD, dSl, iMap, hIf, hIs, hRetL, hCons, hFl, hNil, p3, p4, cp1, cp2, l2]
  refine (fSeq_at (e1 := [.no, .sh (.int k), .ow (tapeD A4 B4), .ow (.dct X), .ow (.obj 0 (q h)), .sh (.int (f : Int)), .ow (.lst [.int (a : Int), .int (b : Int)]), .ow (.obj 0 (q zeroH)), z8, z9, z10]) ?_).trans ?_
  · simp [rdv, dI2, dCmp, blD, fnF, okKp, kpL, intO, rdL, dInt, dAdd, outE, dLen, dAbs, shL, runF, mkE, slOf, nrm, muOf, okMu, backR, putS, isM, dList, dIsN, dNotN, Dv.isNon, dTup, isStr, Dv.isObj, madeR, mkR, isRefR, ePart, dNeg, dNotB, seqD, dTx, Is.fl, Is.bind, Dv.zipO, zipD, enumD, dSl, iMap, hIf, hIs, hRetL, hCons, hFl, hNil, Fmk0, objR, tyR]
  refine (fSeq_at (e1 := [.no, .sh (.int k), .ow (tapeD A4 B4), .ow (.dct X), .ow (.obj 0 (q h)), .sh (.int (f : Int)), .ow (.lst [.int (a : Int), .int (b : Int)]), .ow (.obj 0 (q (powH h f))), x8, z9, z10]) ?_).trans ?_
  · refine (fFor_at (e1 := [.no, .sh (.int k), .ow (tapeD A4 B4), .ow (.dct X), .ow (.obj 0 (q h)), .sh (.int (f : Int)), .ow (.lst [.int (a : Int), .int (b : Int)]), .ow (.obj 0 (q zeroH)), z8, z9, z10]) ?_).trans loop
    simp [rdv, dI2, dCmp, blD, fnF, okKp, kpL, intO, rdL, dInt, dAdd, outE, dLen, dAbs, shL, runF, mkE, slOf, nrm, muOf, okMu, backR, putS, isM, dList, dIsN, dNotN, Dv.isNon, dTup, isStr, Dv.isObj, madeR, mkR, isRefR, ePart, dNeg, dNotB, seqD, dTx, Is.fl, Is.bind, Dv.zipO, zipD, enumD, dSl, iMap, hIf, hIs, hRetL, hCons, hFl, hNil, rg]
  have fcf := Fc (powH h f)
  have fnf := Fn f
  have fef := Fe (powH h f)
  have feab := Fe (powH h (a + b))
  have febf := Fe (powH h (b * f))
  have fch := Fc h
  refine (fSeq_at (e1 := [.no, .sh (.int k), .ow (tapeD A4 B4), .ow (.dct X), .ow (.obj 0 (q h)), .sh (.int (f : Int)), .ow (.lst [.int (a : Int), .int (b : Int)]), .ow (.obj 0 (q (powH h f))), x8, z9, z10]) ?_).trans ?_
  · simp [rdv, dI2, dCmp, blD, fnF, okKp, kpL, intO, rdL, dInt, dAdd, outE, dLen, dAbs, shL, runF, mkE, slOf, nrm, muOf, okMu, backR, putS, isM, dList, dIsN, dNotN, Dv.isNon, dTup, isStr, Dv.isObj, madeR, mkR, isRefR, ePart, dNeg, dNotB, seqD, dTx, Is.fl, Is.bind, Dv.zipO, zipD, enumD, dSl, iMap, hIf, hIs, hRetL, hCons, hFl, hNil, Fmf, fef, fcf, Fpf, fnf, isBlR, objR, tyR]
  refine (fSeq_at (e1 := [.no, .sh (.int k), .ow (tapeD A4 B4), .ow (.dct X), .ow (.obj 0 (q h)), .sh (.int (f : Int)), .sh (.lst [.int (a : Int), .int (b : Int)]), .ow (.obj 0 (q (powH h f))), x8, x9, z10]) ?_).trans ?_
  · exact (fFor_at (iSeq_ow (i := 6) (e := [.no, .sh (.int k), .ow (tapeD A4 B4), .ow (.dct X), .ow (.obj 0 (q h)), .sh (.int (f : Int)), .ow (.lst [.int (a : Int), .int (b : Int)]), .ow (.obj 0 (q (powH h f))), x8, z9, z10]) rfl)).trans loop2
  refine (fSeq_at (e1 := [.no, .sh (.int k), .ow (tapeD A4 B4), .ow (.dct X), .ow (.obj 0 (q h)), .sh (.int (f : Int)), .sh (.lst [.int (a : Int), .int (b : Int)]), .ow (.obj 0 (q (powH h f))), x8, x9, .ow (.obj 0 (q (powH h (a + b))))]) ?_).trans ?_
  · simp [rdv, dI2, dCmp, blD, fnF, okKp, kpL, intO, rdL, dInt, dAdd, outE, dLen, dAbs, shL, runF, mkE, slOf, nrm, muOf, okMu, backR, putS, isM, dList, dIsN, dNotN, Dv.isNon, dTup, isStr, Dv.isObj, madeR, mkR, isRefR, ePart, dNeg, dNotB, seqD, dTx, Is.fl, Is.bind, Dv.zipO, zipD, enumD, dSl, iMap, hIf, hIs, hRetL, hCons, hFl, hNil, Fma, Fmb, Fadd2, objR, tyR]
  refine (fSeq_at (e1 := [.no, .sh (.int k), .ow (tapeD A4 B4), .ow (.dct X), .ow (.obj 0 (q h)), .sh (.int (f : Int)), .sh (.lst [.int (a : Int), .int (b : Int)]), .ow (.obj 0 (q (powH h f))), x8, x9, .ow (.obj 0 (q (powH h (a + b))))]) ?_).trans ?_
  · simp [rdv, dI2, dCmp, blD, fnF, okKp, kpL, intO, rdL, dInt, dAdd, outE, dLen, dAbs, shL, runF, mkE, slOf, nrm, muOf, okMu, backR, putS, isM, dList, dIsN, dNotN, Dv.isNon, dTup, isStr, Dv.isObj, madeR, mkR, isRefR, ePart, dNeg, dNotB, seqD, dTx, Is.fl, Is.bind, Dv.zipO, zipD, enumD, dSl, iMap, hIf, hIs, hRetL, hCons, hFl, hNil, Fmab, feab, isBlR, objR, tyR]
  refine (fSeq_at (e1 := [.no, .sh (.int k), .ow (tapeD A4 B4), .ow (.dct X), .ow (.obj 0 (q h)), .sh (.int (f : Int)), .sh (.lst [.int (a : Int), .int (b : Int)]), .ow (.obj 0 (q (powH h f))), x8, x9, .ow (.obj 0 (q (powH h (a + b))))]) ?_).trans ?_
  · simp [rdv, dI2, dCmp, blD, fnF, okKp, kpL, intO, rdL, dInt, dAdd, outE, dLen, dAbs, shL, runF, mkE, slOf, nrm, muOf, okMu, backR, putS, isM, dList, dIsN, dNotN, Dv.isNon, dTup, isStr, Dv.isObj, madeR, mkR, isRefR, ePart, dNeg, dNotB, seqD, dTx, Is.fl, Is.bind, Dv.zipO, zipD, enumD, dSl, iMap, hIf, hIs, hRetL, hCons, hFl, hNil, Fm1, fch, Ft, objR, tyR]
  refine (fSeq_at (e1 := [.no, .sh (.int k), .ow (tapeD A4 B4), .ow (.dct X), .ow (.obj 0 (q h)), .sh (.int (f : Int)), .sh (.lst [.int (a : Int), .int (b : Int)]), .ow (.obj 0 (q (powH h f))), x8, x9, .ow (.obj 0 (q (powH h (a + b))))]) ?_).trans ?_
  · simp [rdv, dI2, dCmp, blD, fnF, okKp, kpL, intO, rdL, dInt, dAdd, outE, dLen, dAbs, shL, runF, mkE, slOf, nrm, muOf, okMu, backR, putS, isM, dList, dIsN, dNotN, Dv.isNon, dTup, isStr, Dv.isObj, madeR, mkR, isRefR, ePart, dNeg, dNotB, seqD, dTx, Is.fl, Is.bind, Dv.zipO, zipD, enumD, dSl, iMap, hIf, hIs, hRetL, hCons, hFl, hNil, Fmb, Fbf, Fmbf, cbf, febf, isBlR, objR, tyR]
  refine (fSeq_at (e1 := [.no, .sh (.int k), .ow (tapeD A4 B4), .ow (.dct X), .ow (.obj 0 (q h)), .sh (.int (f : Int)), .sh (.lst [.int (a : Int), .int (b : Int)]), .ow (.obj 0 (q (powH h f))), x8, x9, .ow (.obj 0 (q (powH h (a + b))))]) ?_).trans ?_
  · simp [rdv, dI2, dCmp, blD, fnF, okKp, kpL, intO, rdL, dInt, dAdd, outE, dLen, dAbs, shL, runF, mkE, slOf, nrm, muOf, okMu, backR, putS, isM, dList, dIsN, dNotN, Dv.isNon, dTup, isStr, Dv.isObj, madeR, mkR, isRefR, ePart, dNeg, dNotB, seqD, dTx, Is.fl, Is.bind, Dv.zipO, zipD, enumD, dSl, iMap, hIf, hIs, hRetL, hCons, hFl, hNil, Fm0, Fz, isStrR, objR, tyR]
  simp [rdv, dI2, dCmp, blD, fnF, okKp, kpL, intO, rdL, dInt, dAdd, outE, dLen, dAbs, shL, runF, mkE, slOf, nrm, muOf, okMu, backR, putS, isM, dList, dIsN, dNotN, Dv.isNon, dTup, isStr, Dv.isObj, madeR, mkR, isRefR, ePart, dNeg, dNotB, seqD, dTx, Is.fl, Is.bind, Dv.zipO, zipD, enumD, dSl, iMap, hIf, hIs, hRetL, hCons, hFl, hNil, p5, fch, Fp1, Fn1, objR, tyR]
theorem mm_nat (ns : List Int) : ∃ m : Nat, mmS ns = (m : Int) ∧ m ≤ 6 := by
  unfold mmS
  by_cases c : (ns.length : Int) < 6
  · rw [if_pos c]
    by_cases d : (ns.length : Int) > 2
    · rw [if_pos d]; exact ⟨ns.length, rfl, by omega⟩
    · rw [if_neg d]; exact ⟨2, rfl, by omega⟩
  · rw [if_neg c, if_pos (by decide)]; exact ⟨6, rfl, by omega⟩
theorem r_law (ns : List Int) : ∃ e', g_law ns (Sl.no :: List.replicate 10 Sl.no) = .rt (.sh (.bl true)) e' := by
  obtain ⟨m, hm, hm6⟩ := mm_nat ns
  obtain ⟨e', h1, y1, y2, y3, y4, y5, y6, y7, y8, y9, y10, rfl⟩ := forL_inv (tg := tgN 1) (f := b2_law ns) (fun i e => ∃ y1 y2 y3 y4 y5 y6 y7 y8 y9 y10 : Sl, e = [.no, y1, y2, y3, y4, y5, y6, y7, y8, y9, y10]) (rngD 0 m) 0 [.no, .no, .no, .no, .no, .no, .no, .no, .no, .no, .no]
    (fun i d e hi ⟨y1, y2, y3, y4, y5, y6, y7, y8, y9, y10, he⟩ => by
      subst he
      unfold rngD at hi
      rw [List.getElem?_map] at hi
      obtain ⟨j, hj, rfl⟩ := Option.map_eq_some_iff.mp hi
      have hj2 : j < m := by
        have := List.mem_of_getElem? hj
        exact List.mem_range.mp this
      obtain ⟨w2, w3, w4, w5, w6, w7, w8, w9, w10, st⟩ := law_turn (ns := ns) (k := 0 + (j : Int)) (by omega) (by omega) y2 y3 y4 y5 y6 y7 y8 y9 y10
      exact ⟨_, _, rfl, .inl st, _, _, _, _, _, _, _, _, _, _, rfl⟩)
    ⟨.no, .no, .no, .no, .no, .no, .no, .no, .no, .no, rfl⟩
  have rg := rng1_nat (n := m) (by omega)
  have src : iRng rngA1 (aCons (eC (.int (mmS ns))) aNil) [.no, .no, .no, .no, .no, .no, .no, .no, .no, .no, .no] = .ok (rngD 0 m) [.no, .no, .no, .no, .no, .no, .no, .no, .no, .no, .no] := by
    rw [hm]
    simp [rdv, dI2, dCmp, blD, fnF, okKp, kpL, intO, rdL, dInt, dAdd, outE, dLen, dAbs, shL, runF, mkE, slOf, nrm, muOf, okMu, backR, putS, isM, dList, dIsN, dNotN, Dv.isNon, dTup, isStr, Dv.isObj, madeR, mkR, isRefR, ePart, dNeg, dNotB, seqD, dTx, Is.fl, Is.bind, Dv.zipO, zipD, enumD, dSl, iMap, hIf, hIs, hRetL, hCons, hFl, hNil, rg]
  exact ⟨_, (fSeq_at ((fFor_at src).trans h1)).trans (by simp [rdv, dI2, dCmp, blD, fnF, okKp, kpL, intO, rdL, dInt, dAdd, outE, dLen, dAbs, shL, runF, mkE, slOf, nrm, muOf, okMu, backR, putS, isM, dList, dIsN, dNotN, Dv.isNon, dTup, isStr, Dv.isObj, madeR, mkR, isRefR, ePart, dNeg, dNotB, seqD, dTx, Is.fl, Is.bind, Dv.zipO, zipD, enumD, dSl, iMap, hIf, hIs, hRetL, hCons, hFl, hNil]; rfl)⟩
end Pt
namespace Pt
open PySem PySem.Spec PyProof.Rows L2 Dv
open SX (S S_len S_cat)
theorem txt_of {w : World} {K : PySem.W.Frag} {h : Heap} {mg : Str → Option Value} {CN : Addr} {fN : Addr} {CG : Addr} {fG : Addr} {CM : Addr} {fM : Addr} {CA : Addr} {mAc : Addr} {mAo : Addr} {mAd : Addr} {mAm : Addr} {mAe : Addr} {mAs : Addr} {iA : Addr} {CP : Addr} {u_LONGEST : Value} {nmN qN : Str} {NN : Addr} {bsN bmN : List Value} {snN : List Str} {subN : List Value} {abN : Bool} {colN : Option Bool} {ddN : Option Addr} {k0N k1N k2N k3N k5N : Option Value} {kVN dcN pmN cdN ctN ocN : Value} {anN odN : Option Addr} {slN : Array (Option Value)} {nmG qG : Str} {NG : Addr} {bsG bmG : List Value} {snG : List Str} {subG : List Value} {abG : Bool} {colG : Option Bool} {ddG : Option Addr} {k0G k1G k2G k3G k5G : Option Value} {kVG dcG pmG cdG ctG ocG : Value} {anG odG : Option Addr} {slG : Array (Option Value)} {nmM qM : Str} {NM : Addr} {bsM bmM : List Value} {snM : List Str} {subM : List Value} {abM : Bool} {colM : Option Bool} {ddM : Option Addr} {k0M k1M k2M k3M k5M : Option Value} {kVM dcM pmM cdM ctM ocM : Value} {anM odM : Option Addr} {slM : Array (Option Value)} {kVAc dcAc pmAc cdAc ctAc ocAc : Value} {anAc odAc : Option Addr} {slAc : Array (Option Value)} {kVAo dcAo pmAo cdAo ctAo ocAo : Value} {anAo odAo : Option Addr} {slAo : Array (Option Value)} {kVAd dcAd pmAd cdAd ctAd ocAd : Value} {anAd odAd : Option Addr} {slAd : Array (Option Value)} {kVAm dcAm pmAm cdAm ctAm ocAm : Value} {anAm odAm : Option Addr} {slAm : Array (Option Value)} {kVAe dcAe pmAe cdAe ctAe ocAe : Value} {anAe odAe : Option Addr} {slAe : Array (Option Value)} {kVAs dcAs pmAs cdAs ctAs ocAs : Value} {anAs odAs : Option Addr} {slAs : Array (Option Value)} {kVIA dcIA pmIA cdIA ctIA ocIA : Value} {anIA odIA : Option Addr} {slIA : Array (Option Value)} {f_is_number : Addr} {kVis_number dcis_number pmis_number cdis_number ctis_number ocis_number : Value} {anis_number odis_number : Option Addr} {slis_number : Array (Option Value)} {f_is_natural : Addr} {kVis_natural dcis_natural pmis_natural cdis_natural ctis_natural ocis_natural : Value} {anis_natural odis_natural : Option Addr} {slis_natural : Array (Option Value)} {f_is_name : Addr} {kVis_name dcis_name pmis_name cdis_name ctis_name ocis_name : Value} {anis_name odis_name : Option Addr} {slis_name : Array (Option Value)} {f_is_change : Addr} {kVis_change dcis_change pmis_change cdis_change ctis_change ocis_change : Value} {anis_change odis_change : Option Addr} {slis_change : Array (Option Value)} {f_changed : Addr} {kVchanged dcchanged pmchanged cdchanged ctchanged occhanged : Value} {anchanged odchanged : Option Addr} {slchanged : Array (Option Value)} {f_one_and_then : Addr} {kVone_and_then dcone_and_then pmone_and_then cdone_and_then ctone_and_then ocone_and_then : Value} {anone_and_then odone_and_then : Option Addr} {slone_and_then : Array (Option Value)} {f_repeated : Addr} {kVrepeated dcrepeated pmrepeated cdrepeated ctrepeated ocrepeated : Value} {anrepeated odrepeated : Option Addr} {slrepeated : Array (Option Value)} {f__law_tape : Addr} {kV_law_tape dc_law_tape pm_law_tape cd_law_tape ct_law_tape oc_law_tape : Value} {an_law_tape od_law_tape : Option Addr} {sl_law_tape : Array (Option Value)} {f__law_pick : Addr} {kV_law_pick dc_law_pick pm_law_pick cd_law_pick ct_law_pick oc_law_pick : Value} {an_law_pick od_law_pick : Option Addr} {sl_law_pick : Array (Option Value)} {f__law_shuffled : Addr} {kV_law_shuffled dc_law_shuffled pm_law_shuffled cd_law_shuffled ct_law_shuffled oc_law_shuffled : Value} {an_law_shuffled od_law_shuffled : Option Addr} {sl_law_shuffled : Array (Option Value)} {f__law_changes : Addr} {kV_law_changes dc_law_changes pm_law_changes cd_law_changes ct_law_changes oc_law_changes : Value} {an_law_changes od_law_changes : Option Addr} {sl_law_changes : Array (Option Value)} {f__law_power : Addr} {kV_law_power dc_law_power pm_law_power cd_law_power ct_law_power oc_law_power : Value} {an_law_power od_law_power : Option Addr} {sl_law_power : Array (Option Value)} {f__law_made : Addr} {kV_law_made dc_law_made pm_law_made cd_law_made ct_law_made oc_law_made : Value} {an_law_made od_law_made : Option Addr} {sl_law_made : Array (Option Value)} {f__law_times : Addr} {kV_law_times dc_law_times pm_law_times cd_law_times ct_law_times oc_law_times : Value} {an_law_times od_law_times : Option Addr} {sl_law_times : Array (Option Value)} {f__law_of : Addr} {kV_law_of dc_law_of pm_law_of cd_law_of ct_law_of oc_law_of : Value} {an_law_of od_law_of : Option Addr} {sl_law_of : Array (Option Value)} {f__law_refused : Addr} {kV_law_refused dc_law_refused pm_law_refused cd_law_refused ct_law_refused oc_law_refused : Value} {an_law_refused od_law_refused : Option Addr} {sl_law_refused : Array (Option Value)} (X : K.In h) (G : h.Ns mainGlobals mg)
    (z_abs : PySem.W.nsIn K mainGlobals "abs" = some none)
    (z_bool : PySem.W.nsIn K mainGlobals "bool" = some none)
    (z_dict : PySem.W.nsIn K mainGlobals "dict" = some none)
    (z_int : PySem.W.nsIn K mainGlobals "int" = some none)
    (z_isinstance : PySem.W.nsIn K mainGlobals "isinstance" = some none)
    (z_len : PySem.W.nsIn K mainGlobals "len" = some none)
    (z_list : PySem.W.nsIn K mainGlobals "list" = some none)
    (z_max : PySem.W.nsIn K mainGlobals "max" = some none)
    (z_min : PySem.W.nsIn K mainGlobals "min" = some none)
    (z_range : PySem.W.nsIn K mainGlobals "range" = some none)
    (z_repr : PySem.W.nsIn K mainGlobals "repr" = some none)
    (z_sorted : PySem.W.nsIn K mainGlobals "sorted" = some none)
    (z_str : PySem.W.nsIn K mainGlobals "str" = some none)
    (z_tuple : PySem.W.nsIn K mainGlobals "tuple" = some none)
    (g_LONGEST : PySem.W.nsIn K mainGlobals "LONGEST" = some (some u_LONGEST))
    (r_LONGEST : RelV (.int 8) u_LONGEST)
    (mg_N : PySem.W.nsIn K mainGlobals "BadNumber" = some (some (.ref CN)))
    (l_N : K.lookup CN = some (excClassObj nmN qN CN NN bsN bmN true snN subN abN colN ddN k0N k1N k2N k3N k5N "ValueError.__new__"))
    (b_N : PySem.HandSPX.refsVE bmN = true)
    (sa_N : PySem.W.findIn K (.ref CN) "__setattr__" = some (some (.builtin "object.__setattr__")))
    (ty_N : PySem.W.typeIn K (.ref CN) = some (.type "type"))
    (kc_N : PySem.W.keepIn K (.ref CN) = true)
    (hg_N : PySem.W.findIn K (.ref CN) "__getattribute__" = some (some (.builtin "BaseException.__getattribute__")))
    (hk_N : PySem.W.findIn K (.ref CN) "__getattr__" = some none)
    (hs_N : PySem.W.subIn K (.ref CN) (.type "BaseException") = some true)
    (hd_N : PySem.W.hasDictIn K CN = true)
    (ha_N : PySem.W.findIn K (.ref CN) "__class__" = some (some (.builtin "object.__class__")))
    (hn_N : PySem.W.specialIn K (.builtin "object.__class__") "__get__" = some (some (.builtin "getset_descriptor.__get__")))
    (ht_N : PySem.W.takesIn K (.builtin "object.__class__") = some true)
    (hm_N : PySem.W.mroIn K CN (.type "object") = some true)
    (ss_N : PySem.W.subIn K (.ref CN) (.ref CN) = some true)
    (noN : PySem.W.findIn K (.ref CN) "number" = some none)
    (iN : PySem.W.findIn K (.ref CN) "__init__" = some (some (.ref fN)))
    (tN : PySem.W.typeIn K (.ref fN) = some (.type "function"))
    (lfN : K.lookup fN = some ⟨ocN, odN, .func (PySem.W.fnOf "__init__" "BadNumber.__init__" (defArgs (inClass (top 2) 0)) (defBody (inClass (top 2) 0)) (defScope (inClass (top 2) 0)) .none kVN dcN pmN anN cdN ctN), slN⟩)
    (cfN : PySem.W.codeIn K cdN "BadNumber.__init__" = true)
    (kfN : PySem.W.keepIn K (.ref fN) = true)
    (mg_G : PySem.W.nsIn K mainGlobals "BadChange" = some (some (.ref CG)))
    (l_G : K.lookup CG = some (excClassObj nmG qG CG NG bsG bmG true snG subG abG colG ddG k0G k1G k2G k3G k5G "ValueError.__new__"))
    (b_G : PySem.HandSPX.refsVE bmG = true)
    (sa_G : PySem.W.findIn K (.ref CG) "__setattr__" = some (some (.builtin "object.__setattr__")))
    (ty_G : PySem.W.typeIn K (.ref CG) = some (.type "type"))
    (kc_G : PySem.W.keepIn K (.ref CG) = true)
    (hg_G : PySem.W.findIn K (.ref CG) "__getattribute__" = some (some (.builtin "BaseException.__getattribute__")))
    (hk_G : PySem.W.findIn K (.ref CG) "__getattr__" = some none)
    (hs_G : PySem.W.subIn K (.ref CG) (.type "BaseException") = some true)
    (hd_G : PySem.W.hasDictIn K CG = true)
    (ha_G : PySem.W.findIn K (.ref CG) "__class__" = some (some (.builtin "object.__class__")))
    (hn_G : PySem.W.specialIn K (.builtin "object.__class__") "__get__" = some (some (.builtin "getset_descriptor.__get__")))
    (ht_G : PySem.W.takesIn K (.builtin "object.__class__") = some true)
    (hm_G : PySem.W.mroIn K CG (.type "object") = some true)
    (ss_G : PySem.W.subIn K (.ref CG) (.ref CG) = some true)
    (noG : PySem.W.findIn K (.ref CG) "counter" = some none)
    (iG : PySem.W.findIn K (.ref CG) "__init__" = some (some (.ref fG)))
    (tG : PySem.W.typeIn K (.ref fG) = some (.type "function"))
    (lfG : K.lookup fG = some ⟨ocG, odG, .func (PySem.W.fnOf "__init__" "BadChange.__init__" (defArgs (inClass (top 3) 0)) (defBody (inClass (top 3) 0)) (defScope (inClass (top 3) 0)) .none kVG dcG pmG anG cdG ctG), slG⟩)
    (cfG : PySem.W.codeIn K cdG "BadChange.__init__" = true)
    (kfG : PySem.W.keepIn K (.ref fG) = true)
    (mg_M : PySem.W.nsIn K mainGlobals "BadTimes" = some (some (.ref CM)))
    (l_M : K.lookup CM = some (excClassObj nmM qM CM NM bsM bmM true snM subM abM colM ddM k0M k1M k2M k3M k5M "ValueError.__new__"))
    (b_M : PySem.HandSPX.refsVE bmM = true)
    (sa_M : PySem.W.findIn K (.ref CM) "__setattr__" = some (some (.builtin "object.__setattr__")))
    (ty_M : PySem.W.typeIn K (.ref CM) = some (.type "type"))
    (kc_M : PySem.W.keepIn K (.ref CM) = true)
    (hg_M : PySem.W.findIn K (.ref CM) "__getattribute__" = some (some (.builtin "BaseException.__getattribute__")))
    (hk_M : PySem.W.findIn K (.ref CM) "__getattr__" = some none)
    (hs_M : PySem.W.subIn K (.ref CM) (.type "BaseException") = some true)
    (hd_M : PySem.W.hasDictIn K CM = true)
    (ha_M : PySem.W.findIn K (.ref CM) "__class__" = some (some (.builtin "object.__class__")))
    (hn_M : PySem.W.specialIn K (.builtin "object.__class__") "__get__" = some (some (.builtin "getset_descriptor.__get__")))
    (ht_M : PySem.W.takesIn K (.builtin "object.__class__") = some true)
    (hm_M : PySem.W.mroIn K CM (.type "object") = some true)
    (ss_M : PySem.W.subIn K (.ref CM) (.ref CM) = some true)
    (noM : PySem.W.findIn K (.ref CM) "times" = some none)
    (iM : PySem.W.findIn K (.ref CM) "__init__" = some (some (.ref fM)))
    (tM : PySem.W.typeIn K (.ref fM) = some (.type "function"))
    (lfM : K.lookup fM = some ⟨ocM, odM, .func (PySem.W.fnOf "__init__" "BadTimes.__init__" (defArgs (inClass (top 4) 0)) (defBody (inClass (top 4) 0)) (defScope (inClass (top 4) 0)) .none kVM dcM pmM anM cdM ctM), slM⟩)
    (cfM : PySem.W.codeIn K cdM "BadTimes.__init__" = true)
    (kfM : PySem.W.keepIn K (.ref fM) = true)
    (gCA : PySem.W.nsIn K mainGlobals "Action" = some (some (.ref CA)))
    (pgA : PySem.W.plainGet K CA Str.empty = true)
    (hdA : PySem.W.hasDictIn K CA = true)
    (poA : PySem.W.plainOver K CA = true)
    (saA : PySem.W.findIn K (.ref CA) "__setattr__" = some (some (.builtin "object.__setattr__")))
    (haA : PySem.W.findIn K (.ref CA) "__class__" = some (some (.builtin "object.__class__")))
    (hnA : PySem.W.specialIn K (.builtin "object.__class__") "__get__" = some (some (.builtin "getset_descriptor.__get__")))
    (htA : PySem.W.takesIn K (.builtin "object.__class__") = some true)
    (hmA : PySem.W.mroIn K CA (.type "object") = some true)
    (ttA : PySem.W.typeIn K (.ref CA) = some (.type "type"))
    (ssA : PySem.W.subIn K (.ref CA) (.ref CA) = some true)
    (snA : PySem.W.subIn K (.type "str") (.ref CA) = some false)
    (naA__changes : PySem.W.findIn K (.ref CA) "_changes" = some none)
    (atAc : PySem.W.findIn K (.ref CA) "changes" = some (some (.ref mAc)))
    (isAc : PySem.W.isFn K (.ref mAc) = true)
    (lfAc : K.lookup mAc = some ⟨ocAc, odAc, .func (PySem.W.fnOf "changes" "Action.changes" (defArgs (inClass (top 12) 1)) (defBody (inClass (top 12) 1)) (defScope (inClass (top 12) 1)) .none kVAc dcAc pmAc anAc cdAc ctAc), slAc⟩)
    (cfAc : PySem.W.codeIn K cdAc "Action.changes" = true)
    (kfAc : PySem.W.keepIn K (.ref mAc) = true)
    (atAo : PySem.W.findIn K (.ref CA) "of" = some (some (.ref mAo)))
    (isAo : PySem.W.isFn K (.ref mAo) = true)
    (lfAo : K.lookup mAo = some ⟨ocAo, odAo, .func (PySem.W.fnOf "of" "Action.of" (defArgs (inClass (top 12) 2)) (defBody (inClass (top 12) 2)) (defScope (inClass (top 12) 2)) .none kVAo dcAo pmAo anAo cdAo ctAo), slAo⟩)
    (cfAo : PySem.W.codeIn K cdAo "Action.of" = true)
    (kfAo : PySem.W.keepIn K (.ref mAo) = true)
    (atAd : PySem.W.findIn K (.ref CA) "__add__" = some (some (.ref mAd)))
    (isAd : PySem.W.isFn K (.ref mAd) = true)
    (lfAd : K.lookup mAd = some ⟨ocAd, odAd, .func (PySem.W.fnOf "__add__" "Action.__add__" (defArgs (inClass (top 12) 3)) (defBody (inClass (top 12) 3)) (defScope (inClass (top 12) 3)) .none kVAd dcAd pmAd anAd cdAd ctAd), slAd⟩)
    (cfAd : PySem.W.codeIn K cdAd "Action.__add__" = true)
    (kfAd : PySem.W.keepIn K (.ref mAd) = true)
    (atAm : PySem.W.findIn K (.ref CA) "__mul__" = some (some (.ref mAm)))
    (isAm : PySem.W.isFn K (.ref mAm) = true)
    (lfAm : K.lookup mAm = some ⟨ocAm, odAm, .func (PySem.W.fnOf "__mul__" "Action.__mul__" (defArgs (inClass (top 12) 4)) (defBody (inClass (top 12) 4)) (defScope (inClass (top 12) 4)) .none kVAm dcAm pmAm anAm cdAm ctAm), slAm⟩)
    (cfAm : PySem.W.codeIn K cdAm "Action.__mul__" = true)
    (kfAm : PySem.W.keepIn K (.ref mAm) = true)
    (atAe : PySem.W.findIn K (.ref CA) "__eq__" = some (some (.ref mAe)))
    (isAe : PySem.W.isFn K (.ref mAe) = true)
    (lfAe : K.lookup mAe = some ⟨ocAe, odAe, .func (PySem.W.fnOf "__eq__" "Action.__eq__" (defArgs (inClass (top 12) 5)) (defBody (inClass (top 12) 5)) (defScope (inClass (top 12) 5)) .none kVAe dcAe pmAe anAe cdAe ctAe), slAe⟩)
    (cfAe : PySem.W.codeIn K cdAe "Action.__eq__" = true)
    (kfAe : PySem.W.keepIn K (.ref mAe) = true)
    (atAs : PySem.W.findIn K (.ref CA) "__str__" = some (some (.ref mAs)))
    (isAs : PySem.W.isFn K (.ref mAs) = true)
    (lfAs : K.lookup mAs = some ⟨ocAs, odAs, .func (PySem.W.fnOf "__str__" "Action.__str__" (defArgs (inClass (top 12) 6)) (defBody (inClass (top 12) 6)) (defScope (inClass (top 12) 6)) .none kVAs dcAs pmAs anAs cdAs ctAs), slAs⟩)
    (cfAs : PySem.W.codeIn K cdAs "Action.__str__" = true)
    (kfAs : PySem.W.keepIn K (.ref mAs) = true)
    (atIA : PySem.W.findIn K (.ref CA) "__init__" = some (some (.ref iA)))
    (isIA : PySem.W.isFn K (.ref iA) = true)
    (msIA : PySem.W.makesIn K CA = true)
    (kpIA : PySem.W.keepIn K (.ref CA) = true)
    (lfIA : K.lookup iA = some ⟨ocIA, odIA, .func (PySem.W.fnOf "__init__" "Action.__init__" (defArgs (inClass (top 12) 0)) (defBody (inClass (top 12) 0)) (defScope (inClass (top 12) 0)) .none kVIA dcIA pmIA anIA cdIA ctIA), slIA⟩)
    (cfIA : PySem.W.codeIn K cdIA "Action.__init__" = true)
    (kfIA : PySem.W.keepIn K (.ref iA) = true)
    (gCP : PySem.W.nsIn K mainGlobals "PartError" = some (some (.ref CP)))
    (hd_CP : PySem.W.hasDictIn K CP = true)
    (ty_CP : PySem.W.typeIn K (.ref CP) = some (.type "type"))
    (s_kGP : PySem.W.subIn K (.ref CG) (.ref CP) = some true)
    (sfA : PySem.W.selfFirst K CA = true)
    (a_is_number : PySem.W.nsIn K mainGlobals "is_number" = some (some (.ref f_is_number)))
    (l_is_number : K.lookup f_is_number = some ⟨ocis_number, odis_number, .func (PySem.W.fnOf "is_number" "is_number" (defArgs (top 6)) (defBody (top 6)) (defScope (top 6)) .none kVis_number dcis_number pmis_number anis_number cdis_number ctis_number), slis_number⟩)
    (c_is_number : PySem.W.codeIn K cdis_number "is_number" = true)
    (k_is_number : PySem.W.keepIn K (.ref f_is_number) = true)
    (a_is_natural : PySem.W.nsIn K mainGlobals "is_natural" = some (some (.ref f_is_natural)))
    (l_is_natural : K.lookup f_is_natural = some ⟨ocis_natural, odis_natural, .func (PySem.W.fnOf "is_natural" "is_natural" (defArgs (top 7)) (defBody (top 7)) (defScope (top 7)) .none kVis_natural dcis_natural pmis_natural anis_natural cdis_natural ctis_natural), slis_natural⟩)
    (c_is_natural : PySem.W.codeIn K cdis_natural "is_natural" = true)
    (k_is_natural : PySem.W.keepIn K (.ref f_is_natural) = true)
    (a_is_name : PySem.W.nsIn K mainGlobals "is_name" = some (some (.ref f_is_name)))
    (l_is_name : K.lookup f_is_name = some ⟨ocis_name, odis_name, .func (PySem.W.fnOf "is_name" "is_name" (defArgs (top 10)) (defBody (top 10)) (defScope (top 10)) .none kVis_name dcis_name pmis_name anis_name cdis_name ctis_name), slis_name⟩)
    (c_is_name : PySem.W.codeIn K cdis_name "is_name" = true)
    (k_is_name : PySem.W.keepIn K (.ref f_is_name) = true)
    (a_is_change : PySem.W.nsIn K mainGlobals "is_change" = some (some (.ref f_is_change)))
    (l_is_change : K.lookup f_is_change = some ⟨ocis_change, odis_change, .func (PySem.W.fnOf "is_change" "is_change" (defArgs (top 13)) (defBody (top 13)) (defScope (top 13)) .none kVis_change dcis_change pmis_change anis_change cdis_change ctis_change), slis_change⟩)
    (c_is_change : PySem.W.codeIn K cdis_change "is_change" = true)
    (k_is_change : PySem.W.keepIn K (.ref f_is_change) = true)
    (a_changed : PySem.W.nsIn K mainGlobals "changed" = some (some (.ref f_changed)))
    (l_changed : K.lookup f_changed = some ⟨occhanged, odchanged, .func (PySem.W.fnOf "changed" "changed" (defArgs (top 14)) (defBody (top 14)) (defScope (top 14)) .none kVchanged dcchanged pmchanged anchanged cdchanged ctchanged), slchanged⟩)
    (c_changed : PySem.W.codeIn K cdchanged "changed" = true)
    (k_changed : PySem.W.keepIn K (.ref f_changed) = true)
    (a_one_and_then : PySem.W.nsIn K mainGlobals "one_and_then" = some (some (.ref f_one_and_then)))
    (l_one_and_then : K.lookup f_one_and_then = some ⟨ocone_and_then, odone_and_then, .func (PySem.W.fnOf "one_and_then" "one_and_then" (defArgs (top 15)) (defBody (top 15)) (defScope (top 15)) .none kVone_and_then dcone_and_then pmone_and_then anone_and_then cdone_and_then ctone_and_then), slone_and_then⟩)
    (c_one_and_then : PySem.W.codeIn K cdone_and_then "one_and_then" = true)
    (k_one_and_then : PySem.W.keepIn K (.ref f_one_and_then) = true)
    (a_repeated : PySem.W.nsIn K mainGlobals "repeated" = some (some (.ref f_repeated)))
    (l_repeated : K.lookup f_repeated = some ⟨ocrepeated, odrepeated, .func (PySem.W.fnOf "repeated" "repeated" (defArgs (top 16)) (defBody (top 16)) (defScope (top 16)) .none kVrepeated dcrepeated pmrepeated anrepeated cdrepeated ctrepeated), slrepeated⟩)
    (c_repeated : PySem.W.codeIn K cdrepeated "repeated" = true)
    (k_repeated : PySem.W.keepIn K (.ref f_repeated) = true)
    (a__law_tape : PySem.W.nsIn K mainGlobals "_law_tape" = some (some (.ref f__law_tape)))
    (l__law_tape : K.lookup f__law_tape = some ⟨oc_law_tape, od_law_tape, .func (PySem.W.fnOf "_law_tape" "_law_tape" (defArgs (top 18)) (defBody (top 18)) (defScope (top 18)) .none kV_law_tape dc_law_tape pm_law_tape an_law_tape cd_law_tape ct_law_tape), sl_law_tape⟩)
    (c__law_tape : PySem.W.codeIn K cd_law_tape "_law_tape" = true)
    (k__law_tape : PySem.W.keepIn K (.ref f__law_tape) = true)
    (a__law_pick : PySem.W.nsIn K mainGlobals "_law_pick" = some (some (.ref f__law_pick)))
    (l__law_pick : K.lookup f__law_pick = some ⟨oc_law_pick, od_law_pick, .func (PySem.W.fnOf "_law_pick" "_law_pick" (defArgs (top 19)) (defBody (top 19)) (defScope (top 19)) .none kV_law_pick dc_law_pick pm_law_pick an_law_pick cd_law_pick ct_law_pick), sl_law_pick⟩)
    (c__law_pick : PySem.W.codeIn K cd_law_pick "_law_pick" = true)
    (k__law_pick : PySem.W.keepIn K (.ref f__law_pick) = true)
    (a__law_shuffled : PySem.W.nsIn K mainGlobals "_law_shuffled" = some (some (.ref f__law_shuffled)))
    (l__law_shuffled : K.lookup f__law_shuffled = some ⟨oc_law_shuffled, od_law_shuffled, .func (PySem.W.fnOf "_law_shuffled" "_law_shuffled" (defArgs (top 20)) (defBody (top 20)) (defScope (top 20)) .none kV_law_shuffled dc_law_shuffled pm_law_shuffled an_law_shuffled cd_law_shuffled ct_law_shuffled), sl_law_shuffled⟩)
    (c__law_shuffled : PySem.W.codeIn K cd_law_shuffled "_law_shuffled" = true)
    (k__law_shuffled : PySem.W.keepIn K (.ref f__law_shuffled) = true)
    (a__law_changes : PySem.W.nsIn K mainGlobals "_law_changes" = some (some (.ref f__law_changes)))
    (l__law_changes : K.lookup f__law_changes = some ⟨oc_law_changes, od_law_changes, .func (PySem.W.fnOf "_law_changes" "_law_changes" (defArgs (top 21)) (defBody (top 21)) (defScope (top 21)) .none kV_law_changes dc_law_changes pm_law_changes an_law_changes cd_law_changes ct_law_changes), sl_law_changes⟩)
    (c__law_changes : PySem.W.codeIn K cd_law_changes "_law_changes" = true)
    (k__law_changes : PySem.W.keepIn K (.ref f__law_changes) = true)
    (a__law_power : PySem.W.nsIn K mainGlobals "_law_power" = some (some (.ref f__law_power)))
    (l__law_power : K.lookup f__law_power = some ⟨oc_law_power, od_law_power, .func (PySem.W.fnOf "_law_power" "_law_power" (defArgs (top 22)) (defBody (top 22)) (defScope (top 22)) .none kV_law_power dc_law_power pm_law_power an_law_power cd_law_power ct_law_power), sl_law_power⟩)
    (c__law_power : PySem.W.codeIn K cd_law_power "_law_power" = true)
    (k__law_power : PySem.W.keepIn K (.ref f__law_power) = true)
    (a__law_made : PySem.W.nsIn K mainGlobals "_law_made" = some (some (.ref f__law_made)))
    (l__law_made : K.lookup f__law_made = some ⟨oc_law_made, od_law_made, .func (PySem.W.fnOf "_law_made" "_law_made" (defArgs (top 23)) (defBody (top 23)) (defScope (top 23)) .none kV_law_made dc_law_made pm_law_made an_law_made cd_law_made ct_law_made), sl_law_made⟩)
    (c__law_made : PySem.W.codeIn K cd_law_made "_law_made" = true)
    (k__law_made : PySem.W.keepIn K (.ref f__law_made) = true)
    (a__law_times : PySem.W.nsIn K mainGlobals "_law_times" = some (some (.ref f__law_times)))
    (l__law_times : K.lookup f__law_times = some ⟨oc_law_times, od_law_times, .func (PySem.W.fnOf "_law_times" "_law_times" (defArgs (top 24)) (defBody (top 24)) (defScope (top 24)) .none kV_law_times dc_law_times pm_law_times an_law_times cd_law_times ct_law_times), sl_law_times⟩)
    (c__law_times : PySem.W.codeIn K cd_law_times "_law_times" = true)
    (k__law_times : PySem.W.keepIn K (.ref f__law_times) = true)
    (a__law_of : PySem.W.nsIn K mainGlobals "_law_of" = some (some (.ref f__law_of)))
    (l__law_of : K.lookup f__law_of = some ⟨oc_law_of, od_law_of, .func (PySem.W.fnOf "_law_of" "_law_of" (defArgs (top 25)) (defBody (top 25)) (defScope (top 25)) .none kV_law_of dc_law_of pm_law_of an_law_of cd_law_of ct_law_of), sl_law_of⟩)
    (c__law_of : PySem.W.codeIn K cd_law_of "_law_of" = true)
    (k__law_of : PySem.W.keepIn K (.ref f__law_of) = true)
    (a__law_refused : PySem.W.nsIn K mainGlobals "_law_refused" = some (some (.ref f__law_refused)))
    (l__law_refused : K.lookup f__law_refused = some ⟨oc_law_refused, od_law_refused, .func (PySem.W.fnOf "_law_refused" "_law_refused" (defArgs (top 26)) (defBody (top 26)) (defScope (top 26)) .none kV_law_refused dc_law_refused pm_law_refused an_law_refused cd_law_refused ct_law_refused), sl_law_refused⟩)
    (c__law_refused : PySem.W.codeIn K cd_law_refused "_law_refused" = true)
    (k__law_refused : PySem.W.keepIn K (.ref f__law_refused) = true)
    (muA : mulB K CA "mul" = true)
    : Txt w K mg ⟨CN, fN, PySem.W.fnOf "__init__" "BadNumber.__init__" (defArgs (inClass (top 2) 0)) (defBody (inClass (top 2) 0)) (defScope (inClass (top 2) 0)) .none kVN dcN pmN anN cdN ctN, CG, fG, PySem.W.fnOf "__init__" "BadChange.__init__" (defArgs (inClass (top 3) 0)) (defBody (inClass (top 3) 0)) (defScope (inClass (top 3) 0)) .none kVG dcG pmG anG cdG ctG, CM, fM, PySem.W.fnOf "__init__" "BadTimes.__init__" (defArgs (inClass (top 4) 0)) (defBody (inClass (top 4) 0)) (defScope (inClass (top 4) 0)) .none kVM dcM pmM anM cdM ctM, CA, mAc, PySem.W.fnOf "changes" "Action.changes" (defArgs (inClass (top 12) 1)) (defBody (inClass (top 12) 1)) (defScope (inClass (top 12) 1)) .none kVAc dcAc pmAc anAc cdAc ctAc, mAo, PySem.W.fnOf "of" "Action.of" (defArgs (inClass (top 12) 2)) (defBody (inClass (top 12) 2)) (defScope (inClass (top 12) 2)) .none kVAo dcAo pmAo anAo cdAo ctAo, mAd, PySem.W.fnOf "__add__" "Action.__add__" (defArgs (inClass (top 12) 3)) (defBody (inClass (top 12) 3)) (defScope (inClass (top 12) 3)) .none kVAd dcAd pmAd anAd cdAd ctAd, mAm, PySem.W.fnOf "__mul__" "Action.__mul__" (defArgs (inClass (top 12) 4)) (defBody (inClass (top 12) 4)) (defScope (inClass (top 12) 4)) .none kVAm dcAm pmAm anAm cdAm ctAm, mAe, PySem.W.fnOf "__eq__" "Action.__eq__" (defArgs (inClass (top 12) 5)) (defBody (inClass (top 12) 5)) (defScope (inClass (top 12) 5)) .none kVAe dcAe pmAe anAe cdAe ctAe, mAs, PySem.W.fnOf "__str__" "Action.__str__" (defArgs (inClass (top 12) 6)) (defBody (inClass (top 12) 6)) (defScope (inClass (top 12) 6)) .none kVAs dcAs pmAs anAs cdAs ctAs, iA, PySem.W.fnOf "__init__" "Action.__init__" (defArgs (inClass (top 12) 0)) (defBody (inClass (top 12) 0)) (defScope (inClass (top 12) 0)) .none kVIA dcIA pmIA anIA cdIA ctIA, CP⟩ :=
  ⟨PySem.W.mg_none_of X G z_abs,
   PySem.W.mg_none_of X G z_bool,
   PySem.W.mg_none_of X G z_dict,
   PySem.W.mg_none_of X G z_int,
   PySem.W.mg_none_of X G z_isinstance,
   PySem.W.mg_none_of X G z_len,
   PySem.W.mg_none_of X G z_list,
   PySem.W.mg_none_of X G z_max,
   PySem.W.mg_none_of X G z_min,
   PySem.W.mg_none_of X G z_range,
   PySem.W.mg_none_of X G z_repr,
   PySem.W.mg_none_of X G z_sorted,
   PySem.W.mg_none_of X G z_str,
   PySem.W.mg_none_of X G z_tuple,
   ⟨_, PySem.W.mg_of X G g_LONGEST, r_LONGEST⟩,
   XC.mk' (PySem.W.mg_of X G mg_N) l_N b_N sa_N ty_N kc_N hg_N hk_N hs_N hd_N ha_N hn_N ht_N hm_N ss_N,
   noN,
   iN,
   tN,
   fun_mk (st := inClass (top 2) 0) lfN cfN kfN,
   Fun.binds (fun_mk (st := inClass (top 2) 0) lfN cfN kfN) (fun _ _ _ _ _ _ us hl => match us, hl with | [_, _], _ => rfl),
   XC.mk' (PySem.W.mg_of X G mg_G) l_G b_G sa_G ty_G kc_G hg_G hk_G hs_G hd_G ha_G hn_G ht_G hm_G ss_G,
   noG,
   iG,
   tG,
   fun_mk (st := inClass (top 3) 0) lfG cfG kfG,
   Fun.binds (fun_mk (st := inClass (top 3) 0) lfG cfG kfG) (fun _ _ _ _ _ _ us hl => match us, hl with | [_, _], _ => rfl),
   XC.mk' (PySem.W.mg_of X G mg_M) l_M b_M sa_M ty_M kc_M hg_M hk_M hs_M hd_M ha_M hn_M ht_M hm_M ss_M,
   noM,
   iM,
   tM,
   fun_mk (st := inClass (top 4) 0) lfM cfM kfM,
   Fun.binds (fun_mk (st := inClass (top 4) 0) lfM cfM kfM) (fun _ _ _ _ _ _ us hl => match us, hl with | [_, _], _ => rfl),
   PySem.W.mg_of X G gCA,
   ⟨pgA, hdA, poA, saA⟩,
   fun e => .base (.ins e ⟨pgA, hdA, poA, saA⟩ haA hnA htA hmA),
   kit_own hdA ttA ssA,
   kit_no hdA ttA snA,
   snA,
   naA__changes,
   fun_mk (st := (inClass (top 12) 1)) lfAc cfAc kfAc,
   Fun.binds (fun_mk (st := (inClass (top 12) 1)) lfAc cfAc kfAc) (fun _ _ _ _ _ _ us hl => match us, hl with | [_], _ => rfl),
   ⟨atAc, isAc, kfAc⟩,
   fun_mk (st := (inClass (top 12) 2)) lfAo cfAo kfAo,
   Fun.binds (fun_mk (st := (inClass (top 12) 2)) lfAo cfAo kfAo) (fun _ _ _ _ _ _ us hl => match us, hl with | [_, _], _ => rfl),
   ⟨atAo, isAo, kfAo⟩,
   fun_mk (st := (inClass (top 12) 3)) lfAd cfAd kfAd,
   Fun.binds (fun_mk (st := (inClass (top 12) 3)) lfAd cfAd kfAd) (fun _ _ _ _ _ _ us hl => match us, hl with | [_, _], _ => rfl),
   ⟨atAd, isAd, kfAd⟩,
   fun_mk (st := (inClass (top 12) 4)) lfAm cfAm kfAm,
   Fun.binds (fun_mk (st := (inClass (top 12) 4)) lfAm cfAm kfAm) (fun _ _ _ _ _ _ us hl => match us, hl with | [_, _], _ => rfl),
   ⟨atAm, isAm, kfAm⟩,
   fun_mk (st := (inClass (top 12) 5)) lfAe cfAe kfAe,
   Fun.binds (fun_mk (st := (inClass (top 12) 5)) lfAe cfAe kfAe) (fun _ _ _ _ _ _ us hl => match us, hl with | [_, _], _ => rfl),
   ⟨atAe, isAe, kfAe⟩,
   fun_mk (st := (inClass (top 12) 6)) lfAs cfAs kfAs,
   Fun.binds (fun_mk (st := (inClass (top 12) 6)) lfAs cfAs kfAs) (fun _ _ _ _ _ _ us hl => match us, hl with | [_], _ => rfl),
   ⟨atAs, isAs, kfAs⟩,
   fun_mk (st := (inClass (top 12) 0)) lfIA cfIA kfIA,
   Fun.binds (fun_mk (st := (inClass (top 12) 0)) lfIA cfIA kfIA) (fun _ _ _ _ _ _ us hl => match us, hl with | [_, _], _ => rfl),
   ⟨msIA, atIA, isIA, kpIA⟩,
   PySem.W.mg_of X G gCP,
   kit_own hd_CP ty_CP s_kGP,
   sfA,
   defAt_mk (x := "is_number") (st := top 6) (ps := ["value"]) X G a_is_number l_is_number c_is_number k_is_number (fun _ _ _ _ _ _ us hl => match us, hl with | [_], _ => rfl),
   defAt_mk (x := "is_natural") (st := top 7) (ps := ["value"]) X G a_is_natural l_is_natural c_is_natural k_is_natural (fun _ _ _ _ _ _ us hl => match us, hl with | [_], _ => rfl),
   defAt_mk (x := "is_name") (st := top 10) (ps := ["text"]) X G a_is_name l_is_name c_is_name k_is_name (fun _ _ _ _ _ _ us hl => match us, hl with | [_], _ => rfl),
   defAt_mk (x := "is_change") (st := top 13) (ps := ["value"]) X G a_is_change l_is_change c_is_change k_is_change (fun _ _ _ _ _ _ us hl => match us, hl with | [_], _ => rfl),
   defAt_mk (x := "changed") (st := top 14) (ps := ["value", "change"]) X G a_changed l_changed c_changed k_changed (fun _ _ _ _ _ _ us hl => match us, hl with | [_, _], _ => rfl),
   defAt_mk (x := "one_and_then") (st := top 15) (ps := ["first", "second"]) X G a_one_and_then l_one_and_then c_one_and_then k_one_and_then (fun _ _ _ _ _ _ us hl => match us, hl with | [_, _], _ => rfl),
   defAt_mk (x := "repeated") (st := top 16) (ps := ["change", "times"]) X G a_repeated l_repeated c_repeated k_repeated (fun _ _ _ _ _ _ us hl => match us, hl with | [_, _], _ => rfl),
   defAt_mk (x := "_law_tape") (st := top 18) (ps := ["_law_script", "_law_k"]) X G a__law_tape l__law_tape c__law_tape k__law_tape (fun _ _ _ _ _ _ us hl => match us, hl with | [_, _], _ => rfl),
   defAt_mk (x := "_law_pick") (st := top 19) (ps := ["_law_tape_here", "_law_many"]) X G a__law_pick l__law_pick c__law_pick k__law_pick (fun _ _ _ _ _ _ us hl => match us, hl with | [_, _], _ => rfl),
   defAt_mk (x := "_law_shuffled") (st := top 20) (ps := ["_law_tape_here", "_law_items"]) X G a__law_shuffled l__law_shuffled c__law_shuffled k__law_shuffled (fun _ _ _ _ _ _ us hl => match us, hl with | [_, _], _ => rfl),
   defAt_mk (x := "_law_changes") (st := top 21) (ps := ["_law_tape_here"]) X G a__law_changes l__law_changes c__law_changes k__law_changes (fun _ _ _ _ _ _ us hl => match us, hl with | [_], _ => rfl),
   defAt_mk (x := "_law_power") (st := top 22) (ps := ["_law_changes_here", "_law_times_here"]) X G a__law_power l__law_power c__law_power k__law_power (fun _ _ _ _ _ _ us hl => match us, hl with | [_, _], _ => rfl),
   defAt_mk (x := "_law_made") (st := top 23) (ps := ["_law_changes_here"]) X G a__law_made l__law_made c__law_made k__law_made (fun _ _ _ _ _ _ us hl => match us, hl with | [_], _ => rfl),
   defAt_mk (x := "_law_times") (st := top 24) (ps := ["_law_made_here", "_law_times_here"]) X G a__law_times l__law_times c__law_times k__law_times (fun _ _ _ _ _ _ us hl => match us, hl with | [_, _], _ => rfl),
   defAt_mk (x := "_law_of") (st := top 25) (ps := ["_law_made_here", "_law_numbers"]) X G a__law_of l__law_of c__law_of k__law_of (fun _ _ _ _ _ _ us hl => match us, hl with | [_, _], _ => rfl),
   defAt_mk (x := "_law_refused") (st := top 26) (ps := ["_law_tape_here", "_law_changes_here", "_law_made_here"]) X G a__law_refused l__law_refused c__law_refused k__law_refused (fun _ _ _ _ _ _ us hl => match us, hl with | [_, _, _], _ => rfl),
   muA⟩
theorem ok_law {P : Program} {w : World} {K : PySem.W.Frag} {mg : Str → Option Value} {base : Heap} {c : Cs} (T : Txt w K mg c) {f : Addr} {fd : FuncData} (F : Fun K "law" "law" slaw f fd) : FnOkG P w K mg base CX0 9 f fd ["_law_script"] (spLaw K) := by
  have GN : FnOk P w K mg base CX0 1 c.fN c.fdN ["self", "number"] (spXI c.CN "number") := ok_Ninit T
  have GG : FnOk P w K mg base CX0 1 c.fG c.fdG ["self", "counter"] (spXI c.CG "counter") := ok_Ginit T
  have GM : FnOk P w K mg base CX0 1 c.fM c.fdM ["self", "times"] (spXI c.CM "times") := ok_Minit T
  have cTp : Cal P w K mg base CX0 1 "_law_tape" (spTapeF K) := cal_of T.d__law_tape fun f fd F => ok_tapeF T F
  have cis_number : Cal P w K mg base CX0 1 "is_number" (spD0 K (cdF c) f_is_number) := cal_of T.d_is_number fun f fd F => ok_is_number T  F
  have cis_natural : Cal P w K mg base CX0 2 "is_natural" (spD0 K (cdF c) f_is_natural) := cal_of T.d_is_natural fun f fd F => ok_is_natural T cis_number F
  have cis_name : Cal P w K mg base CX0 1 "is_name" (spD0 K (cdF c) f_is_name) := cal_of T.d_is_name fun f fd F => ok_is_name T  F
  have cis_change : Cal P w K mg base CX0 3 "is_change" (spD0 K (cdF c) f_is_change) := cal_of T.d_is_change fun f fd F => ok_is_change T cis_natural F
  have cchanged : Cal P w K mg base CX0 1 "changed" (spD0 K (cdF c) f_changed) := cal_of T.d_changed fun f fd F => ok_changed T  F
  have hIA : FnOk P w K mg base (L2.CX P w) 4 c.iA c.fdIA ["self", "changes"] (spD K (cdF c) f_Action_init) := ok_Action_init T cis_name cis_change GG
  have hAc : FnOk P w K mg base CX0 1 c.mAc c.fdAc ["self"] (spD0 K (cdF c) f_Action_changes) := ok_Action_changes T 
  have hAo : FnOk P w K mg base (L2.CX P w) 3 c.mAo c.fdAo ["self", "values"] (spD K (cdF c) f_Action_of) := ok_Action_of T cis_natural GN cchanged
  have cone_and_then : Cal P w K mg base CX0 1 "one_and_then" (spD0 K (cdF c) f_one_and_then) := cal_of T.d_one_and_then fun f fd F => ok_one_and_then T  F
  have hAd : FnOk P w K mg base CX0 6 c.mAd c.fdAd ["self", "other"] (spD0 K (cdF c) f_Action_add) := ok_Action_add T hIA cone_and_then
  have crepeated : Cal P w K mg base CX0 1 "repeated" (spD0 K (cdF c) f_repeated) := cal_of T.d_repeated fun f fd F => ok_repeated T  F
  have hAm : FnOk P w K mg base (L2.CX P w) 6 c.mAm c.fdAm ["self", "other"] (spD K (cdF c) f_Action_mul) := ok_Action_mul T cis_natural GM hIA crepeated
  have hAe : FnOk P w K mg base CX0 1 c.mAe c.fdAe ["self", "other"] (spD0 K (cdF c) f_Action_eq) := ok_Action_eq T 
  have hAs : FnOk P w K mg base CX0 1 c.mAs c.fdAs ["self"] (spD0 K (cdF c) f_Action_str) := ok_Action_str T 
  have cLpick : Cal P w K mg base CX0 1 "_law_pick" (spD0 K (cdF c) f_Lpick) := cal_of T.d__law_pick fun f fd F => ok_Lpick T  F
  have cLshuffled : Cal P w K mg base CX0 2 "_law_shuffled" (spD0 K (cdF c) f_Lshuffled) := cal_of T.d__law_shuffled fun f fd F => ok_Lshuffled T cLpick F
  have cLchanges : Cal P w K mg base CX0 3 "_law_changes" (spD0 K (cdF c) f_Lchanges) := cal_of T.d__law_changes fun f fd F => ok_Lchanges T cLpick cLshuffled F
  have cLpower : Cal P w K mg base CX0 1 "_law_power" (spD0 K (cdF c) f_Lpower) := cal_of T.d__law_power fun f fd F => ok_Lpower T  F
  have cLmade : Cal P w K mg base CX0 6 "_law_made" (spD0 K (cdF c) f_Lmade) := cal_of T.d__law_made fun f fd F => ok_Lmade T hIA F
  have cLtimes : Cal P w K mg base CX0 7 "_law_times" (spD0 K (cdF c) f_Ltimes) := cal_of T.d__law_times fun f fd F => ok_Ltimes T hAm F
  have cLof : Cal P w K mg base CX0 4 "_law_of" (spD0 K (cdF c) f_Lof) := cal_of T.d__law_of fun f fd F => ok_Lof T hAo F
  have cLrefused : CalG P w K mg base CX0 8 "_law_refused" (spD0 K (cdF c) f_Lrefused) := calG_of T.d__law_refused fun f fd F => ok_Lrefused T cLpick cLmade cLtimes cLof F
  exact ok_law0 T cTp cLchanges hIA cLpick hAd hAe hAm hAc cLpower hAs cLrefused F (fun ns _ => r_law ns)
theorem all_mk {l : PySem.W.OpenLaw} {w : World} {K : PySem.W.Frag} {h : Heap} {mg : Str → Option Value} {fa f1 : Addr} (X : K.In h) (G : h.Ns mainGlobals mg) (hfa : mg "law" = some (.ref fa))
    {od an : Option Addr} {sl : Array (Option Value)} {oc kV dc pm cd ct : Value} {c : Cs}
    (T : Txt w K mg c)
    (a4 : PySem.W.nsIn K mainGlobals "law" = some (some (.ref f1))) (l4 : K.lookup f1 = some ⟨oc, od, .func (PySem.W.fnOf "law" "law" (defArgs slaw) (defBody slaw) (defScope slaw) .none kV dc pm an cd ct), sl⟩) (c4 : PySem.W.codeIn K cd "law" = true) (k4 : PySem.W.keepIn K (.ref f1) = true) :
    ∃ fd : FuncData, (∀ (s : Shared) (v : Value), BindsTo s fd ⟨[v], []⟩ [("_law_script", v)]) ∧ ∀ base : Heap, K.In base → base.Ns mainGlobals mg → FnOkG l.prog w K mg base CX0 9 fa fd ["_law_script"] (spLaw K) := by
  have e := hfa.symm.trans (PySem.W.mg_of X G a4)
  cases e
  exact ⟨PySem.W.fnOf "law" "law" (defArgs slaw) (defBody slaw) (defScope slaw) .none kV dc pm an cd ct, fun s v => .of_eq rfl, fun base _ _ => ok_law T  (fun_mk (st := slaw) l4 c4 k4)⟩
theorem walk_law {l : PySem.W.OpenLaw} {q : Program} {loose : List Str} {XP : (Str → Option Value) → Heap → Prop} {YP : World → Heap → Prop} {d : DefRec} {K : Params → PySem.W.Frag} (hn : l.most = some 63) (hdf : d.params.defaults = [])
    (hY : ∀ (w : World) (h : Heap), YP w h → (K w.params).In h)
    (F : ∀ (w : World) (mg : Str → Option Value) (fa : Addr) (h : Heap), (K w.params).In h → h.Ns mainGlobals mg → mg d.name = some (.ref fa) →
      ∃ fd : FuncData, (∀ (s : Shared) (u : Value), BindsTo s fd ⟨[u], []⟩ [("_law_script", u)]) ∧ ∀ base : Heap, (K w.params).In base → base.Ns mainGlobals mg → FnOkG l.prog w (K w.params) mg base CX0 9 fa fd ["_law_script"] (spLaw (K w.params))) :
    PySem.W.WalkO q loose XP YP l.row.toRowW d [] (fun f vs => PySem.call f vs) :=
  Dv.walk_ofG (n := 63) (k := 9) (x := "_law_script") (sp := fun w => spLaw (K w.params)) hn (by decide) hdf ⟨rfl, by decide, by decide⟩ hY F (fun _ _ a ns hl hS => ⟨a, ns, rfl, hS, hl, fun _ => rfl⟩)
end Pt

open PySem PySem.W PyProof.Rows in
set_option maxRecDepth 100000 in
set_option maxHeartbeats 0 in
theorem PySem.Challenge.cw_partlabels_k62_powers_of_actions_holds : PySem.Challenge.rw_partlabels_k62_powers_of_actions.Holds := by
  w_on; o_law; k_head; (case hw => w_witness2)
  k_fill
  refine Pt.walk_law (l := PySem.Challenge.rw_partlabels_k62_powers_of_actions) rfl rfl (fun w h Y => PySem.W.kIn_of Y) ?F
  case F =>
    intro w mg fa h KX G hmg
    refine' Pt.all_mk KX G hmg (Pt.txt_of KX G ?z_abs ?z_bool ?z_dict ?z_int ?z_isinstance ?z_len ?z_list ?z_max ?z_min ?z_range ?z_repr ?z_sorted ?z_str ?z_tuple ?g_LONGEST ?r_LONGEST ?mg_N ?l_N ?b_N ?sa_N ?ty_N ?kc_N ?hg_N ?hk_N ?hs_N ?hd_N ?ha_N ?hn_N ?ht_N ?hm_N ?ss_N ?noN ?iN ?tN ?lfN ?cfN ?kfN ?mg_G ?l_G ?b_G ?sa_G ?ty_G ?kc_G ?hg_G ?hk_G ?hs_G ?hd_G ?ha_G ?hn_G ?ht_G ?hm_G ?ss_G ?noG ?iG ?tG ?lfG ?cfG ?kfG ?mg_M ?l_M ?b_M ?sa_M ?ty_M ?kc_M ?hg_M ?hk_M ?hs_M ?hd_M ?ha_M ?hn_M ?ht_M ?hm_M ?ss_M ?noM ?iM ?tM ?lfM ?cfM ?kfM ?gCA ?pgA ?hdA ?poA ?saA ?haA ?hnA ?htA ?hmA ?ttA ?ssA ?snA ?naA__changes ?atAc ?isAc ?lfAc ?cfAc ?kfAc ?atAo ?isAo ?lfAo ?cfAo ?kfAo ?atAd ?isAd ?lfAd ?cfAd ?kfAd ?atAm ?isAm ?lfAm ?cfAm ?kfAm ?atAe ?isAe ?lfAe ?cfAe ?kfAe ?atAs ?isAs ?lfAs ?cfAs ?kfAs ?atIA ?isIA ?msIA ?kpIA ?lfIA ?cfIA ?kfIA ?gCP ?hd_CP ?ty_CP ?s_kGP ?sfA ?a_is_number ?l_is_number ?c_is_number ?k_is_number ?a_is_natural ?l_is_natural ?c_is_natural ?k_is_natural ?a_is_name ?l_is_name ?c_is_name ?k_is_name ?a_is_change ?l_is_change ?c_is_change ?k_is_change ?a_changed ?l_changed ?c_changed ?k_changed ?a_one_and_then ?l_one_and_then ?c_one_and_then ?k_one_and_then ?a_repeated ?l_repeated ?c_repeated ?k_repeated ?a__law_tape ?l__law_tape ?c__law_tape ?k__law_tape ?a__law_pick ?l__law_pick ?c__law_pick ?k__law_pick ?a__law_shuffled ?l__law_shuffled ?c__law_shuffled ?k__law_shuffled ?a__law_changes ?l__law_changes ?c__law_changes ?k__law_changes ?a__law_power ?l__law_power ?c__law_power ?k__law_power ?a__law_made ?l__law_made ?c__law_made ?k__law_made ?a__law_times ?l__law_times ?c__law_times ?k__law_times ?a__law_of ?l__law_of ?c__law_of ?k__law_of ?a__law_refused ?l__law_refused ?c__law_refused ?k__law_refused ?muA)
       ?a4 ?l4 ?c4 ?k4
    (case z_abs => k_is)
    (case z_bool => k_is)
    (case z_dict => k_is)
    (case z_int => k_is)
    (case z_isinstance => k_is)
    (case z_len => k_is)
    (case z_list => k_is)
    (case z_max => k_is)
    (case z_min => k_is)
    (case z_range => k_is)
    (case z_repr => k_is)
    (case z_sorted => k_is)
    (case z_str => k_is)
    (case z_tuple => k_is)
    (case g_LONGEST => k_is)
    (case r_LONGEST => exact ⟨_, rfl⟩)
    (case mg_N => k_is)
    (case l_N => k_is)
    (case b_N => decide +kernel)
    (case sa_N => k_is)
    (case ty_N => k_is)
    (case kc_N => k_is)
    (case hg_N => k_is)
    (case hk_N => k_is)
    (case hs_N => k_is)
    (case hd_N => k_is)
    (case ha_N => k_is)
    (case hn_N => k_is)
    (case ht_N => k_is)
    (case hm_N => k_is)
    (case ss_N => first | rfl | k_is)
    (case noN => k_is)
    (case iN => k_is)
    (case tN => k_is)
    (case lfN => k_is)
    (case cfN => k_is)
    (case kfN => k_is)
    (case mg_G => k_is)
    (case l_G => k_is)
    (case b_G => decide +kernel)
    (case sa_G => k_is)
    (case ty_G => k_is)
    (case kc_G => k_is)
    (case hg_G => k_is)
    (case hk_G => k_is)
    (case hs_G => k_is)
    (case hd_G => k_is)
    (case ha_G => k_is)
    (case hn_G => k_is)
    (case ht_G => k_is)
    (case hm_G => k_is)
    (case ss_G => first | rfl | k_is)
    (case noG => k_is)
    (case iG => k_is)
    (case tG => k_is)
    (case lfG => k_is)
    (case cfG => k_is)
    (case kfG => k_is)
    (case mg_M => k_is)
    (case l_M => k_is)
    (case b_M => decide +kernel)
    (case sa_M => k_is)
    (case ty_M => k_is)
    (case kc_M => k_is)
    (case hg_M => k_is)
    (case hk_M => k_is)
    (case hs_M => k_is)
    (case hd_M => k_is)
    (case ha_M => k_is)
    (case hn_M => k_is)
    (case ht_M => k_is)
    (case hm_M => k_is)
    (case ss_M => first | rfl | k_is)
    (case noM => k_is)
    (case iM => k_is)
    (case tM => k_is)
    (case lfM => k_is)
    (case cfM => k_is)
    (case kfM => k_is)
    (case gCA => k_is)
    (case pgA => k_is)
    (case hdA => k_is)
    (case poA => k_is)
    (case saA => k_is)
    (case haA => k_is)
    (case hnA => k_is)
    (case htA => k_is)
    (case hmA => k_is)
    (case ttA => k_is)
    (case ssA => first | rfl | k_is)
    (case snA => k_is)
    (case naA__changes => k_is)
    (case atAc => k_is)
    (case isAc => k_is)
    (case lfAc => k_is)
    (case cfAc => k_is)
    (case kfAc => k_is)
    (case atAo => k_is)
    (case isAo => k_is)
    (case lfAo => k_is)
    (case cfAo => k_is)
    (case kfAo => k_is)
    (case atAd => k_is)
    (case isAd => k_is)
    (case lfAd => k_is)
    (case cfAd => k_is)
    (case kfAd => k_is)
    (case atAm => k_is)
    (case isAm => k_is)
    (case lfAm => k_is)
    (case cfAm => k_is)
    (case kfAm => k_is)
    (case atAe => k_is)
    (case isAe => k_is)
    (case lfAe => k_is)
    (case cfAe => k_is)
    (case kfAe => k_is)
    (case atAs => k_is)
    (case isAs => k_is)
    (case lfAs => k_is)
    (case cfAs => k_is)
    (case kfAs => k_is)
    (case atIA => k_is)
    (case isIA => k_is)
    (case msIA => k_is)
    (case kpIA => k_is)
    (case lfIA => k_is)
    (case cfIA => k_is)
    (case kfIA => k_is)
    (case gCP => k_is)
    (case hd_CP => k_is)
    (case ty_CP => k_is)
    (case s_kGP => k_is)
    (case sfA => k_is)
    (case a_is_number => k_is)
    (case l_is_number => k_is)
    (case c_is_number => k_is)
    (case k_is_number => k_is)
    (case a_is_natural => k_is)
    (case l_is_natural => k_is)
    (case c_is_natural => k_is)
    (case k_is_natural => k_is)
    (case a_is_name => k_is)
    (case l_is_name => k_is)
    (case c_is_name => k_is)
    (case k_is_name => k_is)
    (case a_is_change => k_is)
    (case l_is_change => k_is)
    (case c_is_change => k_is)
    (case k_is_change => k_is)
    (case a_changed => k_is)
    (case l_changed => k_is)
    (case c_changed => k_is)
    (case k_changed => k_is)
    (case a_one_and_then => k_is)
    (case l_one_and_then => k_is)
    (case c_one_and_then => k_is)
    (case k_one_and_then => k_is)
    (case a_repeated => k_is)
    (case l_repeated => k_is)
    (case c_repeated => k_is)
    (case k_repeated => k_is)
    (case a__law_tape => k_is)
    (case l__law_tape => k_is)
    (case c__law_tape => k_is)
    (case k__law_tape => k_is)
    (case a__law_pick => k_is)
    (case l__law_pick => k_is)
    (case c__law_pick => k_is)
    (case k__law_pick => k_is)
    (case a__law_shuffled => k_is)
    (case l__law_shuffled => k_is)
    (case c__law_shuffled => k_is)
    (case k__law_shuffled => k_is)
    (case a__law_changes => k_is)
    (case l__law_changes => k_is)
    (case c__law_changes => k_is)
    (case k__law_changes => k_is)
    (case a__law_power => k_is)
    (case l__law_power => k_is)
    (case c__law_power => k_is)
    (case k__law_power => k_is)
    (case a__law_made => k_is)
    (case l__law_made => k_is)
    (case c__law_made => k_is)
    (case k__law_made => k_is)
    (case a__law_times => k_is)
    (case l__law_times => k_is)
    (case c__law_times => k_is)
    (case k__law_times => k_is)
    (case a__law_of => k_is)
    (case l__law_of => k_is)
    (case c__law_of => k_is)
    (case k__law_of => k_is)
    (case a__law_refused => k_is)
    (case l__law_refused => k_is)
    (case c__law_refused => k_is)
    (case k__law_refused => k_is)
    (case muA => kernel_rfl)
    (case a4 => k_is)
    (case l4 => k_is)
    (case c4 => k_is)
    (case k4 => k_is)
