import PyProof.Rows.All
import Wide.All
import OpenK.AllK
import Wide.FinOn
import PyProof.Draws
import PyProof.EnumMake
import HandS.Base
import HandS.Call
import HandS.List
import HandS.Dict
import HandS.Iter
import HandS.Walk
import KE.KExcSuper
import PyProof.FString
import HandS.Exc
import HandS.TryOnly
import HandS.ExcOwn
import KE.KExcIs
import HandS.ExcIs
import HandS.Text
import PyProof.StrBlock2
import KE.KDictItemsList
import HandS.ExcValue
import HandS.ForMost
import HandS.ForExc
import HandS.Wide
import HandS.StrMore
import HandS.Steps
import HandS.Evl
import HandS.Codes
import HandS.Ends
import PyProof.ReprRoads
import PyProof.ReprLen
import PyProof.P3Eq
import PyProof.EqLayable
import HandS.TupLe
import HandS.IsInst
import KE.DataCmp
import HandS.Star
import HandS.More
import PySem.Challenge.RW_sugartrue_k03_terms_that_are_alike
set_option Elab.async false
set_option linter.all false
set_option maxRecDepth 100000
set_option maxHeartbeats 4000000
namespace L2
open PySem PySem.Spec PyProof.Rows
/-! ### enumerate(text) -/
/-- the signs of a text, each with its place in a new pair -/
def ItE (x : Str) : It :=
  ⟨fun i _ => i < x.cps.size, fun i H v H' => ∃ T c, v = .ref T ∧ H T = none ∧ H' = upd H T (.tup [.int (i : Nat), .str ⟨#[c]⟩]) ∧ x.cps[i]? = some c, fun i _ => i = x.cps.size⟩
theorem str_iter_draws {P : Program} {w : World} {A : Around} (hh : A.handled = none) (it : Addr) (x : Str) (t : Tok) :
    Draws P w A it [it] x.cps.size (SignAt x) (fun i h => h.IsStrIter it (strIterType x) x t i) := by
  cases ha : x.cps.all (fun c => decide (c < 128))
  · have e : strIterType x = "str_iterator" := by simp [strIterType, ha]
    rw [e]
    exact Draws.strWide hh it x t
  · have e : strIterType x = "str_ascii_iterator" := by simp [strIterType, ha]
    rw [e]
    exact Draws.strAscii hh it x t
theorem turn_enumS {P : Program} {w : World} {K : PySem.W.Frag} {elts : List Expr} {kk : Nat} {tpos : Pos} (x : Str) (t : Tok) (e it : Addr) :
    Turn P w K (.Tuple elts kk tpos) (ItE x) [e, it] e (fun i h => (∃ old, IsEnum h e it ((i : Nat) : Int) old) ∧ h.IsStrIter it (strIterType x) x t i ∧ e ≠ it) where
  mem := by simp
  obj := fun i h stt b hb => by
    obtain ⟨⟨old, kE⟩, ⟨o, kO, eqC, kD⟩, _⟩ := stt
    have eb : b = e ∨ b = it := by simpa using hb
    rcases eb with z | z
    · rw [z]; exact ⟨_, kE, fun v q => nomatch q⟩
    · rw [z]; exact ⟨o, kO, fun v q => by rw [kD] at q; cases q⟩
  keep := fun i h h' stt k => let ⟨⟨old, kE⟩, ⟨o, kO, r⟩, kN⟩ := stt; ⟨⟨old, k e (by simp) _ kE⟩, ⟨o, k it (by simp) o kO, r⟩, kN⟩
  item := by
    intro X eqP eqW eqK eqC i pns s σ H E I kF stt kG
    subst eqP eqW eqK
    obtain ⟨⟨old, kE⟩, kT, kN⟩ := stt
    have ltE : e < s.heap.objs.size := Heap.lt_size kE
    have ltT : it < s.heap.objs.size := by obtain ⟨_, q, _⟩ := kT; exact Heap.lt_size q
    refine wpAny_pyNext_enum_itemD (str_iter_draws (A := X.A.in1) (I.ok.hd eqC) it x t) kE kT kG kN (by simpa using kN) fun u h' tk eqP kO kT2 kU kZ kK => ?_
    obtain ⟨c, tk2, hcx, rfl⟩ := eqP
    refine ⟨_, rfl, wpAny_letOwnedTupleGo_enum (s := { s with heap := h', toks := tk + 1 }) kO fun h'' kE2 kB => ?_⟩
    have hT2 : h''.get? s.heap.objs.size = some { cls := .type "tuple", data := .seq #[.int i tk, .str ⟨#[c]⟩ tk2] } := (kB.2 _ (Nat.ne_of_gt ltE)).trans kU
    have nob : ObjOk X.prog X.w (upd H s.heap.objs.size (.tup [.int (i : Nat), .str ⟨#[c]⟩])) h'' s.heap.objs.size (.tup [.int (i : Nat), .str ⟨#[c]⟩]) :=
      ⟨by show 2 ≤ sizeLine; decide, [.int i tk, .str ⟨#[c]⟩ tk2], .cons ⟨_, rfl⟩ (.cons ⟨_, rfl⟩ .nil), ⟨_, hT2, rfl, _, rfl⟩⟩
    have J1 : Inv X pns σ (upd H s.heap.objs.size (.tup [.int (i : Nat), .str ⟨#[c]⟩])) { s with heap := h'', toks := tk + 1 } :=
      I.turnedNew (ch := [e, it]) (fun b ob hb q => (kB.2 b (fun z => hb (by simp [z]))).trans (kK b ob (fun z => hb (by simp [z])) (fun z => hb (by simp [z])) q)) kF (Nat.le_refl _) nob
    refine ⟨.ref s.heap.objs.size, _, J1, rfl, ⟨_, c, rfl, I.hok.fresh (Nat.le_refl _), rfl, hcx⟩, ⟨⟨.str ⟨#[c]⟩ tk2, ?_⟩, ?_, kN⟩, fun b hb => ?_⟩
    · have e1 : ((i + 1 : Nat) : Int) = (i : Int) + 1 := by omega
      rw [e1]; exact kE2
    · obtain ⟨o, q, r⟩ := kT2
      exact ⟨o, (kB.2 it (Ne.symm kN)).trans q, r⟩
    · have lb : b < s.heap.objs.size := by
        have eb : b = e ∨ b = it := by simpa using hb
        rcases eb with z | z
        · rw [z]; exact ltE
        · rw [z]; exact ltT
      rw [upd_ne (Nat.ne_of_lt lb)]
      exact (kF b hb).1
  done := by
    intro X eqP eqW eqK eqC i pns s σ H E I kF stt kG
    subst eqP eqW eqK
    obtain ⟨⟨old, kE⟩, kT, kN⟩ := stt
    have hg' : i = x.cps.size := kG
    subst hg'
    obtain ⟨w0, w1, w2, w3, w4, w5⟩ := kF it (by simp)
    exact wpAny_pyNext_enum_endD (str_iter_draws (A := X.A.in1) (I.ok.hd eqC) it x t) kE kT fun h' eb => ⟨rfl, I.turned (t' := s.toks) (fun b o hb q => eb b o hb q) w0 w1 w3 w4 w5⟩
  self := fun A i s Q E stt h => let ⟨⟨_, kE⟩, _⟩ := stt; wpAny_pyIter_enum kE h
def iEnumS (ta : TA) : TI := fun σ H R => ta σ H fun vs H1 => ∃ x, vs = [.str x] ∧ R (ItE x) H1
theorem pi_enumS {X : Cx} {e : Expr} {ta : TA} {p pos tpos : Pos} {elts : List Expr} {kk : Nat} (kG : Gl X "enumerate") (hm : X.mg "enumerate" = none) (ha : PA X [e] ta) (hs : starEach [e] X.env = [(false, eval e X.env)] := by rfl) :
    PI X (.Tuple elts kk tpos) (.Call (.Name "enumerate" p) [e] [] pos) (iEnumS ta) := by
  refine ⟨fun pns s σ H R I h => ?_⟩
  refine Call_ (ld_blt I kG hm boot_enumerate (PyProof.Rows.callWith_type1 (thn (ha.run pos pns s σ H _ I h) fun uss sA ⟨vs, H1, J1, r1, w1q⟩ => ?_) hs rfl))
  obtain ⟨x, ex, q⟩ := w1q
  subst ex
  cases r1 with
  | cons r rr =>
    cases rr
    obtain ⟨t, rfl⟩ := r
    refine call_enumerate_str fun h' kE kT kZ kK => wpAny_pyIter_enum kE ?_
    have J2 : Inv X pns σ H1 { sA with heap := h' } := J1.kept (t' := sA.toks) kK
    refine ⟨sA.heap.objs.size + 1, [sA.heap.objs.size + 1, sA.heap.objs.size], _, _, H1, rfl, J2, turn_enumS x t (sA.heap.objs.size + 1) sA.heap.objs.size, ⟨⟨.none, kE⟩, kT, Nat.succ_ne_self _⟩, fun b hb => ?_, q⟩
    have eb : b = sA.heap.objs.size + 1 ∨ b = sA.heap.objs.size := by simpa using hb
    have leb : sA.heap.objs.size ≤ b := by
      rcases eb with z | z
      · rw [z]; exact Nat.le_add_right _ _
      · rw [z]; exact Nat.le_refl _
    exact J1.fpOk leb (J1.hok.fresh leb)
theorem walk_enumS {x : Str} : Walk (ItE x) x.cps.size (fun _ => True) (fun i H v H' => ∃ T c, v = .ref T ∧ H T = none ∧ H' = upd H T (.tup [.int (i : Nat), .str ⟨#[c]⟩]) ∧ x.cps[i]? = some c) :=
  ⟨fun _ _ hi _ => hi, fun _ _ => rfl, fun _ _ _ _ _ _ y => y⟩
end L2

/-! TextError: an own error over an own error over ValueError, whose __init__ says super().__init__(f'..{at}') and keeps at -/
namespace PySem
namespace TeX
open PySem.W PySem.Calls PyProof.Rows PySem.HandSPX
def iA (p1 p2 : Pos) : Arguments := { posonlyargs := [], args := [{ arg := "self", annotation := none, pos := p1 }, { arg := "at", annotation := none, pos := p2 }], vararg := none, kwonlyargs := [], kw_defaults := [], kwarg := none, defaults := [] }
def iB (q1 q2 q3 q4 q5 q6 q7 q8 q9 r1 r2 r3 r4 : Pos) : List Stmt :=
  [.Expr (.Call (.Attribute (.Call (.Name "super" q1) [] [] q2) "__init__" q3) [.JoinedStr [.Constant (.str "the text is wrong at position ") 0 q4, .FormattedValue (.Name "at" q5) (-1) none q6] q7] [] q8) q9,
   .Assign [.Attribute (.Name "self" r1) "at" r2] (.Name "at" r3) r4]
def iS : Scope := { kind := .function, names := [(PySem.Str.ofString "self", .local), (PySem.Str.ofString "at", .local), (PySem.Str.ofString "__class__", .free), (PySem.Str.ofString "super", .globalImplicit)], isGenerator := false, isCoroutine := false, more := [] }
/-- the call's arm as it stands at these places -/
def CallForm (q1 q2 q3 q4 q5 q6 q7 q8 : Pos) (fI cc cda : Addr) : Prop := ∀ L : Addr, ∃ pl : Sem Bool,
  eval (.Call (.Attribute (.Call (.Name "super" q1) [] [] q2) "__init__" q3) [.JoinedStr [.Constant (.str "the text is wrong at position ") 0 q4, .FormattedValue (.Name "at" q5) (-1) none q6] q7] [] q8) (ksEnv "TextError.__init__" iS L fI (.ref cda) cc) = (do
      let ov ← attributeBase (.Call (.Name "super" q1) [] [] q2) "__init__" (ksEnv "TextError.__init__" iS L fI (.ref cda) cc) (eval (.Call (.Name "super" q1) [] [] q2) (ksEnv "TextError.__init__" iS L fI (.ref cda) cc))
      standAt q3.atName
      let (f, first) ← holding [ov] (getMethod ov "__init__" pl)
      callWith q8 f first (backTo q8 (starEach [.JoinedStr [.Constant (.str "the text is wrong at position ") 0 q4, .FormattedValue (.Name "at" q5) (-1) none q6] q7] (ksEnv "TextError.__init__" iS L fI (.ref cda) cc))) [])
structure TeTxt (prog : Program) (K : Frag) (mg : Str → Option Value) (C fI cc cda : Addr) : Prop where
  gC : mg "TextError" = some (.ref C)
  cls : ∃ nm q N bs bm sn sub ab col dd k0 k1 k2 k3 k5, K.lookup C = some (excClassObj nm q C N bs bm true sn sub ab col dd k0 k1 k2 k3 k5 "ValueError.__new__") ∧ refsVE bm = true
  sa : findIn K (.ref C) "__setattr__" = some (some (.builtin "object.__setattr__"))
  ga : findIn K (.ref C) "__getattribute__" = some (some (.builtin "BaseException.__getattribute__"))
  gg : findIn K (.ref C) "__getattr__" = some none
  noN : findIn K (.ref C) "at" = some none
  iC : findIn K (.ref C) "__init__" = some (some (.ref fI))
  tC : typeIn K (.ref fI) = some (.type "function")
  kC : keepIn K (.ref C) = true
  exC : subIn K (.ref C) (.type "BaseException") = some true
  tyC : typeIn K (.ref C) = some (.type "type")
  hdC : hasDictIn K C = true
  te : exmOne K (.ref C) (.ref C) = some true
  op : nsIn K cStatics "thirdparty.any" = some none
  vE : subIn K (.ref C) (.type "ValueError") = some true
  su : ks_superIn K C C "__init__" = some (some (.builtin "ValueError.__init__"))
  mr : mroIn K C (.ref C) = some true
  ms : mg "super" = none
  cell : ∃ cl cld csl, K.lookup cc = some ⟨cl, cld, .cell (some (.ref C)), csl⟩
  code : ∃ ccl cdd vs ccs file tf, K.lookup cda = some ⟨ccl, cdd, .fields vs, ccs⟩ ∧ vs[2]? = some (.str file tf) ∧ ((prog.main.file : Str) == file) = true
  top : (prog.main.scope.names.lookup ("super" : Str)).isSome = false
  fn : ∃ (oc : Value) (od : Option Addr) (doc pm : Value) (an : Option Addr) (ct : Value) (osl : Array (Option Value)) (p1 p2 q1 q2 q3 q4 q5 q6 q7 q8 q9 r1 r2 r3 r4 : Pos),
    K.lookup fI = some ⟨oc, od, .func (ksFn "__init__" "TextError.__init__" (iA p1 p2) (iB q1 q2 q3 q4 q5 q6 q7 q8 q9 r1 r2 r3 r4) iS .none .none doc pm an (.ref cda) ct cc), osl⟩ ∧ codeIn K (.ref cda) "TextError.__init__" = true ∧ CallForm q1 q2 q3 q4 q5 q6 q7 q8 fI cc cda
theorem one_size (v : Value) : [v].length ≤ sizeLine := by
  rw [sizeLine_eq]
  exact (by decide : 1 ≤ 16777216)
section
variable {prog : Program} {w : World} {A : Around} {E : Value → Shared → Prop} {hh : Heap} {gg : Array GenState} {dd0 : Drawn} {tt : Nat} {oo : OsState}
variable {nmC qnC : Str} {C nsC : Addr} {bsC bmC : List Value} {hdC : Bool} {snC : List Str} {subC : List Value} {abC : Bool} {colC : Option Bool} {ddC : Option Addr} {kA kB kD kE kF : Option Value}
/-- the wrapper of ValueError.__init__ is called -/
theorem call_bw {wr x t0 : Addr} {vs : List Value} {Q : Value → Shared → Prop}
    (hC : hh.get? C = some (excClassObj nmC qnC C nsC bsC bmC hdC snC subC abC colC ddC kA kB kD kE kF "ValueError.__new__")) (hx : hh.get? x = some (excO C t0)) (hw : hh.get? wr = some (kxs_mw "ValueError.__init__" x)) (hl : vs.length ≤ sizeLine)
    (hq : ∀ h2 t2, (∀ b o, b ≠ x → hh.get? b = some o → h2.get? b = some o) → h2.get? x = some (excO C t2) → Q .none ⟨h2, gg, dd0, tt, oo⟩) :
    wpAny (model prog w) A (call (.ref wr) vs) Q E ⟨hh, gg, dd0, tt, oo⟩ := by
  have isW : (Value.type "method-wrapper" == Value.type "method" || Value.type "method-wrapper" == Value.type "builtin_function_or_method" || Value.type "method-wrapper" == Value.type "method-wrapper") = true := by decide
  apply wpAny_call
  apply codeAny_of_tree
  show wpAny (model prog w) A.in1 (callAny (.ref wr) ⟨vs, []⟩) _ _ _
  unfold callAny
  refine wpAny_bind (wpAny_load hw ?_)
  simp only [kxs_mw, isW, if_true]
  apply KFB.if_so (by decide)
  refine wpAny_bind (check_bound_init PySem.F.excBase_ValueError.toExcCallFacts hC hx rfl (wpAny_bind (wpAny_pure (wpAny_pure ?_))))
  exact ⟨plainId_quiet PySem.F.excBase_ValueError.init.plain _, codeAny_builtin PySem.F.excBase_ValueError.initEntry
    (exc_init_tree (cls := .ref C) (t0 := t0) (dv := none) (c2 := .none) (c3 := .none) (b4 := .bool false) hx hl fun h2 k e2 _ => hq h2 _ k e2)⟩
end
/-- what __init__ leaves of a fresh exception at x -/
structure InitEnd (h h' : Heap) (x C dx t1 : Addr) (v : Value) : Prop where
  keep : ∀ b o, b ≠ x → h.get? b = some o → h'.get? b = some o
  obj : h'.get? x = some { cls := .ref C, dict := some dx, data := .fields #[.ref t1, .none, .none, .none, .bool false, .none] }
  dbig : h.objs.size ≤ dx
  dne : dx ≠ x
  ns : h'.Ns1 dx (fun y => if y = "at" then some v else none)
theorem callWith_mw {M : Model} {A : Around} {E : Value → Shared → Prop} {s : Shared} {wr x : Addr} {nm : String} {pos : Pos} {pre : List Value} {env : Env} {e1 : Expr} {es : List Expr} {Q : Value → Shared → Prop}
    (hq : wpAny M A (spliced (backTo pos (starEach (e1 :: es) env))) (fun vs s1 => KxsAt nm wr x s1.heap ∧ wpAny M A (call (.ref wr) (pre ++ vs)) Q E s1) E s)
    (hs : starEach (e1 :: es) env = (false, eval e1 env) :: starEach es env := by rfl) (hp : (backTo pos (starEach es env)).any (·.1) = false := by rfl) :
    wpAny M A (callWith pos (.ref wr) pre (backTo pos (starEach (e1 :: es) env)) []) Q E s := by
  rw [hs] at hq ⊢
  have hp2 : (backTo pos ((false, eval e1 env) :: starEach es env)).any (·.1) = false := by
    show (false || (backTo pos (starEach es env)).any (·.1)) = false
    rw [hp]
    rfl
  exact kxs_callWith (i := nm) (x := x) hp2 (evalArgs_plain hq)
theorem fits_msg {n : Int} (hn : n.natAbs.log2 < 1920) : (("the text is wrong at position " : Str) ++ (Str.ofString (toString n))).length ≤ sizeLine := by
  have h1 := PyProof.Rows.int_text_len_1921 hn
  have h2 : (("the text is wrong at position " : Str) ++ (Str.ofString (toString n))).length = ("the text is wrong at position " : Str).length + (Str.ofString (toString n)).length := by
    first | exact Str.length_append _ _ | simp
  have h3 : ("the text is wrong at position " : Str).length = 30 := by decide +kernel
  rw [h2, h3, sizeLine_eq]
  omega
structure OwnMade (h h' : Heap) (e C d : Addr) (v : Value) : Prop where
  keep : ∀ b o, h.get? b = some o → h'.get? b = some o
  new : h.objs.size ≤ e
  obj : ∃ oe vs, h'.get? e = some oe ∧ oe.cls = .ref C ∧ oe.dict = some d ∧ oe.data = .fields vs ∧ vs[1]? = some .none
  dbig : h.objs.size ≤ d
  dne : d ≠ e
  ns : h'.Ns1 d (fun y => if y = "at" then some v else none)
section
variable {prog : Program} {w : World} {A : Around} {E : Value → Shared → Prop} {R : Result → Shared → Prop} {s : Shared} {K : Frag} {mg : Str → Option Value} {C fI cc cda : Addr}
theorem te_init (T : TeTxt prog K mg C fI cc cda) {x t0 : Addr} {n : Int} {tn : Tok} (hn : n.natAbs.log2 < 1920) (X : K.In s.heap) (G : s.heap.Ns mainGlobals mg) (Bt : ∃ mb, s.heap.Ns builtinsNs mb ∧ ∀ x : Str, x ≠ "__name__" → mb x = bootBuiltins x)
    (hlim : s.heap.NoLimit) (hx : s.heap.get? x = some (excO C t0)) (hnx : K.lookup x = none) (hroom : A.depth < recursionLimit)
    (hq : ∀ h' tk dx t1, InitEnd s.heap h' x C dx t1 (.int n tn) → R (.ok (.ret .none)) { s with heap := h', toks := tk }) :
    codeAny (model prog w) A (.call (.ref fI) ⟨[.ref x, .int n tn], []⟩) R s := by
  obtain ⟨oc, od, doc, pm, an, ct, osl, p1, p2, q1, q2, q3, q4, q5, q6, q7, q8, q9, r1, r2, r3, r4, ho, hcd, hform⟩ := T.fn
  obtain ⟨nm, q, N, bs, bm, sn, sub, ab, col, dd, k0, k1, k2, k3, k5, hC, hbm⟩ := T.cls
  obtain ⟨cl, cld, csl, hcell⟩ := T.cell
  obtain ⟨ccl, cdd, vs, ccs, file, tf, hcode, hvs, hfile⟩ := T.code
  obtain ⟨mb, hb1, hb2⟩ := Bt
  have hcl : clsIn K C = some { name := nm, bases := bs, mro := .ref C :: bm, ns := N, qualname := q, hasDict := true, slotNames := sn, subclasses := sub, abstract := ab, collection := col, hasDel := false } := by unfold clsIn; rw [hC] <;> rfl
  refine ks_codeAny_call_defAt (fd := ksFn "__init__" "TextError.__init__" (iA p1 p2) (iB q1 q2 q3 q4 q5 q6 q7 q8 q9 r1 r2 r3 r4) iS .none .none doc pm an (.ref cda) ct cc) (body := iB q1 q2 q3 q4 q5 q6 q7 q8 q9 r1 r2 r3 r4)
    (binds := [("self", .ref x), ("at", .int n tn)]) hroom (X _ _ ho) rfl hlim (codeRec_of X hcd) rfl (BindsTo.of_eq rfl) (by show ∀ x ∈ iS.names, x.2 ≠ NameKind.cell; decide) (fun y hy => ?_) (fun h₁ hns k => ?_)
  · have e : y = (("self" : Str), Value.ref x) ∨ y = (("at" : Str), Value.int n tn) := by simpa using hy
    rcases e with rfl | rfl <;> rfl
  have X₁ : K.In h₁ := X.keeps k
  have hx₁ := k _ _ hx
  have hxL : s.heap.objs.size ≠ x := Nat.ne_of_gt (Heap.lt_size hx)
  obtain ⟨sh, sg, sd, st, sos⟩ := s
  obtain ⟨pl, hform⟩ := hform sh.objs.size
  refine ks_wpAt_execs_cons (ks_wpAt_Expr_any (ks_wpAt_MethodCall (pl := pl) ?_ hform))
  refine ks_wpAt_super_base (vs := vs) (hks := rfl) (hkc := rfl) (hat := by decide) (hfu := rfl) (hf := k _ _ (X _ _ ho)) (hfd := rfl) (hp := rfl) (hco := rfl) (hcc := k _ _ (X _ _ hcode)) (hoc := rfl) hvs hfile T.top ?_
  refine ks_loadName_global rfl rfl (loadGlobal_builtin (G.keeps k) T.ms (hb1.keeps k) ((hb2 _ (by decide)).trans (by first | boot_by_name | rfl | kernel_rfl)) ⟨rfl, ?_⟩)
  refine wpAny_loadName_free rfl rfl rfl ⟨_, k _ _ (X _ _ hcell), rfl⟩ ?_
  refine wpAny_loadName_local rfl rfl hns rfl ?_
  refine ks_wpAny_isType_cls (X₁ _ _ hC) rfl ⟨rfl, ?_⟩
  refine ks_wpAny_call_super (X₁ _ _ hC) rfl hx₁ rfl (fun c e => nomatch e) (looks_mroIn X₁ T.mr) (fun h₂ e₂ k₂ => ?_)
  have X₂ : K.In h₂ := X₁.keeps k₂
  have hx₂ := k₂ _ _ hx₁
  have I₁ : InstAt h₁ x (excO C t0) C none := ⟨hx₁, rfl, rfl, trivial⟩
  have I₂ : InstAt h₂ x (excO C t0) C none := ⟨hx₂, rfl, rfl, trivial⟩
  have hIs : Looks (model prog w) h₂ (isInstance (.ref x) (.type "ValueError")) true := I₂.type.andThen (looks_subIn X₂ T.vE)
  have hxC : x ≠ C := ks_ne X₁ I₁ hcl
  have su : alongIn K "__init__" (((Value.ref C :: bm).dropWhile (· != .ref C)).drop 1) = some (some (.builtin "ValueError.__init__")) := by
    have z := T.su
    unfold ks_superIn at z
    rw [hcl] at z
    exact z
  refine kxs_getMethod kxs_ValueError e₂ (looks_opaque X₂ T.op) (l₀ := .ref C :: bm) (fun A Q E s k q => wpAny_bind ((looks_clsIn X₂ hcl) A _ E s k (wpAny_pure q))) rfl X₂ su hIs hxC (by decide) ?_
  have e₃ : (h₂.push (kxs_mw "ValueError.__init__" x)).get? h₂.objs.size = some (kxs_mw "ValueError.__init__" x) := Heap.get?_push_at rfl rfl
  have k₃ : ∀ b o, h₂.get? b = some o → (h₂.push (kxs_mw "ValueError.__init__" x)).get? b = some o := fun b o e => Heap.get?_push_of_some _ e
  generalize h₂.push (kxs_mw "ValueError.__init__" x) = h₃ at e₃ k₃
  generalize h₂.objs.size = u at e₃
  have hns₃ := (hns.keeps k₂).keeps k₃
  refine callWith_mw (nm := "ValueError.__init__") (x := x) (spliced_more ?_)
  refine wpAny_JoinedStr ?_
  refine wpAny_Constant_str ⟨_, _, rfl, by first | decide +kernel | size_fits, ?_⟩
  refine wpAny_FormattedValue_plain ?_
  refine wpAny_Name (wpAny_loadName_local rfl rfl hns₃ rfl ?_)
  refine wpAny_formatField_int hn ⟨_, _, rfl, fits_msg hn, ?_⟩
  refine ⟨fits_msg hn, spliced_none ⟨e₃, ?_⟩⟩
  have X₃ : K.In h₃ := X₂.keeps k₃
  refine call_bw (X₃ _ _ hC) (k₃ _ _ hx₂) e₃ (one_size _) (fun h₄ t1 k₄ hx₄ => ?_)
  have hns₄ : h₄.Ns sh.objs.size (fun y => ([(("self" : Str), Value.ref x), (("at" : Str), Value.int n tn)] : List (Str × Value)).reverse.lookup y) := by
    obtain ⟨oL, es, ep, hL, r⟩ := hns₃
    exact ⟨oL, es, ep, k₄ _ _ hxL hL, r⟩
  have X₄ : K.In h₄ := fun a o e => k₄ a o (fun z => by rw [z, hnx] at e; cases e) (X₃ a o e)
  show _root_.PySem.wpAt _ _ _ (execs _ _) _ _ _
  refine wpAt_of_wpAny ?_
  refine wpAny_execs_cons (plainObj_wpAny_Assign_Attribute ?_)
  refine wpAny_Name (wpAny_loadName_local rfl rfl hns₄ rfl ?_)
  refine wpAny_Name (wpAny_loadName_local rfl rfl hns₄ rfl ?_)
  refine set_plain X₄ (ox := excO C t1) (od := none) ⟨hx₄, rfl, rfl, trivial⟩ T.sa ?_
  refine exc_osa X₄ hx₄ hcl (show refsVE (.ref C :: bm) = true from hbm) rfl T.noN (fun h₅ tk₅ dx k₅ dn dne hx₅ hn₅ => ?_)
  show wpAny _ _ (execs _ _) _ _ _
  have kk : ∀ b o, b ≠ x → sh.get? b = some o → h₅.get? b = some o := fun b o hb e => k₅ b o hb (k₄ b o hb (k₃ _ _ (k₂ _ _ (k b o e))))
  refine wpAny_execs_nil (hq h₅ tk₅ dx t1 ⟨kk, hx₅, ?_, dne, hn₅⟩)
  refine Nat.le_trans ?_ dn
  have z : sh.objs.size < h₄.objs.size := hns₄.lt
  exact Nat.le_of_lt z
theorem te_made (T : TeTxt prog K mg C fI cc cda) {n : Int} {tn : Tok} (hn : n.natAbs.log2 < 1920) (X : K.In s.heap) (G : s.heap.Ns mainGlobals mg) (Bt : ∃ mb, s.heap.Ns builtinsNs mb ∧ ∀ x : Str, x ≠ "__name__" → mb x = bootBuiltins x)
    (hlim : s.heap.NoLimit) (hroom : A.depth + 1 < recursionLimit)
    (hq : ∀ h' tk e d, OwnMade s.heap h' e C d (.int n tn) → R (.ok (.ret (.ref e))) { s with heap := h', toks := tk }) :
    codeAny (model prog w) A (.call (.ref C) ⟨[.int n tn], []⟩) R s := by
  obtain ⟨nm, q, N, bs, bm, sn, sub, ab, col, dd, k0, k1, k2, k3, k5, hC, hbm⟩ := T.cls
  obtain ⟨hp, g, dr, tk, os⟩ := s
  have k : ∀ b o, hp.get? b = some o → ((hp.push (kdv_tup [.int n tn])).push (excO C hp.objs.size)).get? b = some o := fun b o e => Heap.get?_push_of_some _ (Heap.get?_push_of_some _ e)
  have hget : ((hp.push (kdv_tup [.int n tn])).push (excO C hp.objs.size)).get? (hp.objs.size + 1) = some (excO C hp.objs.size) := by heap_get
  have hnx : K.lookup (hp.objs.size + 1) = none := by
    cases e : K.lookup (hp.objs.size + 1) with
    | none => rfl
    | some o =>
      have z : hp.get? (hp.objs.size + 1) = some o := X _ _ e
      exact absurd (Nat.lt_of_succ_lt (Heap.lt_size z)) (Nat.lt_irrefl _)
  obtain ⟨mb, hb1, hb2⟩ := Bt
  refine call_own F.excBase_ValueError (fun X => refsVE_contains X bm hbm) (X _ _ hC) (looks_findIn X T.iC) (fun self => bind_fn X self T.tC) (one_size _) ?_
  refine te_init (s := ⟨(hp.push (kdv_tup [.int n tn])).push (excO C hp.objs.size), g, dr, tk, os⟩) T hn (X.keeps k) (G.keeps k) ⟨mb, hb1.keeps k, hb2⟩ (hlim.keeps k) hget hnx ?_ fun h' tk' dx t1 ⟨k', hx, dn, dne, hns⟩ => ?_
  · show A.depth + 1 < recursionLimit
    exact hroom
  · have old : ∀ b o, hp.get? b = some o → h'.get? b = some o := fun b o e => k' b o (Nat.ne_of_lt (Nat.lt_succ_of_lt (Heap.lt_size e))) (k b o e)
    have z : hp.objs.size + 1 + 1 ≤ dx := by
      first
        | (simpa only [Heap.size_push] using dn)
        | exact dn
        | (have q := dn; rw [Heap.size_push, Heap.size_push] at q; exact q)
    exact ⟨rfl, hq h' tk' (hp.objs.size + 1) dx ⟨old, Nat.le_succ _, ⟨_, _, hx, rfl, rfl, rfl, rfl⟩, Nat.le_trans (Nat.le_trans (Nat.le_succ _) (Nat.le_succ _)) z, dne, hns⟩⟩
end
end TeX
end PySem
namespace L2
open PySem PySem.Spec PyProof.Rows
theorem relO_at {v : V} {v' : Value} (r : RelV v v') (f : Str) : RelO (List.lookup f [(("at" : Str), v)]) (if f = "at" then some v' else none) := by
  by_cases hw : f = "at"
  · subst hw
    rw [if_pos rfl]
    have q : List.lookup ("at" : Str) [(("at" : Str), v)] = some v := by simp [List.lookup]
    rw [q]
    exact r
  · rw [if_neg hw]
    have qw : (f == ("at" : Str)) = false := by simpa using hw
    have q2 : List.lookup f [(("at" : Str), v)] = none := by simp [List.lookup, qw]
    rw [q2]
    trivial
section
variable {X : Cx} {C fI cc cda : Addr}
/-- TextError(e) -/
def tMkTe (C : Addr) (ta : TA) : St → Hp → XK → Prop := fun σ H Q => ta σ H fun vs H1 => ∃ n : Int, vs = [.int n] ∧ n.natAbs.log2 < 1920 ∧ ∀ d, H1 d = none → Q (.ref C) (some d) (upd H1 d (.xd [(("at" : Str), .int n)]))
theorem pmk_te {a : Expr} {ta : TA} {p pos : Pos} {k : Nat} (T : PySem.TeX.TeTxt X.prog X.K X.mg C fI cc cda) (hr : Room k X.A) (ha : PA X [a] ta) (hg : Gl X "TextError" := by rfl)
    (he : starEach (a :: []) X.env = (false, eval a X.env) :: starEach [] X.env := by rfl) (hpl : (backTo pos (starEach [] X.env)).any (·.1) = false := by rfl) :
    PMk X (.Call (.Name "TextError" p) [a] [] pos) (tMkTe C ta) := by
  intro pins s σ H Q I h
  refine wpAny_Call_Name_kw (ld_glob I hg T.gC ?_)
  refine PySem.W.callWith_K (h₀ := X.base) I.ok.mod.kin T.kC (thn (ha.run pos pins s σ H _ I h) fun us s1 hh => ?_) he hpl
  obtain ⟨vs, H1, I1, r1, n, ev, hn, q1⟩ := hh
  subst ev
  refine ⟨I1.kIn, ?_⟩
  cases r1 with
  | cons rv rn =>
    rename_i v' us'
    cases rn
    obtain ⟨tn, rfl⟩ := id rv
    show wpAny _ _ (call (.ref C) [Value.int n tn]) _ _ _
    have hlim := I1.nolimit
    have hG := I1.ok.mod.glob.keeps I1.bk
    obtain ⟨mb, hb1, hb2⟩ := I1.ok.mod.blt
    have hB : ∃ mb, s1.heap.Ns builtinsNs mb ∧ ∀ x : Str, x ≠ "__name__" → mb x = bootBuiltins x := ⟨mb, hb1.keeps I1.bk, hb2⟩
    obtain ⟨hp, g, dr, tk, os⟩ := s1
    refine wpAny_call (PySem.TeX.te_made T hn I1.kIn hG hB hlim (by have := hr.dp; omega) fun h' tk' e d M => ?_)
    show MkP X pins σ Q (.ref e) ⟨h', g, dr, tk', os⟩
    obtain ⟨oe, fv, hoe, hc, hd, hdat, h1⟩ := M.obj
    have hns := M.ns
    obtain ⟨G', g1, g2⟩ := restrict h' fun b => decide (b ≠ e)
    have gk : ∀ b, b ≠ e → G'.get? b = h'.get? b := fun b hb => g1 b (decide_eq_true hb)
    have ge : G'.get? e = none := g2 e (by simp)
    have old : ∀ b o, hp.get? b = some o → G'.get? b = some o := fun b o q => (gk b (Nat.ne_of_lt (Nat.lt_of_lt_of_le (Heap.lt_size q) M.new))).trans (M.keep b o q)
    have ob : ObjOk X.prog X.w (upd H1 d (.xd [(("at" : Str), .int n)])) G' d (.xd [(("at" : Str), .int n)]) :=
      ⟨_, hns.at (fun o q => (gk d M.dne).trans q), fun f => relO_at rv f⟩
    have J : Inv X pins σ (upd H1 d (.xd [(("at" : Str), .int n)])) ⟨G', g, dr, tk', os⟩ := I1.laid (t' := tk') old M.dbig ob
    refine ⟨e, oe, fv, ⟨G', g, dr, tk', os⟩, _, .ref C, some d, rfl, J, fun b o q => ?_, ge, hoe, ⟨hc, hd⟩, hdat, h1, ?_, rfl, I1.bare, raises_own T.exC T.tyC, q1 d (I1.hok.fresh M.dbig)⟩
    · by_cases hb : b = e
      · have q' : G'.get? b = some o := q
        rw [hb, ge] at q'; cases q'
      · exact (gk b hb).symm.trans q
    · rw [upd_ne (Ne.symm M.dne)]
      exact I1.hok.fresh M.new
/-- raise TextError(e) -/
def tRaiseTe (C : Addr) (W : WX) (ta : TA) : TS := fun _ σ H => tMkTe C ta σ H fun cls d H' => W cls d σ H'
theorem ps_raiseTe {a : Expr} {ta : TA} {W : WX} {p pos pos2 : Pos} {k : Nat} (hc : X.calm = true) (T : PySem.TeX.TeTxt X.prog X.K X.mg C fI cc cda) (hr : Room k X.A) (tk : Takes X W) (ha : PA X [a] ta) (hg : Gl X "TextError" := by rfl)
    (he : starEach (a :: []) X.env = (false, eval a X.env) :: starEach [] X.env := by rfl) (hpl : (backTo pos (starEach [] X.env)).any (·.1) = false := by rfl) :
    PS X (.Raise (some (.Call (.Name "TextError" p) [a] [] pos)) none pos2) (tRaiseTe C W ta) := ps_raise hc tk (pmk_te T hr ha hg he hpl)
/-- e.at, e the exception that the suite holds (at a; its class cls, its dict d) -/
def tByTe (C : Addr) (a : Addr) (cls : Value) (d : Option Addr) (te : TE) : TE := fun σ H Q => te σ H fun x H1 => x = .ref a ∧ cls = .ref C ∧ ∃ (dd : Addr) (v : V), d = some dd ∧ H1 dd = some (.xd [(("at" : Str), v)]) ∧ Q v H1
theorem pe_byTe {a : Addr} {oe : Obj} {cls : Value} {d : Option Addr} {pn : List (Addr × Obj)} {e : Expr} {te : TE} {pos : Pos} (T : PySem.TeX.TeTxt X.prog X.K X.mg C fI cc cda) (hz : Zc cls d oe) (hf : ∃ vs, oe.data = .fields vs) (he : PE (X.suite a ((a, oe) :: pn)) e te)
    (hb : attributeBase e "at" X.env (eval e X.env) = eval e X.env := by rfl) :
    PE (X.suite a ((a, oe) :: pn)) (.Attribute e "at" pos) (tByTe C a cls d te) := by
  refine ⟨fun pins s σ H Q I h => ?_⟩
  refine attr_of hb (thn (he.run pins s σ H _ I h) fun u s1 hh => ?_)
  obtain ⟨x, H1, I1, rx, ex, ec, dd, v, ed, ea, q⟩ := hh
  subst ex
  obtain rfl : u = Value.ref a := rx
  subst ec
  subst ed
  obtain ⟨ha, _⟩ := I1.pin (a, oe) (List.mem_append_left _ List.mem_cons_self)
  obtain ⟨vs, hd⟩ := hf
  have hx : ObjOk X.prog X.w H1 s1.heap dd (.xd [(("at" : Str), v)]) := I1.hok dd _ ea
  obtain ⟨mA, hns, hr⟩ := hx
  obtain ⟨od, ho, hl⟩ := lookIn_ns hns
  have l : List.lookup ("at" : Str) [(("at" : Str), v)] = some v := by simp [List.lookup]
  obtain ⟨u, hu, ru⟩ := RelO.some_of (v := v) (o := mA "at") (by rw [← l]; exact hr "at")
  have J : PySem.W.InstAt s1.heap a oe C (some od) := ⟨ha, hz.1, by unfold PySem.W.notCls; rw [hd] <;> rfl, by rw [hz.2]; exact ho⟩
  exact HandSPX.exc_get I1.kIn J T.ga T.gg T.exC (PySem.W.findObj_own T.hdC T.noN rfl (by rw [hl, hu])) (handed_of ru) ⟨v, H1, I1.tok _, ru, q⟩
end
/-- an error of the class at S is what «except S» names -/
theorem exm_self {K : PySem.W.Frag} {S : Addr} (h1 : PySem.W.subIn K (.ref S) (.type "BaseException") = some true) (h2 : PySem.W.isClsIn K S = true) (h3 : PySem.W.typeIn K (.ref S) = some (.type "type")) (h4 : PySem.W.subIn K (.ref S) (.ref S) = some true) :
    PySem.W.exmOne K (.ref S) (.ref S) = some true := by
  have e1 : (PySem.W.subIn K (.ref S) (.type "BaseException") == some true) = true := by rw [h1] <;> rfl
  have e2 : ((PySem.W.clsIn K S).isSome && PySem.W.typeIn K (.ref S) == some (.type "type")) = true := by
    have h2' : (PySem.W.clsIn K S).isSome = true := h2
    rw [h2', h3] <;> rfl
  show (if (PySem.W.subIn K (.ref S) (.type "BaseException") == some true) = true then (if ((PySem.W.clsIn K S).isSome && PySem.W.typeIn K (.ref S) == some (.type "type")) = true then PySem.W.subIn K (.ref S) (.ref S) else none) else none) = some true
  rw [if_pos e1, if_pos e2]
  exact h4
end L2

namespace L2
open PySem PySem.Spec PyProof.Rows
section
variable {X : Cx}
/-- text * int -/
def rMulS : R2 := fun x y H Q => ∃ i n, x = .str i ∧ y = .int n ∧ MulOk i n ∧ Q (.str (Txt.mul i n)) H
theorem op_mulS : OpR X (binaryOp .Mult) rMulS := by
  intro pins s σ H x y v u Q I rx ry h
  obtain ⟨i, n, rfl, rfl, hz, q⟩ := h
  obtain ⟨t, rfl⟩ := rx
  obtain ⟨t', rfl⟩ := ry
  exact PySem.SB.mul hz (fun t' tk => ⟨.str (Txt.mul i n), H, I.tok _, ⟨_, rfl⟩, q⟩)
/-- isinstance(e, c), e the exception that the suite holds, with its own dict -/
def rIsO (K : PySem.W.Frag) (a : Addr) (cls : Value) (d : Option Addr) : List V → Hp → VK → Prop := fun xs H Q =>
  ∃ (D dd : Addr) (fs : List (Str × V)) (c : V) (cv : Value) (b : Bool), cls = .ref D ∧ d = some dd ∧ ExcC K D ∧ H dd = some (.xd fs) ∧ xs = [.ref a, c] ∧ (∀ u, RelV c u → u = cv) ∧ PySem.W.kitOne K (.ref D) cv = some b ∧ Q (.bl b) H
theorem call_isO {a : Addr} {cls : Value} {d : Option Addr} {oe : Obj} {pn : List (Addr × Obj)} (hz : Zc cls d oe) (hf : ∃ vs, oe.data = .fields vs) :
    CallR (X.suite a ((a, oe) :: pn)) (.builtin "isinstance") (rIsO X.K a cls d) := by
  intro pins s σ H xs us Q I r ⟨D, dd, fs, c, cv, b, ec, ed, C, hd, exs, hcv, hk, q⟩
  subst exs ec ed
  obtain ⟨u1, u2, rfl, r1, r2⟩ : ∃ u1 u2, us = [u1, u2] ∧ RelV (.ref a) u1 ∧ RelV c u2 := by
    cases r with
    | cons ra rr => cases rr with
      | cons rb rc => cases rc; exact ⟨_, _, rfl, ra, rb⟩
  have e1 : u1 = Value.ref a := r1
  subst e1
  have e2 := hcv _ r2
  subst e2
  have hget := (I.pin (a, oe) (List.mem_append.mpr (.inl List.mem_cons_self))).1
  obtain ⟨vs, hv⟩ := hf
  have hx : ObjOk X.prog X.w H s.heap dd (.xd fs) := I.hok dd _ hd
  obtain ⟨mA, hns, _⟩ := hx
  obtain ⟨od, ho, _⟩ := lookIn_ns hns
  have J : PySem.W.InstAt s.heap a oe D (some od) := ⟨hget, hz.1, by unfold PySem.W.notCls; rw [hv] <;> rfl, by rw [hz.2]; exact ho⟩
  have hcl : (PySem.W.clsIn X.K D).isSome = true := by
    obtain ⟨cd, hc, _⟩ := PySem.W.any_some C.hd
    rw [hc]
    rfl
  exact PySem.W.kia_one (PySem.W.kitx_exc hcl C.hg C.hk C.hs C.ha C.hn C.ht C.hm) I.kIn J hk (fun z => nomatch z) fun tk => ⟨.bl b, H, I.kept (t' := tk) fun _ _ z => z, rfl, q⟩
end
end L2

namespace L2
open PySem PySem.Spec PyProof.Rows PySem.W
open Builtin
/-! ### list(enumerate(a list)) -/
abbrev EnB (hw0 : Heap) (en it : Addr) (i : Int) (old : Value) (a : Addr) (f : Bool) : Prop :=
  hw0.get? en = some { cls := .type "enumerate", dict := none, data := .fields #[rawInt a, .bool f, .ref it, rawInt i, .none, old], slots := #[] }
section
variable {pgm : Program} {wd : World} {A : Around} {E : Value → Shared → Prop} {s : Shared}
theorem enb_next {en it l a : Addr} {i : Nat} {items : Array Value} {x old : Value} {f : Bool} {oa : Obj} {Qk : Option Value → Shared → Prop}
    (kE : EnB s.heap en it i old a f) (kT : s.heap.IsListIter it l i) (kL : s.heap.IsList l items) (kX : items[i]? = some x) (kN : en ≠ it) (kA : s.heap.get? a = some oa) (ae : a ≠ en) (ai : a ≠ it)
    (hQ : ∀ hw1, EnB hw1 en it ((i : Int) + 1) old a true → hw1.IsListIter it l (i + 1) →
      hw1.get? s.heap.objs.size = some { cls := .type "tuple", data := .seq #[.int i s.toks, x] } → hw1.objs.size = s.heap.objs.size + 1 →
      (∀ b o, b ≠ en → b ≠ it → s.heap.get? b = some o → hw1.get? b = some o) → Qk (some (.ref s.heap.objs.size)) { s with heap := hw1, toks := s.toks + 1 }) :
    wpAny (model pgm wd) A (pyNext (.ref en)) Qk E s := by
  have kTy : s.TypeIs (.ref en) "enumerate" := ⟨_, kE, rfl⟩
  obtain ⟨hq, gq, dq, tkn, oq⟩ := s
  unfold pyNext
  refine wpAny_bind (wpAny_attempt (wpAny_callSpecial?_slot (name := Str.ofString "__next__") kTy PySem.F.slot_enumerate_next (wpAny_call_entry PySem.F.slot_enumerate_next kTy PySem.F.entry_enumerate_next ?_ (PySem.F.args_enumerate_next_1 _))))
  show wpAny _ _ (field (.ref en) 2 >>= _) _ _ _
  refine wpAny_bind (wpAny_field kE rfl (x := .ref it) rfl (wpAny_bind (wpAny_nextOf_list_item kT kL kX fun h₁ kT1 sb1 => ?_)))
  replace sb1 : Heap.SameBut it hq h₁ := sb1
  have kE1 : EnB h₁ en it i old a f := (sb1.2 en kN).trans kE
  show wpAny _ _ (field (.ref en) 3 >>= _) _ _ ⟨h₁, gq, dq, tkn, oq⟩
  refine wpAny_bind (wpAny_field kE1 rfl (x := rawInt i) rfl ?_)
  show wpAny _ _ (field (.ref en) 4 >>= _) _ _ ⟨h₁, gq, dq, tkn, oq⟩
  refine wpAny_bind (wpAny_field kE1 rfl (x := .none) rfl ?_)
  show wpAny _ _ (mkInt i >>= _) _ _ ⟨h₁, gq, dq, tkn, oq⟩
  refine wpAny_bind (wpAny_mkInt ?_); show wpAny _ _ (setField (.ref en) 3 (rawInt ((i : Int) + 1)) >>= _) _ _ ⟨h₁, gq, dq, tkn + 1, oq⟩
  refine wpAny_bind (wpAny_setField_rec kE1 (by simp) fun h₂ kE2 sb2 => ?_)
  replace sb2 : Heap.SameBut en h₁ h₂ := sb2
  replace kE2 : EnB h₂ en it ((i : Int) + 1) old a f := kE2
  show wpAny _ _ (setField (.ref en) 4 .none >>= _) _ _ ⟨h₂, gq, dq, tkn + 1, oq⟩
  refine wpAny_bind (wpAny_setField_rec kE2 (by simp) fun h₃ kE3 sb3 => ?_)
  replace sb3 : Heap.SameBut en h₂ h₃ := sb3
  replace kE3 : EnB h₃ en it ((i : Int) + 1) old a f := kE3
  show wpAny _ _ (newTuple [.int i tkn, x] >>= _) _ _ ⟨h₃, gq, dq, tkn + 1, oq⟩
  refine wpAny_bind (wpAny_newTuple ?_); have kE4 : EnB (h₃.push { cls := .type "tuple", data := .seq #[.int i tkn, x] }) en it ((i : Int) + 1) old a f := Heap.get?_push_of_some _ kE3
  generalize e4 : h₃.push { cls := .type "tuple", data := .seq #[.int i tkn, x] } = h₄ at kE4
  have z3 : h₃.objs.size = hq.objs.size := by rw [sb3.1, sb2.1, sb1.1]
  have lE : en < hq.objs.size := Heap.lt_size kE
  have t4 : h₄.get? hq.objs.size = some { cls := .type "tuple", data := .seq #[.int i tkn, x] } := by
    rw [← e4, ← z3]
    exact Heap.get?_push_size _ rfl
  have z4 : h₄.objs.size = hq.objs.size + 1 := by rw [← e4, Heap.size_push, z3]
  have k4 : ∀ b o, b ≠ en → b ≠ it → hq.get? b = some o → h₄.get? b = some o := fun b o be bi hb => by
    rw [← e4]
    exact Heap.get?_push_of_some _ (sb3.extBut b o be (sb2.extBut b o be (sb1.extBut b o bi hb)))
  have kT4 : h₄.IsListIter it l (i + 1) := by
    rw [← e4]
    obtain ⟨o, ho, r⟩ := (kT1.extBut sb2.extBut (Ne.symm kN)).extBut sb3.extBut (Ne.symm kN)
    exact ⟨o, Heap.get?_push_of_some _ ho, r⟩
  show wpAny _ _ (Builtin.SmallTypes.ownedTupleIsFree (.ref en) >>= _) _ _ ⟨h₄, gq, dq, tkn + 1, oq⟩
  rw [z3]
  clear e4 kE3 sb3 kE2 sb2 kE1 sb1 kT1 z3
  refine wpAny_bind ?_
  have kA4 : h₄.get? a = some oa := k4 a oa ae ai kA
  unfold Builtin.SmallTypes.ownedTupleIsFree; refine wpAny_bind (wpAny_field kE4 rfl (x := rawInt a) rfl ?_)
  show wpAny _ _ (loadIfAlive ((a : Int).toNat) >>= _) _ _ _; rw [Int.toNat_natCast]
  refine wpAny_bind (kdx_alive kA4 ?_)
  simp only [Option.isNone_some, Bool.false_eq_true, if_false]
  refine wpAny_bind (wpAny_field kE4 rfl (x := .bool f) rfl ?_)
  have fin : ∀ h₅ : Heap, EnB h₅ en it ((i : Int) + 1) old a true → Heap.SameBut en h₄ h₅ → Qk (some (.ref hq.objs.size)) ⟨h₅, gq, dq, tkn + 1, oq⟩ := fun h₅ kE5 sb5 =>
    hQ h₅ kE5 (kT4.extBut sb5.extBut (Ne.symm kN)) (sb5.extBut _ _ (Nat.ne_of_gt lE) t4) (by show h₅.objs.size = _; rw [sb5.1, z4]) fun b o be bi hb => sb5.extBut b o be (k4 b o be bi hb)
  cases f with
  | true =>
    rw [if_neg (show ¬ ((Value.bool true != Value.bool true) = true) from Bool.false_ne_true)]; refine wpAny_pure ?_
    simp only [Bool.false_eq_true, if_false]
    exact wpAny_pure ⟨_, rfl, wpAny_pure (fin h₄ kE4 (Heap.SameBut.refl _ _))⟩
  | false =>
    rw [if_pos (show (Value.bool false != Value.bool true) = true from rfl)]; refine wpAny_bind (wpAny_setField_rec kE4 (by simp) fun h₅ kE5 sb5 => wpAny_pure ?_)
    simp only [Bool.false_eq_true, if_false]
    exact wpAny_pure ⟨_, rfl, wpAny_pure (fin h₅ kE5 sb5)⟩
theorem enb_done {en it l a : Addr} {i : Nat} {items : Array Value} {old : Value} {f : Bool} {Qk : Option Value → Shared → Prop} (hh : A.handled = none)
    (kE : EnB s.heap en it i old a f) (kT : s.heap.IsListIter it l i) (kL : s.heap.IsList l items) (kX : items[i]? = none)
    (hQ : ∀ hw1, Heap.ExtBut it s.heap hw1 → Qk none { s with heap := hw1 }) : wpAny (model pgm wd) A (pyNext (.ref en)) Qk E s := by
  have kTy : s.TypeIs (.ref en) "enumerate" := ⟨_, kE, rfl⟩
  unfold pyNext
  refine wpAny_bind (wpAny_attempt (wpAny_callSpecial?_slot (name := Str.ofString "__next__") kTy PySem.F.slot_enumerate_next (wpAny_call_entry PySem.F.slot_enumerate_next kTy PySem.F.entry_enumerate_next ?_ (PySem.F.args_enumerate_next_1 _))))
  show wpAny _ _ (field (.ref en) 2 >>= _) _ _ _
  refine wpAny_bind (wpAny_field kE rfl (x := .ref it) rfl (wpAny_bind (wpAny_nextOf_list_end hh kT kL kX fun hw1 x eb hx => ?_)))
  obtain ⟨o, ho, hc⟩ := hx
  exact wpAny_bind (wpAny_isInstance (T := "StopIteration") (b := true) ⟨o, ho, hc⟩ isSubtype_stop (wpAny_pure (hQ _ eb)))
/-- where it stands before its i-th turn, nothing of it let go -/
def EnSt (hw0 : Heap) (en it Sx : Addr) (i : Nat) : Prop := (i = 0 ∧ IsEnum hw0 en it 0 .none) ∨ ∃ (old : Value) (a : Addr) (f : Bool) (oa : Obj), EnB hw0 en it i old a f ∧ hw0.get? a = some oa ∧ a ≠ en ∧ a ≠ it ∧ a ≠ Sx
theorem enst_next {en it l Sx : Addr} {i : Nat} {items : Array Value} {x : Value} {Qk : Option Value → Shared → Prop}
    (kE : EnSt s.heap en it Sx i) (kT : s.heap.IsListIter it l i) (kL : s.heap.IsList l items) (kX : items[i]? = some x) (kN : en ≠ it) (lS : Sx < s.heap.objs.size)
    (hQ : ∀ hw1, EnSt hw1 en it Sx (i + 1) → hw1.IsListIter it l (i + 1) →
      hw1.get? s.heap.objs.size = some { cls := .type "tuple", data := .seq #[.int i s.toks, x] } → hw1.objs.size = s.heap.objs.size + 1 →
      (∀ b o, b ≠ en → b ≠ it → s.heap.get? b = some o → hw1.get? b = some o) → Qk (some (.ref s.heap.objs.size)) { s with heap := hw1, toks := s.toks + 1 }) :
    wpAny (model pgm wd) A (pyNext (.ref en)) Qk E s := by
  have ei : ((i + 1 : Nat) : Int) = (i : Int) + 1 := by omega
  have lT : it < s.heap.objs.size := by
    obtain ⟨_, q, _⟩ := kT
    exact Heap.lt_size q
  rcases kE with ⟨rfl, kE⟩ | ⟨old, a, f, oa, kE, kA, ae, ai, aS⟩
  · exact wpAny_pyNext_enum_item kE kT kL kX kN fun hw1 k1 k2 k3 k4 k5 => hQ hw1 (.inr ⟨_, _, false, _, by unfold EnB; rw [ei]; exact k1, k3, Nat.ne_of_gt (Heap.lt_size kE), Nat.ne_of_gt lT, Nat.ne_of_gt lS⟩) k2 k3 k4 k5
  · exact enb_next kE kT kL kX kN kA ae ai fun hw1 k1 k2 k3 k4 k5 => hQ hw1 (.inr ⟨_, _, true, _, by unfold EnB; rw [ei]; exact k1, k5 a oa ae ai kA, ae, ai, aS⟩) k2 k3 k4 k5
theorem enst_done {en it l Sx : Addr} {i : Nat} {items : Array Value} {Qk : Option Value → Shared → Prop} (hh : A.handled = none)
    (kE : EnSt s.heap en it Sx i) (kT : s.heap.IsListIter it l i) (kL : s.heap.IsList l items) (kX : items[i]? = none)
    (hQ : ∀ hw1, Heap.ExtBut it s.heap hw1 → Qk none { s with heap := hw1 }) : wpAny (model pgm wd) A (pyNext (.ref en)) Qk E s := by
  rcases kE with ⟨rfl, kE⟩ | ⟨old, a, f, oa, kE, _⟩
  · exact wpAny_pyNext_enum_end hh kE kT kL kX hQ
  · exact enb_done hh kE kT kL kX hQ
theorem EnSt.keep {hw0 hw1 : Heap} {en it Sx : Addr} {i : Nat} (x : EnSt hw0 en it Sx i) (k : ∀ b o, b ≠ Sx → hw0.get? b = some o → hw1.get? b = some o) (ne : en ≠ Sx) : EnSt hw1 en it Sx i := by
  rcases x with ⟨z, x⟩ | ⟨old, a, f, oa, x, xa, a1, a2, a3⟩
  · exact .inl ⟨z, k _ _ ne x⟩
  · exact .inr ⟨old, a, f, oa, k _ _ ne x, k _ _ a3 xa, a1, a2, a3⟩
end
/-- the pairs of the items, each at its place -/
structure EnG (its : List Value) (lo : Addr) (hw0 : Heap) (as : List Addr) : Prop where
  nd : as.Nodup
  above : ∀ a ∈ as, lo ≤ a
  pairs : ∀ (j : Nat) (a : Addr), as[j]? = some a → ∃ x t, its[j]? = some x ∧ hw0.get? a = some { cls := .type "tuple", data := .seq #[.int (j : Nat) t, x] }
theorem EnG.there {its : List Value} {lo : Addr} {hw0 : Heap} {as : List Addr} (g : EnG its lo hw0 as) {a : Addr} (mha : a ∈ as) : a < hw0.objs.size := by
  obtain ⟨j, jh⟩ := List.mem_iff_getElem?.mp mha
  obtain ⟨x, t, _, q⟩ := g.pairs j a jh
  exact Heap.lt_size q
theorem ge0_toNat {i : Nat} : ((i : Nat) : Int).toNat = i := Int.toNat_natCast i
section
variable {pgm : Program} {wd : World} {A : Around} {s : Shared} {R : Result → Shared → Prop} {its : List Value}
theorem enl_loop {Sx en it l : Addr} (hh : A.handled = none) (nSe : Sx ≠ en) (nSt : Sx ≠ it) (kN : en ≠ it) (lS : l ≠ Sx) (le : l ≠ en) (lt : l ≠ it) (hn : its.length ≤ sizeLine) (res : Value) {h₁ : Heap} (hlo : en < h₁.objs.size) (hlo2 : it < h₁.objs.size) (hlo3 : Sx < h₁.objs.size)
    (hR : ∀ hw1 tkn acc c as, (∀ b o, b ≠ Sx → b ≠ en → b ≠ it → h₁.get? b = some o → hw1.get? b = some o) → hw1.get? Sx = some { cls := .type "list", dict := none, data := .seq acc c, slots := #[] } → as.length = its.length → EnG its h₁.objs.size hw1 as →
      acc.toList = as.map Value.ref → R (.ok (.ret res)) { s with heap := hw1, toks := tkn }) :
    ∀ (k i : Nat) (hw0 : Heap) (tkn c : Nat) (acc : Array Value) (as : List Addr), its.length - i = k → i ≤ its.length → EnSt hw0 en it Sx i → hw0.IsListIter it l i → hw0.IsList l its.toArray → (∀ b o, b ≠ Sx → b ≠ en → b ≠ it → h₁.get? b = some o → hw0.get? b = some o) →
      hw0.get? Sx = some { cls := .type "list", dict := none, data := .seq acc c, slots := #[] } → acc.toList = as.map Value.ref → as.length = i → EnG its h₁.objs.size hw0 as → h₁.objs.size ≤ hw0.objs.size →
      codeAny (model pgm wd) A (.builtin "list.extend.loop" ⟨[.ref Sx, .ref en, res], []⟩) R { s with heap := hw0, toks := tkn } := by
  intro k
  induction k with
  | zero =>
    intro i hw0 tkn c acc as zk zi kE kT kL kk kS kacc kal kG kz
    have ein : i = its.length := by omega
    refine codeAny_builtin PySem.F.entry_extend_loop ?_; rw [Around.under_plainId PySem.F.plain_extend_loop _]
    show wpAny _ A.in1 (pyNext (.ref en) >>= _) _ _ _
    refine wpAny_bind (enst_done (s := { s with heap := hw0, toks := tkn }) (A := A.in1) hh kE kT kL (by simp only [List.getElem?_toArray]; exact List.getElem?_eq_none (by omega)) fun hw1 eb => ?_)
    refine wpAny_pure (hR hw1 tkn acc c as (fun b o h1 h2 h3 q => eb b o h3 (kk b o h1 h2 h3 q)) (eb Sx _ nSt kS) (by omega) ⟨kG.nd, kG.above, fun j a jh => ?_⟩ kacc)
    obtain ⟨x, t, q1, q2⟩ := kG.pairs j a jh
    exact ⟨x, t, q1, eb a _ (Nat.ne_of_gt (Nat.lt_of_lt_of_le hlo2 (kG.above a (List.mem_of_getElem? jh)))) q2⟩
  | succ k ih =>
    intro i hw0 tkn c acc as zk zi kE kT kL kk kS kacc kal kG kz
    have zlt : i < its.length := by omega
    have zsz : acc.size = i := by rw [← Array.length_toList, kacc, List.length_map, kal]
    refine codeAny_builtin PySem.F.entry_extend_loop ?_; rw [Around.under_plainId PySem.F.plain_extend_loop _]
    show wpAny _ A.in1 (pyNext (.ref en) >>= _) _ _ _
    refine wpAny_bind (enst_next (s := { s with heap := hw0, toks := tkn }) (Sx := Sx) kE kT kL (x := its[i]) (by simp only [List.getElem?_toArray]; exact List.getElem?_eq_getElem zlt) kN (Heap.lt_size kS) fun hw1 kE' kT' kU kz' kp => ?_)
    dsimp only at kU kz' kp ⊢
    have kS' := kp Sx _ nSe nSt kS
    have up : ∀ b o, b ≠ Sx → hw1.get? b = some o → (hw1.update Sx (Obj.mapSeq (·.push (Value.ref hw0.objs.size)))).get? b = some o := fun b o hb q => (Heap.get?_update_other _ _ (Ne.symm hb)).trans q
    have lSh : Sx < hw0.objs.size := Heap.lt_size kS
    have ltt : it < hw0.objs.size := Nat.lt_of_lt_of_le hlo2 kz
    have lee : en < hw0.objs.size := Nat.lt_of_lt_of_le hlo kz
    have lll : l < hw0.objs.size := by
      obtain ⟨_, q, _⟩ := kL
      exact Heap.lt_size q
    show wpAny _ A.in1 (updateSeq Sx (·.push (Value.ref hw0.objs.size)) >>= _) _ _ _
    refine wpAny_bind ?_
    refine wpAny_updateSeq kS' rfl (wpAny_pure ⟨plainId_quiet PySem.F.plain_extend_loop _, ih (i + 1) _ (tkn + 1) _ (acc.push (Value.ref hw0.objs.size)) (as ++ [hw0.objs.size]) (by omega) zlt (kE'.keep up (Ne.symm nSe)) (kT'.at fun o q => up it o (Ne.symm nSt) q)
      (kL.at fun o q => up l o lS (kp l o le lt q)) (fun b o h1 h2 h3 q => up b o h1 (kp b o h2 h3 (kk b o h1 h2 h3 q))) (Heap.get?_update_self _ kS' rfl) (by rw [Array.toList_push, kacc, List.map_append]; rfl) (by rw [List.length_append, kal]; rfl) ⟨?_, ?_, ?_⟩ ?_⟩) (by rw [zsz]; omega) (by show (acc.push (Value.ref hw0.objs.size)).size ≤ sizeLine + 1; rw [Array.size_push, zsz]; omega)
    · refine List.nodup_append.mpr ⟨kG.nd, List.pairwise_singleton _ _, fun a mha b hb z => ?_⟩
      rw [List.mem_singleton.mp hb] at z
      have q := kG.there mha
      rw [z] at q
      exact Nat.lt_irrefl _ q
    · intro a mha
      rcases List.mem_append.mp mha with mha | mha
      · exact kG.above a mha
      · rw [List.mem_singleton.mp mha]
        exact kz
    · intro j b jh
      rcases Nat.lt_trichotomy j as.length with h1 | h1 | h1
      · rw [List.getElem?_append_left h1] at jh
        obtain ⟨x', t', q1, q2⟩ := kG.pairs j b jh
        have hb := kG.above b (List.mem_of_getElem? jh)
        exact ⟨x', t', q1, up b _ (Nat.ne_of_gt (Nat.lt_of_lt_of_le hlo3 hb)) (kp b _ (Nat.ne_of_gt (Nat.lt_of_lt_of_le hlo hb)) (Nat.ne_of_gt (Nat.lt_of_lt_of_le hlo2 hb)) q2)⟩
      · subst h1
        have hb : hw0.objs.size = b := by simpa using jh
        subst hb
        exact ⟨its[i], tkn, by rw [kal]; exact List.getElem?_eq_getElem zlt, by subst kal; exact up _ _ (Nat.ne_of_gt lSh) kU⟩
      · have no : (as ++ [hw0.objs.size])[j]? = none := List.getElem?_eq_none (by rw [List.length_append, List.length_singleton]; omega)
        rw [no] at jh
        cases jh
    · have q : (hw1.update Sx (Obj.mapSeq (·.push (Value.ref hw0.objs.size)))).get? hw0.objs.size = _ := up _ _ (Nat.ne_of_gt lSh) kU
      exact Nat.le_trans kz (Nat.le_of_lt (Heap.lt_size q))
end
theorem en_no_len : typeLookup (.type "enumerate") "__len__" = pure none := by rw [typeLookup_type, builtinLookup_eq_fast]; kernel_rfl
theorem en_no_hint : typeLookup (.type "enumerate") "__length_hint__" = pure none := by rw [typeLookup_type, builtinLookup_eq_fast]; kernel_rfl
section
variable {pgm : Program} {wd : World} {A : Around} {E : Value → Shared → Prop} {s : Shared} {its : List Value} {en it l : Addr}
theorem enl_extend {R : Result → Shared → Prop} (hh : A.handled = none) (kE : IsEnum s.heap en it 0 .none) (kT : s.heap.IsListIter it l 0) (kL : s.heap.IsList l its.toArray) (kN : en ≠ it) (le : l ≠ en) (lt : l ≠ it) (Sx : Addr) (nSe : Sx ≠ en) (nSt : Sx ≠ it) (lS : l ≠ Sx) (res : Value) (c₀ : Nat)
    (kS : s.heap.get? Sx = some { cls := .type "list", data := .seq #[] c₀ }) (hn : its.length ≤ sizeLine)
    (hR : ∀ hw1 tkn acc c as, (∀ b o, b ≠ Sx → b ≠ en → b ≠ it → s.heap.get? b = some o → hw1.get? b = some o) → hw1.get? Sx = some { cls := .type "list", dict := none, data := .seq acc c, slots := #[] } → as.length = its.length → EnG its s.heap.objs.size hw1 as →
      acc.toList = as.map Value.ref → R (.ok (.ret res)) { s with heap := hw1, toks := tkn }) :
    wpAny (model pgm wd) A.in1 (Builtin.List.listExtendWith (.ref Sx) (.ref en) res)
      (fun fin s' => match fin with | .done f => R (.ok f) s' | .again c' => c'.quiet = true ∧ codeAny (model pgm wd) A c' R s') (fun en s' => R (.error en) s') s := by
  have kTy : s.TypeIs (.ref en) "enumerate" := ⟨_, kE, rfl⟩
  unfold Builtin.List.listExtendWith; refine wpAny_bind (wpAny_typeOf kTy ?_)
  have h1 : Builtin.List.listSameRef (.ref Sx) (.ref en) = false := by simp [Builtin.List.listSameRef, nSe]
  have h2 : (Value.type "enumerate" == Value.type "list") = false := by decide
  have h3 : (Value.type "enumerate" == Value.type "tuple") = false := by decide
  simp only [h1, h2, h3, Bool.or_false, Bool.false_eq_true, if_false]
  refine wpAny_bind (wpAny_pyIter_enum kE (wpAny_bind (wpAny_holding ?_)))
  unfold Builtin.List.listLengthHint; refine wpAny_bind (wpAny_specialOf kTy en_no_len ?_)
  show wpAny _ A.in1 (specialOf (Value.ref en) (Str.ofString "__length_hint__") >>= _) _ _ _
  refine wpAny_bind (wpAny_specialOf kTy en_no_hint (wpAny_pure ?_))
  show wpAny _ A.in1 (rule "list.extend.makes-room" >>= fun _ => Builtin.List.listTouch (.ref Sx) >>= fun _ => again (.builtin "list.extend.loop" ⟨[.ref Sx, .ref en, res], []⟩)) _ _ _
  refine wpAny_bind (wpAny_rule (wpAny_bind ?_)); show wpAny _ A.in1 (updateSeq Sx (·.push .none) >>= fun _ => updateSeq Sx (·.pop)) _ _ _
  refine wpAny_bind (wpAny_updateSeq kS rfl ?_)
  have kS2 := Heap.get?_update_self (Obj.mapSeq (·.push Value.none)) kS rfl
  refine wpAny_updateSeq (hz := by seq_fits) kS2 rfl ?_
  have kS3 := Heap.get?_update_self (Obj.mapSeq (·.pop)) kS2 rfl
  have oth : ∀ b o, b ≠ Sx → s.heap.get? b = some o → ((s.heap.update Sx (Obj.mapSeq (·.push Value.none))).update Sx (Obj.mapSeq (·.pop))).get? b = some o :=
    fun b o hb q => (Heap.get?_update_other _ _ (Ne.symm hb)).trans ((Heap.get?_update_other _ _ (Ne.symm hb)).trans q)
  have zz : ((s.heap.update Sx (Obj.mapSeq (·.push Value.none))).update Sx (Obj.mapSeq (·.pop))).objs.size = s.heap.objs.size := by rw [Heap.size_update, Heap.size_update]
  have lE : en < s.heap.objs.size := Heap.lt_size kE
  have lT : it < s.heap.objs.size := by
    obtain ⟨_, q, _⟩ := kT
    exact Heap.lt_size q
  exact wpAny_pure ⟨plainId_quiet PySem.F.plain_extend_loop _, enl_loop (s := s) hh nSe nSt kN lS le lt hn res (h₁ := s.heap) lE lT (Heap.lt_size kS) hR its.length 0 _ s.toks _ #[] [] (Nat.sub_zero _) (Nat.zero_le _)
    (.inl ⟨rfl, oth _ _ (Ne.symm nSe) kE⟩) (kT.at fun o q => oth it o (Ne.symm nSt) q) (kL.at fun o q => oth l o lS q) (fun b o h1 _ _ q => oth b o h1 q) kS3 rfl rfl ⟨List.nodup_nil, (fun _ mha => nomatch mha), (fun j a jh => by simp at jh)⟩ (by rw [zz]; exact Nat.le_refl _)⟩
theorem enl_init {R : Result → Shared → Prop} (hh : A.handled = none) (kE : IsEnum s.heap en it 0 .none) (kT : s.heap.IsListIter it l 0) (kL : s.heap.IsList l its.toArray) (kN : en ≠ it) (le : l ≠ en) (lt : l ≠ it) (Sx : Addr) (nSe : Sx ≠ en) (nSt : Sx ≠ it) (lS : l ≠ Sx)
    (kS : s.heap.get? Sx = some { cls := .type "list", data := .seq #[] }) (hn : its.length ≤ sizeLine)
    (hR : ∀ hw1 tkn acc c as, (∀ b o, b ≠ Sx → b ≠ en → b ≠ it → s.heap.get? b = some o → hw1.get? b = some o) → hw1.get? Sx = some { cls := .type "list", dict := none, data := .seq acc c, slots := #[] } → as.length = its.length → EnG its s.heap.objs.size hw1 as →
      acc.toList = as.map Value.ref → R (.ok (.ret .none)) { s with heap := hw1, toks := tkn }) :
    wpAny (model pgm wd) A.in1 (Builtin.«list.__init__» ⟨[.ref Sx, .ref en], []⟩)
      (fun fin s' => match fin with | .done f => R (.ok f) s' | .again c' => c'.quiet = true ∧ codeAny (model pgm wd) A c' R s') (fun en s' => R (.error en) s') s := by
  show wpAny _ _ (do let old ← Builtin.List.listItems (.ref Sx); Builtin.List.listUpdate (.ref Sx) (fun _ => #[]); letGo old.toList.reverse; Builtin.List.listExtendWith (.ref Sx) (.ref en) .none) _ _ s
  refine wpAny_bind ?_
  unfold Builtin.List.listItems
  refine wpAny_bind (wpAny_seqItems kS rfl (wpAny_pure ?_))
  show wpAny _ _ (updateSeq Sx (fun _ => #[]) >>= fun _ => letGo (#[] : Array Value).toList.reverse >>= fun _ => Builtin.List.listExtendWith (.ref Sx) (.ref en) .none) _ _ s
  refine wpAny_bind (wpAny_updateSeq kS rfl ?_)
  have kS2 := Heap.get?_update_self (Obj.mapSeq (fun _ => (#[] : Array Value))) kS rfl
  have oth : ∀ b o, b ≠ Sx → s.heap.get? b = some o → (s.heap.update Sx (Obj.mapSeq (fun _ => (#[] : Array Value)))).get? b = some o := fun b o hb q => (Heap.get?_update_other _ _ (Ne.symm hb)).trans q
  have zz : (s.heap.update Sx (Obj.mapSeq (fun _ => (#[] : Array Value)))).objs.size = s.heap.objs.size := Heap.size_update ..
  refine wpAny_bind (wpAny_letGo (enl_extend hh (oth _ _ (Ne.symm nSe) kE) (kT.at fun o q => oth it o (Ne.symm nSt) q) (kL.at fun o q => oth l o lS q) kN le lt Sx nSe nSt lS .none _ kS2 hn fun hw1 tkn acc c as kk kS' zl kG kacc => ?_))
  exact hR hw1 tkn acc c as (fun b o h1 h2 h3 q => kk b o h1 h2 h3 (oth b o h1 q)) kS' zl (zz ▸ kG) kacc
theorem call_list_enum {Qk : Value → Shared → Prop} (hh : A.handled = none) (kE : IsEnum s.heap en it 0 .none) (kT : s.heap.IsListIter it l 0) (kL : s.heap.IsList l its.toArray) (kN : en ≠ it) (le : l ≠ en) (lt : l ≠ it) (hn : its.length ≤ sizeLine)
    (hQ : ∀ hw1 tkn acc c as, (∀ b o, b ≠ en → b ≠ it → s.heap.get? b = some o → hw1.get? b = some o) → hw1.get? s.heap.objs.size = some { cls := .type "list", dict := none, data := .seq acc c, slots := #[] } → as.length = its.length → EnG its (s.heap.objs.size + 1) hw1 as →
      acc.toList = as.map Value.ref → Qk (.ref s.heap.objs.size) { s with heap := hw1, toks := tkn }) :
    wpAny (model pgm wd) A (call (.type "list") [.ref en]) Qk E s := by
  refine callType_codes (Q₁ := fun obj s₁ => obj = .ref s.heap.objs.size ∧ s₁ = { s with heap := s.heap.push { cls := .type "list", data := .seq #[] } }) PySem.F.called_list (PySem.F.typeCall_list_1 _) PySem.F.entry_list_init (code_list_new _ ⟨rfl, rfl⟩) fun obj s₁ h₁ => ?_
  obtain ⟨rfl, rfl⟩ := h₁
  have kS : (s.heap.push { cls := .type "list", data := .seq #[] }).get? s.heap.objs.size = some { cls := .type "list", data := .seq #[] } := Heap.get?_push_size _ rfl
  have lE : en < s.heap.objs.size := Heap.lt_size kE
  have lT : it < s.heap.objs.size := by
    obtain ⟨_, q, _⟩ := kT
    exact Heap.lt_size q
  have lL : l < s.heap.objs.size := by
    obtain ⟨_, q, _⟩ := kL
    exact Heap.lt_size q
  refine ⟨⟨_, kS, rfl⟩, PySem.F.args_list_init_2 _ _, enl_init (A := A.in1) hh (Heap.get?_push_of_some _ kE) (kT.at fun o q => Heap.get?_push_of_some _ q) (kL.push _) kN le lt _ (Nat.ne_of_gt lE) (Nat.ne_of_gt lT) (Nat.ne_of_lt lL) kS hn fun hw1 tkn acc c as kk kS' zl kG kacc => ?_⟩
  have zz : (s.heap.push { cls := .type "list", data := .seq #[] }).objs.size = s.heap.objs.size + 1 := Heap.size_push ..
  exact ⟨rfl, hQ hw1 tkn acc c as (fun b o h2 h3 q => kk b o (Nat.ne_of_lt (Heap.lt_size q)) h2 h3 (Heap.get?_push_of_some _ q)) kS' zl (zz ▸ kG) kacc⟩
end
/-! ### the rule -/
def layT (H : Hp) : Nat → List Addr → List V → Hp
  | i, a :: as, x :: xs => upd (layT H (i + 1) as xs) a (.tup [.int (i : Nat), x])
  | _, _, _ => H
theorem layT_ne {H : Hp} {b : Addr} : ∀ {i : Nat} {as : List Addr} {xs : List V}, b ∉ as → layT H i as xs b = H b
  | i, a :: as, x :: xs, hw0 => by
    show upd (layT H (i + 1) as xs) a _ b = _
    rw [upd_ne (fun z => hw0 (by rw [z]; exact List.mem_cons_self))]
    exact layT_ne fun z => hw0 (List.mem_cons_of_mem _ z)
  | _, [], _, _ => rfl
  | _, _ :: _, [], _ => rfl
theorem layT_at {H : Hp} {a : Addr} {x : V} : ∀ {j i : Nat} {as : List Addr} {xs : List V}, as.Nodup → as[j]? = some a → xs[j]? = some x → layT H i as xs a = some (.tup [.int ((i + j : Nat)), x])
  | 0, i, b :: as, y :: xs, _, h1, h2 => by
    cases h1
    cases h2
    exact upd_same
  | j + 1, i, b :: as, y :: xs, nd, h1, h2 => by
    have n := List.nodup_cons.mp nd
    have hm : a ∈ as := List.mem_of_getElem? (show as[j]? = some a from h1)
    show upd (layT H (i + 1) as xs) b _ a = _
    rw [upd_ne (fun z => n.1 (by rw [← z]; exact hm)), layT_at (j := j) n.2 h1 h2]
    have en : i + 1 + j = i + (j + 1) := by omega
    rw [en]
  | _, _, [], _, _, h1, _ => by simp at h1
  | _, _, _ :: _, [], _, _, h2 => by simp at h2
def tListEnum (K : PySem.W.Frag) (ta : TA) : TE := fun σ H Qk => ta σ H fun vs H1 => ∃ a xs, vs = [.ref a] ∧ SqL K H1 a xs ∧
  ∀ (p : Addr) (as : List Addr) (H2 : Hp), H1 p = none → as.length = xs.length → as.Nodup → (∀ b ∈ as, H1 b = none ∧ b ≠ p) → H2 = upd (layT H1 0 as xs) p (.lst (as.map V.ref)) → Qk (.ref p) H2
theorem Vals.refs : ∀ as : List Addr, Vals (as.map V.ref) (as.map Value.ref)
  | [] => .nil
  | _ :: as => .cons rfl (Vals.refs as)
theorem pe_listEnum {X : Cx} {en : Expr} {ta : TA} {p1 p2 pos1 pos2 : Pos} (hc : X.calm = true) (hg1 : Gl X "list") (hm1 : X.mg "list" = none) (hg : Gl X "enumerate") (hm : X.mg "enumerate" = none) (mha : PA X [en] ta) (hs : starEach [en] X.env = [(false, eval en X.env)] := by rfl) :
    PE X (.Call (.Name "list" p1) [.Call (.Name "enumerate" p2) [en] [] pos2] [] pos1) (tListEnum X.K ta) := by
  refine ⟨fun pins s σ H Qk I hw0 => ?_⟩
  refine Call_ (ld_blt I hg1 hm1 PyProof.Rows.boot_list (PyProof.Rows.callWith_type1 (PyProof.Rows.args_cons (Call_ (ld_blt I hg hm boot_enumerate (PyProof.Rows.callWith_type1 (thn (mha.run pos2 pins s σ H _ I hw0) fun us s1 ⟨vs, H1, I1, r1, q1⟩ => ?_) hs rfl))) rfl) rfl rfl))
  obtain ⟨a, xs, ex, hq, q⟩ := q1
  subst ex
  cases r1 with
  | cons r rr =>
    cases rr
    cases r
    obtain ⟨its, rv, p', hz⟩ := I1.list hq
    have hl := rv.length
    refine call_enumerate_list p'.isList fun hw1 kE kT kz kk => PyProof.Rows.args_nil ?_
    have I2 : Inv X pins σ H1 { s1 with heap := hw1 } := I1.kept (t' := s1.toks) kk
    have la : a < s1.heap.objs.size := by
      obtain ⟨_, _, q, _⟩ := p'
      exact Heap.lt_size q
    refine call_list_enum (s := { s1 with heap := hw1 }) (I1.ok.hd hc) kE kT (p'.isList.at fun o q => kk a o q) (Nat.succ_ne_self _) (Nat.ne_of_lt (Nat.lt_succ_of_lt la)) (Nat.ne_of_lt la) (by omega) fun h2 tkn acc c as k2 kS zl kG kacc => ?_
    dsimp only at k2 kS kG ⊢
    have fE : FpOk X pins H1 (s1.heap.objs.size + 1) := I1.fpOk (Nat.le_succ _) (I1.hok.fresh (Nat.le_succ _))
    have fT : FpOk X pins H1 s1.heap.objs.size := I1.fpOk (Nat.le_refl _) (I1.hok.fresh (Nat.le_refl _))
    have kk2 : ∀ b o, s1.heap.get? b = some o → h2.get? b = some o := fun b o q => k2 b o (Nat.ne_of_lt (Nat.lt_succ_of_lt (Heap.lt_size q))) (Nat.ne_of_lt (Heap.lt_size q)) (kk b o q)
    have fr : ∀ b ∈ as, H1 b = none ∧ b ≠ hw1.objs.size := fun b hb => by
      have z := kG.above b hb
      exact ⟨I2.hok.fresh (Nat.le_of_succ_le z), Nat.ne_of_gt z⟩
    have fp : H1 hw1.objs.size = none := I2.hok.fresh (Nat.le_refl _)
    have sm : ∀ b o, H1 b = some o → (upd (layT H1 0 as xs) hw1.objs.size (.lst (as.map V.ref))) b = some o := fun b o q => by
      rw [upd_ne (ne_of_none q fp), layT_ne (fun z => by rw [(fr b z).1] at q; cases q)]
      exact q
    refine ⟨.ref hw1.objs.size, _, I1.un (t' := tkn) (H' := upd (layT H1 0 as xs) hw1.objs.size (.lst (as.map V.ref))) ⟨fun b o z _ _ _ => kk2 b o z, fun b o z _ _ _ => ⟨o.slots, kk2 b o z⟩, fun b o z n _ => ?_, fun b o z _ => ⟨o, kk2 b o z⟩, fun b ys z => sm b _ z, fun b o u z => sm b _ z, fun b ps z => ⟨#[], by rw [sm b _ z]; simp⟩⟩ ?_, rfl, q _ as _ fp (by rw [zl, hl]) kG.nd fr rfl⟩
    · have lb : b < s1.heap.objs.size := Heap.lt_size z
      have lh : s1.heap.objs.size ≤ hw1.objs.size := by rw [kz]; omega
      rw [upd_ne (Nat.ne_of_lt (Nat.lt_of_lt_of_le lb lh)), layT_ne (fun zz => absurd (Nat.lt_of_lt_of_le (Nat.lt_of_lt_of_le lb lh) (Nat.le_of_succ_le (kG.above b zz))) (Nat.lt_irrefl _))]
      exact n
    · intro b u z
      by_cases hb : b = hw1.objs.size
      · subst hb
        rw [upd_same] at z
        cases z
        refine ⟨by rw [List.length_map, zl]; omega, as.map Value.ref, c, Vals.refs as, ?_⟩
        rw [kS, ← kacc]
      · rw [upd_ne hb] at z
        by_cases hm2 : b ∈ as
        · obtain ⟨j, jh⟩ := List.mem_iff_getElem?.mp hm2
          obtain ⟨x, t, e1, e2⟩ := kG.pairs j b jh
          obtain ⟨y, hy⟩ : ∃ y, xs[j]? = some y := by
            have := (List.getElem?_eq_some_iff.mp e1).1
            exact ⟨xs[j], List.getElem?_eq_getElem (by omega)⟩
          obtain ⟨u2, hu, ru⟩ := rv.get hy
          have eu : u2 = x := Option.some.inj (hu.symm.trans e1)
          rw [← eu] at e2
          rw [layT_at kG.nd jh hy] at z
          cases z
          exact ⟨by show 2 ≤ sizeLine; decide, [.int (j : Nat) t, u2], .cons ⟨_, by rw [Nat.zero_add]⟩ (.cons ru .nil), ⟨_, e2, rfl, _, rfl⟩⟩
        · rw [layT_ne hm2] at z
          refine (I1.hok b u z).stay (fun c v _ q => kk2 c v q) (fun c q => sm c _ q) fun c xs q => sm c _ q
end L2

/-! a law that asks for repr of nested data: its frame is the outermost, so nothing else is being shown -/
namespace L2
open PySem PySem.Spec PyProof.Rows
/-- the promise of a def where nothing is being shown around it -/
def FnG (P : Program) (w : World) (K : PySem.W.Frag) (mg : Str → Option Value) (base : Heap) (CX : CXT) (k : Nat) (f : Addr) (fd : FuncData) (ps : List Str) (sp : Sp) : Prop :=
  ∀ (A : Around) (outer : List Env) (s : Shared) (H : Hp) (xa : Args) (us : List Value) (vs : List V) (Q : VK) (E : XK), A.guards = some [] → Room k A → Env0 P w K mg base A outer s H → BindsTo s fd xa (ps.zip us) → Vals vs us → sp vs H Q E →
    codeAny (model P w) A (.call (.ref f) xa) (CR CX outer P w H s Q E) s
theorem fnG_of {P : Program} {w : World} {K : PySem.W.Frag} {mg : Str → Option Value} {base : Heap} {x qual : Str} {st : Stmt} {f : Addr} {fd : FuncData} {N ps : List Str} {k : Nat} {sp : Sp} (F : Fun K x qual st f fd) (S : FnScope N ps (defScope st)) (hlen : ∀ vs H Q E, sp vs H Q E → vs.length = ps.length)
    (hb : ∀ (cdv : Value) (A : Around) (outer : List Env) (s : Shared) (H : Hp) (vs : List V) (Q : VK) (E : XK), A.guards = some [] → Room k (A.deeper (envOfC qual (defScope st) s.heap.objs.size f cdv)) → sp vs H Q E →
      ∃ t, PSs (cxOf CX0 P w K mg base N qual (defScope st) f cdv A outer s H E).nox (defBody st) t ∧ t { nx := fun _ H' => Q .non H', rt := Q } (start N vs) H) : FnG P w K mg base CX0 (k + 1) f fd ps sp := by
  obtain ⟨oc, od, kV, doc, pm, an, cdv, ct, osl, rfl, lk, codeK⟩ := F.ex
  intro A outer s H xa us vs Q E gA rA eA bA vA spA
  have nl := hlen _ _ _ _ spA
  have Kn : K.In s.heap := eA.mod.kin.keeps fun b o q => (eA.bs b o q).1
  have lim : s.heap.NoLimit := eA.mod.nolimit.keeps fun b o q => (eA.bs b o q).1
  have kinds : ∀ y ∈ ps.zip us, (defScope st).names.lookup y.1 = some .local ∨ ((defScope st).names.lookup y.1 = some .cell ∧ ((cellsFrom (s.heap.objs.size + 1) (defScope st).names []).lookup y.1).isSome = true) := by
    rintro ⟨nm, v⟩ hy
    refine (S.par nm (List.of_mem_zip hy).1).imp (fun q => q) fun q => ⟨q, PySem.W.cellsFrom_some _ _ _ (.inl q)⟩
  refine codeAny_call_function rA.depth (Kn _ _ lk) rfl S.co S.gen rfl (PySem.W.codeRec_of Kn codeK) (bA _ _ _ _ (wpAny_newFunctionEnv_cells S.kind kinds fun env he s1 y => ?_))
  subst he
  refine ⟨lim.keeps y.toInCall.keep, codeAny_func ?_⟩
  obtain ⟨t, pt, qt⟩ := hb cdv A outer s H vs Q E gA (rA.deeper _) spA
  have J : Inv (cxOf CX0 P w K mg base N qual (defScope st) f cdv A outer s H E) [] (start N vs) H s1 := inv_start S rA.hd eA nl vA y
  refine wpAny_mono (pt.nox.run [] s1 (start N vs) H _ J qt) (fun fl s' hs => ?_) fun _ _ q => q
  cases fl with
  | ret u =>
    obtain ⟨v, σ', H', J', rv, q⟩ := hs
    exact ⟨v, H', J'.os, J'.bare, J'.base, J'.hok, rv, q⟩
  | next =>
    obtain ⟨σ', H', J', q⟩ := hs
    exact ⟨.non, H', J'.os, J'.bare, J'.base, J'.hok, rfl, q⟩
  | brk => exact (let ⟨_, _, _, q⟩ := hs; q : False).elim
  | cont => exact (let ⟨_, _, _, q⟩ := hs; q : False).elim
section
variable {P : Program} {w : World} {K : PySem.W.Frag} {mg mb : Str → Option Value} {k : Nat} {fa a : Addr} {fd : FuncData} {x : Str} {sp : Sp} {sB : Shared} {vs : List Value} {ns : List Int}
/-- from an abstract heap in which at most the script is tracked -/
theorem lawG_core (KX : K.In sB.heap) (hns : sB.heap.Ns mainGlobals mg) (hb : sB.heap.Ns builtinsNs mb) (hbb : ∀ x : Str, x ≠ "__name__" → mb x = bootBuiltins x) (hlim : sB.heap.NoLimit) (hg : sB.gens = #[])
    (hla : sB.heap.get? a = some { cls := .type "list", data := .seq vs.toArray }) (rK : Room k callerA)
    (F : ∀ base : Heap, K.In base → base.Ns mainGlobals mg → FnG P w K mg base CX0 k fa fd [x] sp) (hbind : ∀ (s : Shared) (u : Value), BindsTo s fd ⟨[u], []⟩ [(x, u)])
    (H : Hp) (onl : Only H) (spH : sp [.ref a] H (fun v _ => v = .bl true) fun _ _ _ => False) (ok : HOk P w H sB.heap) (atA : ∀ b, H b ≠ none → b = a) (noK : H a ≠ none → K.lookup a = none) :
    codeAny (model P w) callerA (.call (.ref fa) ⟨[.ref a], []⟩) (fun r s' => r = .ok (.ret (.bool true)) ∧ OldK sB.heap s'.heap ∧ s'.os = sB.os ∧ AllBare s'.gens) sB := by
  have notD : ∀ {b : Addr} {o : Obj} {es : Array DictEntry} {ep : Nat}, sB.heap.get? b = some o → o.data = .dict es ep → H b = none := by
    intro b o es ep q d
    by_cases z : H b = none
    · exact z
    · have e := atA b z
      subst e
      rw [hla] at q
      cases q
      exact Data.noConfusion d
  have nsG : ∀ {b : Addr} {m : Str → Option Value}, sB.heap.Ns b m → (hidT sB.heap H).Ns b m := by
    rintro b m ⟨o, es, ep, q, d, r⟩
    exact ⟨o, es, ep, hidT_get q (notD q d), d, r⟩
  have inK : K.In (hidT sB.heap H) := by
    intro b o q
    refine hidT_get (KX b o q) ?_
    by_cases z : H b = none
    · exact z
    · have e := atA b z
      subst e
      rw [noK z] at q
      cases q
  have eA : Env0 P w K mg (hidT sB.heap H) callerA [] sB H :=
    ⟨rfl, ⟨inK, nsG hns, ⟨mb, nsG hb, hbb⟩, let ⟨mc, q1, q2⟩ := hlim; ⟨mc, nsG q1, q2⟩⟩, fun b o q => of_hidT q, Nat.le_of_eq (hidT_size _ _), trivial, (fun b q => nomatch (show b ∈ ([] : List Addr) from q)), ok, .of_eq hg⟩
  refine codeAny_mono (F _ inK (nsG hns) callerA [] sB H ⟨[.ref a], []⟩ [.ref a] [.ref a] _ _ rfl rK eA (hbind sB (.ref a)) (.cons rfl .nil) spH) fun r s' q => ?_
  cases r with
  | error e => exact (show False from q).elim
  | ok fl =>
    cases fl with
    | ret u =>
      obtain ⟨v, H', os, bare, un, ok', rv, qv⟩ := q
      cases (show v = .bl true from qv)
      cases (show u = Value.bool true from rv)
      refine ⟨rfl, OldK.of_keep fun b o q => ?_, os, bare⟩
      rcases onl b with z | ⟨ob, xs, z⟩
      · exact un.keep b o q z (fun y => nomatch (show b ∈ ([] : List Addr) from y)) (by simp)
      · have q1 := (ok b _ z).1
        have q2 := (ok' b _ (un.frzs b ob _ z)).1
        rw [q] at q1
        cases q1
        exact q2
    | next => exact (show False from q).elim
    | brk => exact (show False from q).elim
    | cont => exact (show False from q).elim
theorem lawG_call (KX : K.In sB.heap) (hns : sB.heap.Ns mainGlobals mg) (hb : sB.heap.Ns builtinsNs mb) (hbb : ∀ x : Str, x ≠ "__name__" → mb x = bootBuiltins x) (hlim : sB.heap.NoLimit) (hg : sB.gens = #[])
    (hla : sB.heap.get? a = some { cls := .type "list", data := .seq vs.toArray }) (hi : IntsAre vs ns) (hl : ns.length ≤ sizeLine) (rK : Room k callerA)
    (F : ∀ base : Heap, K.In base → base.Ns mainGlobals mg → FnG P w K mg base CX0 k fa fd [x] sp) (hbind : ∀ (s : Shared) (u : Value), BindsTo s fd ⟨[u], []⟩ [(x, u)])
    (hsp : ∀ H : Hp, Only H → SqL K H a (ns.map V.int) → sp [.ref a] H (fun v _ => v = .bl true) fun _ _ _ => False) :
    codeAny (model P w) callerA (.call (.ref fa) ⟨[.ref a], []⟩) (fun r s' => r = .ok (.ret (.bool true)) ∧ OldK sB.heap s'.heap ∧ s'.os = sB.os ∧ AllBare s'.gens) sB := by
  have rv := vals_ints hi
  have nv := hi.length
  by_cases hk : K.lookup a = none
  · have on : (fun b => if b = a then some (HO.frz { cls := .type "list", data := .seq vs.toArray } (.lst (ns.map V.int))) else none : Hp) a = some (.frz { cls := .type "list", data := .seq vs.toArray } (.lst (ns.map V.int))) := if_pos rfl
    have off : ∀ b, b ≠ a → (fun b => if b = a then some (HO.frz { cls := .type "list", data := .seq vs.toArray } (.lst (ns.map V.int))) else none : Hp) b = none := fun b z => if_neg z
    generalize (fun b => if b = a then some (HO.frz { cls := .type "list", data := .seq vs.toArray } (.lst (ns.map V.int))) else none : Hp) = H at on off
    have onl : Only H := fun b => by
      by_cases z : b = a
      · subst z
        exact .inr ⟨_, _, on⟩
      · exact .inl (off b z)
    refine lawG_core KX hns hb hbb hlim hg hla rK F hbind H onl (hsp H onl (.inl (.inr ⟨_, on⟩))) (fun b u q => ?_) (fun b z => ?_) fun _ => hk
    · by_cases z : b = a
      · subst z
        rw [on] at q
        cases q
        exact ⟨hla, by rw [List.length_map]; exact hl, vs, _, rv, hla⟩
      · rw [off b z] at q
        cases q
    · by_cases y : b = a
      · exact y
      · exact absurd (off b y) z
  · obtain ⟨o, ho⟩ := Option.ne_none_iff_exists'.mp hk
    have q := KX a o ho
    rw [hla] at q
    cases q
    exact lawG_core KX hns hb hbb hlim hg hla rK F hbind (fun _ => none) (fun _ => .inl rfl) (hsp _ (fun _ => .inl rfl) (.inr ⟨_, vs.toArray, _, ho, rfl, rfl, rfl, by rw [List.size_toArray, nv]; exact hl, by simpa using rv⟩)) (fun b u z => nomatch (show (none : Option HO) = some u from z)) (fun b z => absurd rfl z) fun z => absurd rfl z
end
theorem walkG_of {l : PySem.W.OpenLaw} {n k : Nat} {q : Program} {lse : List Str} {XQ : (Str → Option Value) → Heap → Prop} {YQ : World → Heap → Prop} {d : DefRec} {K : Params → PySem.W.Frag} {sp : World → Sp} {x : Str}
    (hn : l.most = some n) (nle : n ≤ sizeLine) (dfe : d.params.defaults = []) (rK : Room k callerA) (hY : ∀ (w : World) (h : Heap), YQ w h → (K w.params).In h) (F : ∀ (w : World) (mg : Str → Option Value) (fa : Addr) (h : Heap), (K w.params).In h → h.Ns mainGlobals mg → mg d.name = some (.ref fa) →
      ∃ fd : FuncData, (∀ (s : Shared) (u : Value), BindsTo s fd ⟨[u], []⟩ [(x, u)]) ∧ ∀ base : Heap, (K w.params).In base → base.Ns mainGlobals mg → FnG l.prog w (K w.params) mg base CX0 k fa fd [x] (sp w))
    (hsp : ∀ (w : World) (H : Hp) (a : Addr) (ns : List Int), ns.length ≤ n → Only H → SqL (K w.params) H a (ns.map V.int) → sp w [.ref a] H (fun v _ => v = .bl true) fun _ _ _ => False) :
    PySem.W.WalkO q lse XQ YQ l.row.toRowW d [] (fun f vs => PySem.call f vs) :=
  Att.attach_call hn dfe fun w s₀ sB mg mb fa o pm cd doc a vs ns G Y ho hd hcd hmg hobj hints hlen hg => by
    obtain ⟨fd, bd, ok⟩ := F w mg fa _ (hY w _ Y) G.T.g hmg
    exact lawG_call (hY w _ Y) G.T.g G.T.b G.T.builtins G.T.nolimit hg hobj hints (Nat.le_trans hlen nle) rK ok bd fun H hO hS => hsp w H a ns hlen hO hS
/-! ### repr of nested data -/
theorem call_reprD {X : Cx} (gX : X.A.guards = some []) (hu : X.A.units + 100 < cLine) : CallR X (.builtin "repr") (fun xs H Q => ∃ a d, xs = [.ref a] ∧ Dp X.K H (.ref a) d ∧ d.showable = true ∧ d.hasDict = false ∧ d.depth ≤ 64 ∧ d.shown.length ≤ sizeLine ∧ Q (.str d.shown) H) := by
  intro pns s σ H xs uv Q I r h
  obtain ⟨a, d, rfl, hd, hs, hn, hz, hl, q⟩ := h
  obtain ⟨u, rfl, ru⟩ := vals1 r; cases ru
  obtain ⟨as, rd⟩ := Dp.reads I d _ _ hd rfl
  refine repr_of_reads' rd hs (fun z => by rw [hn] at z; cases z) gX (by omega) (fun _ _ q => q) (fun h' u tk kk => ⟨.str d.shown, H, I.kept kk, ⟨u, rfl⟩, q⟩) hl
end L2

namespace Sg
open PySem
def topS (i : Nat) : Stmt := PySem.Challenge.pw_sugartrue_k03_terms_that_are_alike.main.body.getD i (.Pass ⟨0, 0, 0, 0⟩)
abbrev cInnerTerms : Stmt := topS 1
abbrev cBoundInBody : Stmt := topS 2
abbrev cAlike : Stmt := topS 3
abbrev cBoundTo : Stmt := topS 4
abbrev cSameLeaf : Stmt := topS 5
abbrev sState : Stmt := topS 7
abbrev sDraw : Stmt := topS 8
abbrev sPick : Stmt := topS 9
abbrev sPlain : Stmt := topS 10
abbrev sOrigin : Stmt := topS 11
abbrev sTerm : Stmt := topS 12
abbrev sAgain : Stmt := topS 13
abbrev sLaw : Stmt := topS 14
end Sg

namespace Sg
open PySem PySem.Spec PyProof.Rows L2
/-! ### the law's own helpers -/
structure StAt (H : Hp) (p c : Addr) (xs : List Int) (sd : Int) : Prop where
  hp : H p = some (.lst [.ref c, .int sd])
  hc : H c = some (.lst (xs.map V.int))
  ne : p ≠ c
  len : xs.length ≤ 63
  pos : ∀ x ∈ xs, 0 ≤ x
  s0 : 0 ≤ sd
  s1 : sd < 2147483647
def St (p c : Addr) (H : Hp) : Prop := ∃ xs sd, StAt H p c xs sd
/-- all but the state stands -/
def Kp (p c : Addr) (H H' : Hp) : Prop := ∀ b o, b ≠ p → b ≠ c → H b = some o → H' b = some o
theorem Kp.refl (p c : Addr) (H : Hp) : Kp p c H H := fun _ _ _ _ h => h
theorem Kp.trans {p c : Addr} {H H1 H2 : Hp} (a : Kp p c H H1) (b : Kp p c H1 H2) : Kp p c H H2 := fun x o n m h => b x o n m (a x o n m h)
theorem Same.kp {p c : Addr} {H H' : Hp} (a : Same H H') : Kp p c H H' := fun x o _ _ h => a x o h
theorem St.same {p c : Addr} {H H' : Hp} (a : Same H H') (s : St p c H) : St p c H' := by
  obtain ⟨xs, sd, s⟩ := s
  exact ⟨xs, sd, a _ _ s.hp, a _ _ s.hc, s.ne, s.len, s.pos, s.s0, s.s1⟩
theorem same_new {H : Hp} {p : Addr} (h : H p = none) (o : HO) : Same H (upd H p o) := fun b u q => by rw [upd_ne (ne_of_none q h)]; exact q
theorem same_mut {H H' : Hp} {p : Addr} (e : Same H H') (h : H p = none) (o : HO) : Same H (upd H' p o) := fun b u q => by
  rw [upd_ne (ne_of_none q h)]
  exact e b u q
theorem get_map {α β : Type} {g : α → β} {l : List α} {i : Nat} {y : β} (h : (l.map g)[i]? = some y) : ∃ x, l[i]? = some x ∧ g x = y := by
  rw [List.getElem?_map] at h
  cases e : l[i]? with
  | none =>
    rw [e] at h
    cases h
  | some z =>
    rw [e] at h
    exact ⟨z, rfl, Option.some.inj h⟩
theorem take_map {α β : Type} (g : α → β) {l : List α} {i : Nat} {x : α} (h : l[i]? = some x) : (l.take (i + 1)).map g = (l.take i).map g ++ [g x] := by
  rw [List.take_add_one, h, List.map_append]
  rfl
theorem yes_k {σ : L2.St} {H : Hp} {A B : Bool → Hp → Prop} (h : A true H) : tYes σ H fun b H3 => if b = true then A b H3 else B b H3 := by
  show (if true = true then A true H else B true H)
  rw [if_pos rfl]
  exact h
theorem if_true_of {c : Bool} {A B : Prop} (hc : c = true) (h : A) : if c = true then A else B := by
  rw [if_pos hc]
  exact h
theorem if_false_of {c : Bool} {A B : Prop} (hc : c = false) (h : B) : if c = true then A else B := by
  rw [hc, if_neg Bool.false_ne_true]
  exact h
theorem small {n : Nat} (h : n ≤ 100000) : n ≤ sizeLine := Nat.le_trans h (by decide)
theorem smallL {n : Nat} (h : n ≤ 100000) : n < sizeLine := Nat.lt_of_le_of_lt h (by decide)
section
variable {P : Program} {w : World} {K : PySem.W.Frag} {mg : Str → Option Value} {base : Heap}
def spState (K : PySem.W.Frag) : Sp := fun vs H Q _ => ∃ (a : Addr) (ns : List Int), vs = [.ref a] ∧ SqL K H a (ns.map V.int) ∧ ns.length ≤ 63 ∧
  ∀ H' p c, Same H H' → H p = none → H c = none → St p c H' → Q (.ref p) H'
theorem scState : FnScope ["script", "seed", "cell"] ["script"] (defScope sState) := ⟨rfl, rfl, rfl, by decide +kernel, rfl, by decide +kernel, by decide +kernel⟩
theorem ok_state {f : Addr} {fd : FuncData} {k : Nat} (F : Fun K "_law_state" "_law_state" sState f fd) (mi : mg "int" = none) (ma : mg "abs" = none) : FnOk P w K mg base CX0 (k + 1) f fd ["script"] (spState K) := by
  refine F.ok scState (fun vs H Q E h => ?_) (fun cdv A outer s H vs Q E hr h => ?_)
  · obtain ⟨a, ns, rfl, _⟩ := h
    rfl
  obtain ⟨a, ns, rfl, hS, hlen, q⟩ := h
  refine ⟨_, pss_cons (ps_set (i := 1) scState.nd rfl (.inl rfl) pe_int)
    (pss_cons (ps_for PassesOwn.never rfl (pi_list (pv 0)) (pg_name (i := 2) scState.nd rfl (.inl rfl))
      (pss_one (ps_set (i := 1) scState.nd rfl (.inl rfl) (pe_op op_mod (pe_callTy call_int1 (by rfl) mi (by decide +kernel) (pa_cons (pe_op op_add (pe_op op_mul (pv 1) pe_int) (pv 2)) pa_nil)) pe_int))))
    (pss_one (ps_ret (pe_lst (pa_cons (pe_lc (own := [("cell", 2)]) (g := gName 2) (tt := tYes) rfl scState.nd (pi_list (pv 0)) (blkOk_by (N := ["script", "seed", "cell"]) (sc := defScope sState) (by decide +kernel))
        (fun _ _ _ _ _ => pg_name (i := 2) scState.nd rfl (Or.inl rfl)) (fun _ _ _ _ _ => pts_nil)
        (fun _ _ _ _ _ => pe_callB call_abs (by rfl) ma (by decide +kernel) (pa_cons (pe_callTy call_int1 (by rfl) mi (by decide +kernel) (pa_cons (pv 2) pa_nil)) pa_nil)))
      (pa_cons (pe_op op_add (pv 1) pe_int) pa_nil)))))), ?_⟩
  refine ⟨_, rfl, a, rfl, ⟨_, hS⟩, for_list (K := K) (a := a) (xs := ns.map V.int) (fun i σ H' => ∃ (y : Option V) (sd : Int), σ = [some (.ref a), some (.int sd), y] ∧ 0 ≤ sd ∧ sd < 1000003 ∧ H' = H)
    ⟨none, 7, rfl, by decide, by decide, rfl⟩ (fun i σ H' _ ⟨_, _, _, _, _, e⟩ => e ▸ hS) ?_ ?_⟩
  · rintro i x σ H' hx ⟨y, sd, rfl, h0, h1, rfl⟩
    obtain ⟨z, hz, rfl⟩ := get_map hx
    refine ⟨_, rfl, _, _, rfl, rfl, .inl ⟨by omega, by omega⟩, _, rfl, _, _, rfl, rfl, .inl ⟨_, rfl, _, _, rfl, rfl, (by show (0 : Int) < 1000003; decide), ?_⟩⟩
    exact ⟨some (.int z), (sd * 31 + z) % 1000003, rfl, Int.emod_nonneg _ (by decide), Int.emod_lt_of_pos _ (by decide), rfl⟩
  · rintro σ H' ⟨y, sd, rfl, h0, h1, rfl⟩
    refine ⟨_, rfl, a, rfl, ⟨_, hS⟩, fun D hD => ?_⟩
    refine lc_list (K := K) (a := a) (xs := ns.map V.int) (fun i H2 => Same H' H2 ∧ H2 D = some (.lst ((ns.take i).map fun n => V.int (if n < 0 then -n else n)))) ⟨same_new hD _, upd_same⟩ (fun i H2 _ e => e.1.seq hS) ?_ ?_
    · rintro i x H2 hx ⟨sm, eD⟩
      obtain ⟨z, hz, rfl⟩ := get_map hx
      refine ⟨rfl, yes_k ⟨_, rfl, .inl ⟨z, rfl, z, rfl, _, eD, ?_, same_mut sm hD _, ?_⟩⟩⟩
      · rw [List.length_map, List.length_take]
        exact smallL (by omega)
      · rw [upd_same, take_map _ hz]
    · rintro H2 ⟨sm, eD⟩
      rw [List.length_map, List.take_length] at eD
      refine ⟨_, rfl, _, _, rfl, rfl, (by show 2 ≤ sizeLine; decide), fun p hp => ?_⟩
      have npD : p ≠ D := fun e => by
        rw [e, eD] at hp
        cases hp
      refine q _ p D (sm.trans (same_new hp _)) (sm.free hp) hD ⟨ns.map fun n => if n < 0 then -n else n, sd + 1, upd_same, ?_, npD, ?_, fun x hx => ?_, by omega, by omega⟩
      · rw [upd_ne (Ne.symm npD), eD, List.map_map]
        rfl
      · rw [List.length_map]
        exact hlen
      · obtain ⟨n, _, rfl⟩ := List.mem_map.mp hx
        by_cases c : n < 0
        · rw [if_pos c]
          omega
        · rw [if_neg c]
          omega
end
end Sg

namespace Sg
open PySem PySem.Spec PyProof.Rows L2
section
variable {P : Program} {w : World} {K : PySem.W.Frag} {mg : Str → Option Value} {base : Heap}
/-- draw(state, many): a number below many; of what stood only the state's two lists change -/
def spDraw : Sp := fun vs H Q _ => ∃ (p c : Addr) (m : Int), vs = [.ref p, .int m] ∧ 0 < m ∧ m < 1073741824 ∧ St p c H ∧
  ∀ H' r, Kp p c H H' → St p c H' → 0 ≤ r → r < m → Q (.int r) H'
theorem scDraw : FnScope ["state", "many", "cells", "value", "mixed"] ["state", "many"] (defScope sDraw) := ⟨rfl, rfl, rfl, by decide +kernel, rfl, by decide +kernel, by decide +kernel⟩
theorem at0 {v : V} {r : List V} : atI (v :: r) 0 = some v := atI_nat (j := 0) rfl
theorem at1 {u v : V} {r : List V} : atI (u :: v :: r) 1 = some v := atI_nat (j := 1) rfl
/-- a store at p or c -/
theorem Kp.put {p c a : Addr} {H H' : Hp} (k : Kp p c H H') (ha : a = p ∨ a = c) (o : HO) : Kp p c H (upd H' a o) := fun b u nb nc e => by
  rw [upd_ne (fun z => by rcases ha with h | h; exact nb (z.trans h); exact nc (z.trans h))]
  exact k b u nb nc e
theorem Kp.mut {p c a : Addr} {H H' : Hp} (k : Kp p c H H') (ha : H a = none) (o : HO) : Kp p c H (upd H' a o) := fun b u nb nc e => by
  rw [upd_ne (ne_of_none e ha)]
  exact k b u nb nc e
theorem St.put {p c a : Addr} {H : Hp} (s : St p c H) (h1 : a ≠ p) (h2 : a ≠ c) (o : HO) : St p c (upd H a o) := by
  obtain ⟨xs, sd, s⟩ := s
  exact ⟨xs, sd, by rw [upd_ne (Ne.symm h1)]; exact s.hp, by rw [upd_ne (Ne.symm h2)]; exact s.hc, s.ne, s.len, s.pos, s.s0, s.s1⟩
/-- a new place is none of the state's -/
theorem St.new {p c a : Addr} {H : Hp} (s : St p c H) (h : H a = none) : a ≠ p ∧ a ≠ c := by
  obtain ⟨xs, sd, s⟩ := s
  exact ⟨fun e => (by rw [e, s.hp] at h; cases h), fun e => (by rw [e, s.hc] at h; cases h)⟩
theorem Kp.free {p c a : Addr} {H H' : Hp} (k : Kp p c H H') (s : St p c H') (h : H' a = none) : H a = none := by
  have n := s.new h
  cases e : H a with
  | none => rfl
  | some u =>
    rw [k a u n.1 n.2 e] at h
    cases h
theorem StAt.cells {H : Hp} {p c : Addr} {xs ys : List Int} {sd : Int} (s : StAt H p c xs sd) (hl : ys.length ≤ 63) (hp : ∀ x ∈ ys, 0 ≤ x) : StAt (upd H c (.lst (ys.map V.int))) p c ys sd :=
  ⟨by rw [upd_ne s.ne]; exact s.hp, upd_same, s.ne, hl, hp, s.s0, s.s1⟩
theorem StAt.seed {H : Hp} {p c : Addr} {xs : List Int} {sd n : Int} (s : StAt H p c xs sd) (h0 : 0 ≤ n) (h1 : n < 2147483647) : StAt (upd H p (.lst [.ref c, .int n])) p c xs n :=
  ⟨upd_same, by rw [upd_ne (Ne.symm s.ne)]; exact s.hc, s.ne, s.len, s.pos, h0, h1⟩
theorem ok_draw {f : Addr} {fd : FuncData} {k : Nat} (F : Fun K "_law_draw" "_law_draw" sDraw f fd) (mi : mg "int" = none) (ml : mg "len" = none) : FnOk P w K mg base CX0 (k + 1) f fd ["state", "many"] spDraw := by
  refine F.ok scDraw (fun vs H Q E h => ?_) (fun cdv A outer s H vs Q E hr h => ?_)
  · obtain ⟨p, c, m, rfl, _⟩ := h
    rfl
  obtain ⟨p, c, m, rfl, hm0, hm1, ⟨xs, sd, S⟩, q⟩ := h
  refine ⟨_, pss_cons (ps_set (i := 2) scDraw.nd rfl (.inl rfl) (pe_ix ix_list (pv 0) pe_int (fun _ _ => rfl)))
    (pss_cons (ps_while PassesOwn.never (pw_and (pt_cmpR op_gt (pe_callB call_len_seq (by rfl) ml PySem.boot_len (pa_cons (pv 2) pa_nil)) pe_int (nomark _)) (pw_and1 (pt_cmpR op_eq (pe_ix ix_list (pv 2) pe_int (fun _ _ => rfl)) pe_int (nomark _)))).pt
      (pss_one (ps_expr (pe_bm PySem.F.plainAttrs_list PySem.F.slot_list_pop PySem.F.type_list_pop mt_popAt (pv 2) (pa_cons pe_int pa_nil)))))
    (pss_cons (ps_if (pt_cmpR op_gt (pe_callB call_len_seq (by rfl) ml PySem.boot_len (pa_cons (pv 2) pa_nil)) pe_int (nomark _))
      (pss_cons (ps_set (i := 3) scDraw.nd rfl (.inl rfl) (pe_ix ix_list (pv 2) pe_int (fun _ _ => rfl)))
      (pss_cons (ps_asg (pe_op op_fdivW (pv 3) (pv 1)) (pg_sub (pv 2) pe_int set_list (fun _ => rfl)))
      (pss_one (ps_ret (pe_op op_mod (pe_callTy call_int1 (by rfl) mi (by decide +kernel) (pa_cons (pv 3) pa_nil)) (pv 1)))))) pss_nil)
    (pss_cons (ps_set (i := 4) scDraw.nd rfl (.inl rfl) (pe_op op_mod (pe_callTy call_int1 (by rfl) mi (by decide +kernel) (pa_cons (pe_op op_add (pe_op op_mul (pe_ix ix_list (pv 0) pe_int (fun _ _ => rfl)) pe_int) pe_int) pa_nil)) pe_int))
    (pss_cons (ps_asg (pv 4) (pg_sub (pv 0) pe_int set_list (fun _ => rfl)))
    (pss_one (ps_ret (pe_op op_mod (pe_callTy call_int1 (by rfl) mi (by decide +kernel) (pa_cons (pe_op op_fdiv (pv 4) pe_int) pa_nil)) (pv 1)))))))), ?_⟩
  refine ⟨_, rfl, p, _, 0, .ref c, rfl, rfl, SqL.of S.hp, at0, ?_⟩
  refine ⟨fun n σ H' => ∃ (xs : List Int) (sd : Int), σ = [some (.ref p), some (.int m), some (.ref c), none, none] ∧ StAt H' p c xs sd ∧ Kp p c H H' ∧ n = xs.length, ⟨_, xs, sd, rfl, S, Kp.refl p c H, rfl⟩, ?_⟩
  rintro n σ H' ⟨xs, sd, rfl, S, kp, rfl⟩
  refine ⟨_, rfl, c, _, rfl, .inl (SqL.of S.hc), _, _, rfl, rfl, _, rfl, ?_⟩
  cases xs with
  | nil =>
    refine if_false_of (by simp) ?_
    refine if_false_of rfl ?_
    refine ⟨_, rfl, c, _, rfl, .inl (SqL.of S.hc), _, _, rfl, rfl, _, rfl, ?_⟩
    refine if_false_of (by simp) ?_
    refine ⟨_, rfl, p, _, 1, .int sd, rfl, rfl, SqL.of S.hp, at1, _, _, rfl, rfl, .inl ⟨by have := S.s0; omega, by have := S.s1; omega⟩, _, _, rfl, rfl, .inl ⟨_, rfl, _, _, rfl, rfl, (by show (0 : Int) < 2147483647; decide), ?_⟩⟩
    refine ⟨_, rfl, _, rfl, p, _, 1, 1, rfl, rfl, S.hp, rfl, ?_⟩
    refine ⟨_, rfl, _, _, rfl, rfl, ⟨by decide, by decide⟩, .inl ⟨_, rfl, _, rfl, _, _, rfl, rfl, hm0, ?_⟩⟩
    refine q _ _ (kp.put (.inl rfl) _) ⟨[], _, S.seed (Int.emod_nonneg _ (by decide)) (Int.emod_lt_of_pos _ (by decide))⟩ (Int.emod_nonneg _ (by omega)) (Int.emod_lt_of_pos _ hm0)
  | cons x r =>
    refine if_true_of (by simp) ?_
    refine ⟨_, rfl, c, _, 0, .int x, rfl, rfl, SqL.of S.hc, at0, rfl, _, rfl, ?_⟩
    by_cases hx : x = 0
    · refine if_true_of (by simp [hx]) ?_
      refine ⟨_, fun _ _ z => z, ?_⟩
      refine ⟨_, rfl, .inl ⟨rfl, _, SqL.of S.hc⟩, c, _, 0, 0, .int x, rfl, rfl, S.hc, by decide, by decide, ?_, rfl, ?_⟩
      · simp [seqIndex?]
      · refine ⟨r.length, Nat.lt_succ_self _, r, sd, rfl, S.cells ?_ ?_, kp.put (.inr rfl) _, rfl⟩
        · have := S.len
          rw [List.length_cons] at this
          omega
        · exact fun y hy => S.pos y (List.mem_cons_of_mem _ hy)
    · refine if_false_of (by simp [hx]) ?_
      refine ⟨_, rfl, c, _, rfl, .inl (SqL.of S.hc), _, _, rfl, rfl, _, rfl, ?_⟩
      refine if_true_of (by simp) ?_
      refine ⟨_, rfl, c, _, 0, .int x, rfl, rfl, SqL.of S.hc, at0, ?_⟩
      refine ⟨_, rfl, _, rfl, _, _, rfl, rfl, wide_div (b := 30) hm0 (by omega) (by decide) (by decide), _, rfl, c, _, 0, 0, rfl, rfl, S.hc, ?_, ?_⟩
      · simp [ixN]
      · refine ⟨_, rfl, .inl ⟨_, rfl, _, rfl, _, _, rfl, rfl, hm0, ?_⟩⟩
        have St2 : ((x / m) :: r).length ≤ 63 → (∀ y ∈ (x / m) :: r, 0 ≤ y) → StAt (upd H' c (.lst ((List.map V.int (x :: r)).set 0 (.int (x / m))))) p c ((x / m) :: r) sd := fun a b => S.cells a b
        refine q _ _ (kp.put (.inr rfl) _) ⟨(x / m) :: r, sd, St2 ?_ ?_⟩ (Int.emod_nonneg _ (by omega)) (Int.emod_lt_of_pos _ hm0)
        · have := S.len
          rw [List.length_cons] at this ⊢
          exact this
        · intro y hy
          rcases List.mem_cons.mp hy with e | e
          · rw [e]
            exact Int.ediv_nonneg (S.pos x List.mem_cons_self) (by omega)
          · exact S.pos y (List.mem_cons_of_mem _ e)
end
end Sg

namespace Sg
open PySem PySem.Spec PyProof.Rows L2
section
variable {P : Program} {w : World} {K : PySem.W.Frag} {mg : Str → Option Value} {base : Heap}
/-- pick(state, row): one of the row's items -/
def spPick : Sp := fun vs H Q _ => ∃ (p c b : Addr) (xs : List V), vs = [.ref p, .ref b] ∧ H b = some (.lst xs) ∧ b ≠ p ∧ b ≠ c ∧ xs ≠ [] ∧ xs.length ≤ 1000 ∧ St p c H ∧
  ∀ H' v, Kp p c H H' → St p c H' → v ∈ xs → Q v H'
theorem scPick : FnScope ["state", "row"] ["state", "row"] (defScope sPick) := ⟨rfl, rfl, rfl, by decide +kernel, rfl, by decide +kernel, by decide +kernel⟩
theorem ok_pick {f fD : Addr} {fd fdD : FuncData} {k : Nat} (F : Fun K "_law_pick" "_law_pick" sPick f fd) (G : FnOk P w K mg base CX0 k fD fdD ["state", "many"] spDraw) (bD : Binds K fdD ["state", "many"] []) (kD : PySem.W.keepIn K (.ref fD) = true)
    (mD : mg "_law_draw" = some (.ref fD)) (ml : mg "len" = none) : FnOk P w K mg base CX0 (k + 1) f fd ["state", "row"] spPick := by
  refine F.ok scPick (fun vs H Q E h => ?_) (fun cdv A outer s H vs Q E hr h => ?_)
  · obtain ⟨p, c, b, xs, rfl, _⟩ := h
    rfl
  obtain ⟨p, c, b, xs, rfl, hb, nbp, nbc, hne, hlen, S, q⟩ := h
  refine ⟨_, pss_one (ps_ret (pe_ix ix_list (pv 1) (pe_call G hr (by rfl) mD kD bD .nil pass0 (pa_cons (pv 0) (pa_cons (pe_callB call_len_seq (by rfl) ml PySem.boot_len (pa_cons (pv 1) pa_nil)) pa_nil))) (fun _ _ => rfl))), ?_⟩
  have hl : 0 < xs.length := List.length_pos_iff.mpr hne
  refine ⟨_, rfl, _, rfl, _, rfl, b, _, rfl, .inl (SqL.of hb), p, c, _, rfl, ?_, ?_, S, fun H' r kp S' h0 h1 => ?_⟩
  · omega
  · omega
  · obtain ⟨n, rfl⟩ : ∃ n : Nat, r = n := ⟨r.toNat, by omega⟩
    have hn : n < xs.length := by omega
    refine ⟨b, xs, n, xs[n], rfl, rfl, SqL.of (kp b _ nbp nbc hb), atI_nat (List.getElem?_eq_getElem hn), q H' _ kp S' (List.getElem_mem hn)⟩
end
end Sg

namespace Sg
open PySem PySem.Spec PyProof.Rows L2
/-! ### helpers of any law: what stands, what is new -/
/-- the heap but for these -/
def rmL (bs : List Addr) (H : Hp) : Hp := fun a => if a ∈ bs then none else H a
theorem rm_in {bs : List Addr} {H : Hp} {a : Addr} {o : HO} (n : a ∉ bs) (h : H a = some o) : rmL bs H a = some o := by
  unfold rmL
  rw [if_neg n]
  exact h
theorem rm_of {bs : List Addr} {H : Hp} {a : Addr} {o : HO} (h : rmL bs H a = some o) : a ∉ bs ∧ H a = some o := by
  unfold rmL at h
  by_cases z : a ∈ bs
  · rw [if_pos z] at h
    cases h
  · rw [if_neg z] at h
    exact ⟨z, h⟩
theorem rm_sub {bs : List Addr} {H : Hp} : Same (rmL bs H) H := fun b o h => (rm_of h).2
/-- all but these stand -/
def Kb (bs : List Addr) (H H' : Hp) : Prop := ∀ b o, b ∉ bs → H b = some o → H' b = some o
theorem Kb.refl (bs : List Addr) (H : Hp) : Kb bs H H := fun _ _ _ h => h
theorem Kb.trans {bs : List Addr} {H H1 H2 : Hp} (a : Kb bs H H1) (b : Kb bs H1 H2) : Kb bs H H2 := fun x o n h => b x o n (a x o n h)
theorem Same.kb {bs : List Addr} {H H' : Hp} (a : Same H H') : Kb bs H H' := fun x o _ h => a x o h
theorem Kb.wide {bs cs : List Addr} {H H' : Hp} (a : Kb bs H H') (h : ∀ b ∈ bs, b ∈ cs) : Kb cs H H' := fun x o n q => a x o (fun z => n (h x z)) q
theorem Kb.rm {bs cs : List Addr} {H H' : Hp} (a : Kb bs H H') (h : ∀ b ∈ bs, b ∈ cs) : Same (rmL cs H) (rmL cs H') := fun x o q => by
  have z := rm_of q
  exact rm_in z.1 (a x o (fun y => z.1 (h x y)) z.2)
theorem rm_cut {bs cs : List Addr} {H : Hp} (h : ∀ b ∈ bs, b ∈ cs) : Same (rmL cs H) (rmL bs H) := fun x o q => by
  have z := rm_of q
  exact rm_in (fun y => z.1 (h x y)) z.2
theorem Kp.kb {p c : Addr} {H H' : Hp} (a : Kp p c H H') : Kb [p, c] H H' := fun x o n h => a x o (fun z => n (by simp [z])) (fun z => n (by simp [z])) h
theorem Kb.kp {p c : Addr} {H H' : Hp} (a : Kb [p, c] H H') : Kp p c H H' := fun x o n1 n2 h => a x o (by simp [n1, n2]) h
theorem Kb.put {bs : List Addr} {H H' : Hp} {a : Addr} (k : Kb bs H H') (h : a ∈ bs) (o : HO) : Kb bs H (upd H' a o) := fun x u n q => by
  rw [upd_ne (fun z => n (by rw [z]; exact h))]
  exact k x u n q
theorem Kb.new {bs : List Addr} {H H' : Hp} {a : Addr} (k : Kb bs H H') (h : H a = none) (o : HO) : Kb bs H (upd H' a o) := fun x u n q => by
  rw [upd_ne (ne_of_none q h)]
  exact k x u n q
theorem Kb.free {bs : List Addr} {H H' : Hp} {a : Addr} (k : Kb bs H H') (n : a ∉ bs) (h : H' a = none) : H a = none := by
  cases e : H a with
  | none => rfl
  | some u =>
    rw [k a u n e] at h
    cases h
/-! ### what stands and is no list of before -/
def nl (H H' : Hp) : Hp := fun a => match H a with
  | some (.lst _) => none
  | _ => H' a
theorem nl_in {H H' : Hp} {a : Addr} {o : HO} (n : ∀ xs, H a ≠ some (.lst xs)) (h : H' a = some o) : nl H H' a = some o := by
  unfold nl
  split
  · rename_i xs e
    exact absurd e (n xs)
  · exact h
theorem nl_of {H H' : Hp} {a : Addr} {o : HO} (h : nl H H' a = some o) : (∀ xs, H a ≠ some (.lst xs)) ∧ H' a = some o := by
  unfold nl at h
  split at h
  · cases h
  · rename_i n
    exact ⟨fun xs e => n xs e, h⟩
theorem nl_new {H H' : Hp} {a : Addr} {o : HO} (n : H a = none) (h : H' a = some o) : nl H H' a = some o := nl_in (fun xs e => by rw [n] at e; cases e) h
/-- lists stay lists -/
def Ls (H H1 : Hp) : Prop := ∀ a xs, H a = some (.lst xs) → ∃ ys, H1 a = some (.lst ys)
theorem Ls.refl (H : Hp) : Ls H H := fun _ xs e => ⟨xs, e⟩
theorem Ls.trans {H H1 H2 : Hp} (a : Ls H H1) (b : Ls H1 H2) : Ls H H2 := fun x xs e => by
  obtain ⟨ys, q⟩ := a x xs e
  exact b x ys q
theorem Same.ls {H H1 : Hp} (a : Same H H1) : Ls H H1 := fun x xs e => ⟨xs, a _ _ e⟩
theorem nl_base {H H1 H' : Hp} (h : Ls H H1) : Same (nl H1 H') (nl H H') := fun b o q => by
  have z := nl_of q
  refine nl_in (fun xs e => ?_) z.2
  obtain ⟨ys, y⟩ := h b xs e
  exact z.1 ys y
theorem nl_grow {H H' H'' : Hp} (h : ∀ b o, (∀ xs, H b ≠ some (.lst xs)) → H' b = some o → H'' b = some o) : Same (nl H H') (nl H H'') := fun b o q => by
  have z := nl_of q
  exact nl_in z.1 (h b o z.1 z.2)
theorem nl_sub {H H' : Hp} : Same (nl H H') H' := fun _ _ q => (nl_of q).2
theorem nl_put {H H' : Hp} {D : Addr} {xs : List V} (h : H D = some (.lst xs)) (o : HO) : Same (nl H H') (nl H (upd H' D o)) := nl_grow fun b u n q => by
  rw [upd_ne (fun e => n xs (by rw [e]; exact h))]
  exact q
theorem nl_fresh {H H' : Hp} {t : Addr} (h : H' t = none) (o : HO) : Same (nl H H') (nl H (upd H' t o)) := nl_grow fun b u _ q => same_new h o b u q
theorem St.lsts {p c : Addr} {H : Hp} (s : St p c H) : (∃ xs, H p = some (.lst xs)) ∧ ∃ xs, H c = some (.lst xs) := by
  obtain ⟨xs, sd, s⟩ := s
  exact ⟨⟨_, s.hp⟩, ⟨_, s.hc⟩⟩
theorem Kp.nl {p c : Addr} {H H' H'' : Hp} (S : St p c H) (k : Kp p c H' H'') : Same (Sg.nl H H') (Sg.nl H H'') := nl_grow fun b o n q => by
  obtain ⟨⟨x1, e1⟩, ⟨x2, e2⟩⟩ := S.lsts
  exact k b o (fun z => n x1 (by rw [z]; exact e1)) (fun z => n x2 (by rw [z]; exact e2)) q
theorem Kp.ls {p c : Addr} {H H' : Hp} (k : Kp p c H H') (S' : St p c H') : Ls H H' := fun a xs e => by
  obtain ⟨⟨x1, e1⟩, ⟨x2, e2⟩⟩ := S'.lsts
  by_cases h1 : a = p
  · exact ⟨x1, by rw [h1]; exact e1⟩
  · by_cases h2 : a = c
    · exact ⟨x2, by rw [h2]; exact e2⟩
    · exact ⟨xs, k a _ h1 h2 e⟩
theorem str_ne {x y : Str} (h : x ≠ y) : decide (V.str x = V.str y) = false := decide_eq_false fun e => h (by injection e)
theorem str_eq {x : Str} : decide (V.str x = V.str x) = true := decide_eq_true rfl
theorem Kb.nl {bs : List Addr} {H H' H'' : Hp} (h : ∀ b ∈ bs, ∃ xs, H b = some (.lst xs)) (k : Kb bs H' H'') : Same (Sg.nl H H') (Sg.nl H H'') := nl_grow fun b o n q => k b o (fun z => by
  obtain ⟨xs, e⟩ := h b z
  exact n xs e) q
theorem Kb.ls {bs : List Addr} {H H' : Hp} (k : Kb bs H H') (h : ∀ b ∈ bs, ∃ xs, H' b = some (.lst xs)) : Ls H H' := fun a xs e => by
  by_cases z : a ∈ bs
  · exact h a z
  · exact ⟨xs, k a _ z e⟩
theorem Ls.put {H H' : Hp} {D : Addr} {xs : List V} (h : Ls H H') : Ls H (upd H' D (.lst xs)) := fun a ys e => by
  obtain ⟨zs, q⟩ := h a ys e
  by_cases z : a = D
  · exact ⟨xs, by rw [z, upd_same]⟩
  · exact ⟨zs, by rw [upd_ne z]; exact q⟩
/-- what stands at the entry and is not written -/
def Frz (bs : List Addr) (F H : Hp) : Prop := Same F H ∧ ∀ b ∈ bs, F b = none
theorem Frz.up {bs cs : List Addr} {F H H' : Hp} (f : Frz bs F H) (k : Kb cs H H') (h : ∀ b ∈ cs, F b = none) : Frz bs F H' := ⟨fun b o q => k b o (fun z => by rw [h b z] at q; cases q) (f.1 b o q), f.2⟩
theorem nl_rm {H H' : Hp} {bs : List Addr} (h : ∀ b ∈ bs, ∃ xs, H b = some (.lst xs)) : Same (nl H H') (rmL bs H') := fun b o q => by
  have z := nl_of q
  refine rm_in (fun y => ?_) z.2
  obtain ⟨xs, e⟩ := h b y
  exact z.1 xs e
theorem St.kb {bs : List Addr} {p c : Addr} {H H' : Hp} (s : St p c H) (k : Kb bs H H') (h1 : p ∉ bs) (h2 : c ∉ bs) : St p c H' := by
  obtain ⟨xs, sd, s⟩ := s
  exact ⟨xs, sd, k _ _ h1 s.hp, k _ _ h2 s.hc, s.ne, s.len, s.pos, s.s0, s.s1⟩
theorem same_upd {F H : Hp} {t : Addr} {o : HO} (h : Same F H) : Same (upd F t o) (upd H t o) := fun b u q => by
  by_cases z : b = t
  · rw [z, upd_same] at q ⊢
    exact q
  · rw [upd_ne z] at q ⊢
    exact h b u q
end Sg

namespace Sg
open PySem PySem.Spec PyProof.Rows L2
/-! ### terms, and what stands of them in the heap -/
structure Og where
  u : Int
  rs : List Int
  h : Int
def OgAt (F : Hp) (o : Og) (v : V) : Prop := ∃ a b, v = .ref a ∧ F a = some (.tup [.int o.u, .ref b, .int o.h]) ∧ F b = some (.tup (o.rs.map V.int))
def OgOk (o : Og) : Prop := o.u.natAbs ≤ 1000 ∧ o.rs.length ≤ 4 ∧ (∀ r ∈ o.rs, r.natAbs ≤ 1000) ∧ o.h.natAbs ≤ 1000
theorem OgAt.same {F F' : Hp} {o : Og} {v : V} (e : Same F F') (h : OgAt F o v) : OgAt F' o v := by
  obtain ⟨a, b, h1, h2, h3⟩ := h
  exact ⟨a, b, h1, e _ _ h2, e _ _ h3⟩
inductive Tm where
  | int (n : Int) (o : Og)
  | prim (s : Str) (o : Og)
  | ref (i : Int) (o : Og)
  | fn (ids : List Int) (b : Tm) (o : Og)
  | rc (i : Int) (ids : List Int) (b : Tm) (o : Og)
  | lt (i : Int) (x b : Tm) (o : Og)
  | ite (a b c : Tm) (o : Og)
  | app (f : Tm) (xs : List Tm) (o : Og)
  | pair (a b : Tm) (o : Og)
mutual
def TmAt (F : Hp) : Tm → V → Prop
  | .int n o, v => ∃ a w, v = .ref a ∧ F a = some (.tup [.str "int", .int n, w]) ∧ OgAt F o w
  | .prim s o, v => ∃ a w, v = .ref a ∧ F a = some (.tup [.str "prim", .str s, w]) ∧ OgAt F o w
  | .ref i o, v => ∃ a w, v = .ref a ∧ F a = some (.tup [.str "ref", .int i, w]) ∧ OgAt F o w
  | .fn ids b o, v => ∃ a l u w, v = .ref a ∧ F a = some (.tup [.str "fn", .ref l, u, w]) ∧ F l = some (.lst (ids.map V.int)) ∧ TmAt F b u ∧ OgAt F o w
  | .rc i ids b o, v => ∃ a l u w, v = .ref a ∧ F a = some (.tup [.str "rec", .int i, .ref l, u, w]) ∧ F l = some (.lst (ids.map V.int)) ∧ TmAt F b u ∧ OgAt F o w
  | .lt i x b o, v => ∃ a u1 u2 w, v = .ref a ∧ F a = some (.tup [.str "let", .int i, u1, u2, w]) ∧ TmAt F x u1 ∧ TmAt F b u2 ∧ OgAt F o w
  | .ite x y z o, v => ∃ a u1 u2 u3 w, v = .ref a ∧ F a = some (.tup [.str "if", u1, u2, u3, w]) ∧ TmAt F x u1 ∧ TmAt F y u2 ∧ TmAt F z u3 ∧ OgAt F o w
  | .app f xs o, v => ∃ a u l vs w, v = .ref a ∧ F a = some (.tup [.str "app", u, .ref l, w]) ∧ F l = some (.lst vs) ∧ TmAt F f u ∧ TmsAt F xs vs ∧ OgAt F o w
  | .pair x y o, v => ∃ a u1 u2 w, v = .ref a ∧ F a = some (.tup [.str "pair", u1, u2, w]) ∧ TmAt F x u1 ∧ TmAt F y u2 ∧ OgAt F o w
def TmsAt (F : Hp) : List Tm → List V → Prop
  | [], vs => vs = []
  | t :: ts, vs => ∃ v r, vs = v :: r ∧ TmAt F t v ∧ TmsAt F ts r
end
mutual
theorem TmAt.same {F F' : Hp} (e : Same F F') : ∀ (t : Tm) (v : V), TmAt F t v → TmAt F' t v
  | .int n o, v, h => by
    unfold TmAt at h ⊢
    obtain ⟨a, w, h1, h2, h3⟩ := h
    exact ⟨a, w, h1, e _ _ h2, h3.same e⟩
  | .prim s o, v, h => by
    unfold TmAt at h ⊢
    obtain ⟨a, w, h1, h2, h3⟩ := h
    exact ⟨a, w, h1, e _ _ h2, h3.same e⟩
  | .ref i o, v, h => by
    unfold TmAt at h ⊢
    obtain ⟨a, w, h1, h2, h3⟩ := h
    exact ⟨a, w, h1, e _ _ h2, h3.same e⟩
  | .fn ids b o, v, h => by
    unfold TmAt at h ⊢
    obtain ⟨a, l, u, w, h1, h2, h3, h4, h5⟩ := h
    exact ⟨a, l, u, w, h1, e _ _ h2, e _ _ h3, TmAt.same e b u h4, h5.same e⟩
  | .rc i ids b o, v, h => by
    unfold TmAt at h ⊢
    obtain ⟨a, l, u, w, h1, h2, h3, h4, h5⟩ := h
    exact ⟨a, l, u, w, h1, e _ _ h2, e _ _ h3, TmAt.same e b u h4, h5.same e⟩
  | .lt i x b o, v, h => by
    unfold TmAt at h ⊢
    obtain ⟨a, u1, u2, w, h1, h2, h3, h4, h5⟩ := h
    exact ⟨a, u1, u2, w, h1, e _ _ h2, TmAt.same e x u1 h3, TmAt.same e b u2 h4, h5.same e⟩
  | .ite x y z o, v, h => by
    unfold TmAt at h ⊢
    obtain ⟨a, u1, u2, u3, w, h1, h2, h3, h4, h5, h6⟩ := h
    exact ⟨a, u1, u2, u3, w, h1, e _ _ h2, TmAt.same e x u1 h3, TmAt.same e y u2 h4, TmAt.same e z u3 h5, h6.same e⟩
  | .app f xs o, v, h => by
    unfold TmAt at h ⊢
    obtain ⟨a, u, l, vs, w, h1, h2, h3, h4, h5, h6⟩ := h
    exact ⟨a, u, l, vs, w, h1, e _ _ h2, e _ _ h3, TmAt.same e f u h4, TmsAt.same e xs vs h5, h6.same e⟩
  | .pair x y o, v, h => by
    unfold TmAt at h ⊢
    obtain ⟨a, u1, u2, w, h1, h2, h3, h4, h5⟩ := h
    exact ⟨a, u1, u2, w, h1, e _ _ h2, TmAt.same e x u1 h3, TmAt.same e y u2 h4, h5.same e⟩
theorem TmsAt.same {F F' : Hp} (e : Same F F') : ∀ (ts : List Tm) (vs : List V), TmsAt F ts vs → TmsAt F' ts vs
  | [], vs, h => by
    unfold TmsAt at h ⊢
    exact h
  | t :: ts, vs, h => by
    unfold TmsAt at h ⊢
    obtain ⟨v, r, h1, h2, h3⟩ := h
    exact ⟨v, r, h1, TmAt.same e t v h2, TmsAt.same e ts r h3⟩
end
theorem TmsAt.snoc {F : Hp} {t : Tm} {v : V} (h2 : TmAt F t v) : ∀ {ts : List Tm} {vs : List V}, TmsAt F ts vs → TmsAt F (ts ++ [t]) (vs ++ [v])
  | [], vs, h => by
    unfold TmsAt at h
    subst h
    show TmsAt F [t] [v]
    unfold TmsAt
    exact ⟨v, [], rfl, h2, by unfold TmsAt; rfl⟩
  | u :: ts, vs, h => by
    unfold TmsAt at h
    obtain ⟨w, r, rfl, h3, h4⟩ := h
    show TmsAt F (u :: (ts ++ [t])) (w :: (r ++ [v]))
    unfold TmsAt
    exact ⟨w, r ++ [v], rfl, h3, TmsAt.snoc h2 h4⟩
theorem TmsAt.nil {F : Hp} : TmsAt F [] [] := by
  unfold TmsAt
  rfl
theorem TmsAt.len {F : Hp} : ∀ {ts : List Tm} {vs : List V}, TmsAt F ts vs → vs.length = ts.length
  | [], vs, h => by
    unfold TmsAt at h
    rw [h]
    rfl
  | t :: ts, vs, h => by
    unfold TmsAt at h
    obtain ⟨v, r, rfl, _, h3⟩ := h
    rw [List.length_cons, List.length_cons, TmsAt.len h3]
theorem TmsAt.get {F : Hp} : ∀ {ts : List Tm} {vs : List V} {i : Nat} {v : V}, TmsAt F ts vs → vs[i]? = some v → ∃ t, ts[i]? = some t ∧ TmAt F t v
  | [], vs, i, v, h, e => by
    unfold TmsAt at h
    rw [h] at e
    simp at e
  | t :: ts, vs, i, v, h, e => by
    unfold TmsAt at h
    obtain ⟨w, r, rfl, h2, h3⟩ := h
    cases i with
    | zero =>
      cases e
      exact ⟨t, rfl, h2⟩
    | succ i => exact TmsAt.get (i := i) h3 e
/-! ### sizes, depths; what a term's parts are -/
mutual
def msz : Tm → Nat
  | .int _ _ => 1
  | .prim _ _ => 1
  | .ref _ _ => 1
  | .fn _ b _ => 1 + msz b
  | .rc _ _ b _ => 1 + msz b
  | .lt _ x b _ => 1 + msz x + msz b
  | .ite x y z _ => 1 + msz x + msz y + msz z
  | .app f xs _ => 1 + msz f + mszs xs
  | .pair x y _ => 1 + msz x + msz y
def mszs : List Tm → Nat
  | [] => 0
  | t :: ts => msz t + mszs ts
end
mutual
/-- nesting -/
def mht : Tm → Nat
  | .int _ _ => 0
  | .prim _ _ => 0
  | .ref _ _ => 0
  | .fn _ b _ => 1 + mht b
  | .rc _ _ b _ => 1 + mht b
  | .lt _ x b _ => 1 + max (mht x) (mht b)
  | .ite x y z _ => 1 + max (mht x) (max (mht y) (mht z))
  | .app f xs _ => 1 + max (mht f) (mhts xs)
  | .pair x y _ => 1 + max (mht x) (mht y)
def mhts : List Tm → Nat
  | [] => 0
  | t :: ts => max (mht t) (mhts ts)
end
mutual
/-- bound in env, the parts within bounds -/
def mok : List Int → Tm → Prop
  | _, .int n o => n.natAbs ≤ 999999999 ∧ OgOk o
  | _, .prim s o => s.length ≤ 20 ∧ (∀ c ∈ s.cps.toList, c < 128) ∧ OgOk o
  | env, .ref i o => i ∈ env ∧ i.natAbs ≤ 100000 ∧ OgOk o
  | env, .fn ids b o => ids.length ≤ 4 ∧ (∀ i ∈ ids, i.natAbs ≤ 100000) ∧ mok (env ++ ids) b ∧ OgOk o ∧ ids.Nodup
  | env, .rc i ids b o => ids.length ≤ 4 ∧ i.natAbs ≤ 100000 ∧ (∀ i ∈ ids, i.natAbs ≤ 100000) ∧ mok (env ++ [i] ++ ids) b ∧ OgOk o ∧ (i :: ids).Nodup
  | env, .lt i x b o => i.natAbs ≤ 100000 ∧ mok env x ∧ mok (env ++ [i]) b ∧ OgOk o
  | env, .ite x y z o => mok env x ∧ mok env y ∧ mok env z ∧ OgOk o
  | env, .app f xs o => mok env f ∧ moks env xs ∧ OgOk o
  | _, .pair _ _ _ => False
def moks : List Int → List Tm → Prop
  | _, [] => True
  | env, t :: ts => mok env t ∧ moks env ts
end
theorem mszs_app : ∀ (a b : List Tm), mszs (a ++ b) = mszs a + mszs b
  | [], b => by
    show mszs b = _
    simp only [mszs]
    omega
  | t :: a, b => by
    show mszs (t :: (a ++ b)) = _
    simp only [mszs]
    rw [mszs_app a b]
    omega
theorem mhts_app : ∀ (a b : List Tm), mhts (a ++ b) = max (mhts a) (mhts b)
  | [], b => by
    show mhts b = _
    simp only [mhts]
    omega
  | t :: a, b => by
    show mhts (t :: (a ++ b)) = _
    simp only [mhts]
    rw [mhts_app a b]
    omega
theorem moks_app (env : List Int) : ∀ (a b : List Tm), moks env a → moks env b → moks env (a ++ b)
  | [], b, _, h => h
  | t :: a, b, h, g => by
    simp only [moks] at h
    show moks env (t :: (a ++ b))
    simp only [moks]
    exact ⟨h.1, moks_app env a b h.2 g⟩
theorem moks_get {env : List Int} : ∀ {ts : List Tm} {i : Nat} {t : Tm}, moks env ts → ts[i]? = some t → mok env t
  | [], i, t, _, e => by simp at e
  | u :: ts, i, t, h, e => by
    simp only [moks] at h
    cases i with
    | zero =>
      cases e
      exact h.1
    | succ i => exact moks_get (i := i) h.2 e
end Sg

namespace Sg
open PySem PySem.Spec PyProof.Rows L2
/-! ### _law_origin -/
section
variable {P : Program} {w : World} {K : PySem.W.Frag} {mg : Str → Option Value} {base : Heap}
def spOrigin : Sp := fun vs H Q _ => ∃ (p c : Addr), vs = [.ref p] ∧ St p c H ∧ ∀ H' o v, Kp p c H H' → St p c H' → OgAt (nl H H') o v → OgOk o → Q v H'
theorem scOrigin : FnScope ["state", "k"] ["state"] (defScope sOrigin) := ⟨rfl, rfl, rfl, by decide +kernel, rfl, by decide +kernel, by decide +kernel⟩
theorem ok_origin {f fD : Addr} {fd fdD : FuncData} {k : Nat} (F : Fun K "_law_origin" "_law_origin" sOrigin f fd)
    (GD : FnOk P w K mg base CX0 k fD fdD ["state", "many"] spDraw) (bD : Binds K fdD ["state", "many"] []) (kD : PySem.W.keepIn K (.ref fD) = true) (mD : mg "_law_draw" = some (.ref fD))
    (mr : mg "range" = none) (mt : mg "tuple" = none) : FnOk P w K mg base CX0 (k + 1) f fd ["state"] spOrigin := by
  refine F.ok scOrigin (fun vs H Q E h => ?_) (fun cdv A outer st H vs Q E hr h => ?_)
  · obtain ⟨p, c, rfl, _⟩ := h
    rfl
  obtain ⟨p, c, rfl, S0, q⟩ := h
  refine ⟨_, pss_one (ps_ret (pe_tup (pa_cons (pe_op op_sub (pe_call GD hr (by rfl) mD kD bD .nil pass0 (pa_cons (pv 0) (pa_cons pe_int pa_nil))) pe_int)
    (pa_cons (pe_callTy call_tuple_of (by rfl) mt PyProof.Rows.boot_tuple (pa_cons (pe_lc (own := [("k", 1)]) (g := gName 1) (tt := tYes) rfl scOrigin.nd (pi_range1 (by rfl) mr (pa_cons (pe_call GD hr (by rfl) mD kD bD .nil pass0 (pa_cons (pv 0) (pa_cons pe_int pa_nil))) pa_nil))
        (blkOk_by (N := ["state", "k"]) (sc := defScope sOrigin) (by decide +kernel))
        (fun _ _ _ _ _ => pg_name (i := 1) scOrigin.nd rfl (Or.inl rfl)) (fun _ _ _ _ _ => pts_nil)
        (fun _ _ _ _ _ => pv 1)) pa_nil)) (pa_cons (pe_un un_neg pe_int) pa_nil))))), ?_⟩
  refine ⟨_, rfl, p, c, 3, rfl, by decide, by decide, S0, fun H1 r1 kp1 S1 a1 b1 => ?_⟩
  refine ⟨_, _, rfl, rfl, ?_⟩
  refine ⟨_, rfl, p, c, 3, rfl, by decide, by decide, S1, fun H2 r2 kp2 S2 a2 b2 => ⟨r2, rfl, by omega, by omega, fun D hD => ?_⟩⟩
  refine lc_range (lo := 0) (n := r2.toNat) (fun i H' => Same H2 H' ∧ ∃ rs : List Int, H' D = some (.lst (rs.map V.int)) ∧ rs.length = i ∧ ∀ r ∈ rs, r.natAbs ≤ 1000) ⟨same_new hD _, [], upd_same, rfl, fun r hr => by cases hr⟩ ?_ ?_
  · rintro i H' hi ⟨sm, rs, eD, hl, hb⟩
    refine ⟨rfl, yes_k ?_⟩
    refine ⟨_, rfl, _, eD, by rw [List.length_map, hl]; exact smallL (by omega), same_mut sm hD _, rs ++ [0 + (i : Int)], by rw [upd_same, List.map_append]; rfl, by rw [List.length_append, hl]; rfl, fun r hr => ?_⟩
    rcases List.mem_append.mp hr with e | e
    · exact hb r e
    · rw [List.mem_singleton.mp e]
      omega
  · rintro H' ⟨sm, rs, eD, hl, hb⟩
    refine ⟨D, _, rfl, .inl ⟨SqL.of eD, fun t nt => ?_⟩⟩
    refine ⟨1, rfl, ?_⟩
    refine ⟨by show 3 ≤ sizeLine; decide, fun t2 nt2 => ?_⟩
    have sm1 : Same H2 (upd H' t (.tup (rs.map V.int))) := sm.trans (same_new nt _)
    have sm2 : Same H2 (upd (upd H' t (.tup (rs.map V.int))) t2 (.tup [.int (r1 - 1), .ref t, .int (-1)])) := sm1.trans (same_new nt2 _)
    have kp12 := kp1.trans kp2
    have S3 := S2.same sm1
    refine q _ ⟨r1 - 1, rs, -1⟩ _ (kp12.trans (Same.kp sm2)) (S2.same sm2) ⟨t2, t, rfl, ?_, ?_⟩ ⟨by show (r1 - 1).natAbs ≤ 1000; omega, by show rs.length ≤ 4; omega, hb, by show (-1 : Int).natAbs ≤ 1000; decide⟩
    · exact nl_new ((kp12.trans (Same.kp sm1)).free S3 nt2) upd_same
    · exact nl_new ((kp12.trans (Same.kp sm)).free (S2.same sm) nt) (same_new nt2 _ _ _ upd_same)
end
end Sg

namespace Sg
open PySem PySem.Spec PyProof.Rows L2
/-! ### _law_term of k03 -/
def bnd : Nat → Nat
  | 0 => 1
  | r + 1 => 1 + 3 * bnd r
theorem bnd_pos : ∀ r, 1 ≤ bnd r
  | 0 => Nat.le_refl _
  | r + 1 => Nat.le_add_right _ _
def rLenK (K : PySem.W.Frag) : List V → Hp → VK → Prop := fun xs H Q => ∃ p ys, xs = [V.ref p] ∧ (SqL K H p ys ∨ SqT K H p ys) ∧ Q (.int ys.length) H
theorem call_len_seqK {X : Cx} {K : PySem.W.Frag} (h : X.K = K) : CallR X (.builtin "len") (rLenK K) := by
  subst h
  exact call_len_seq
def spTerm (n : Nat) : Sp := fun vs H Q _ => ∃ (p c e : Addr) (env : List Int) (d : Nat), vs = [.ref p, .ref e, .int (d : Nat)] ∧ d < n ∧ d ≤ 4 ∧ H e = some (.lst (env.map V.int)) ∧ e ≠ p ∧ e ≠ c ∧ env.length + 3 * d ≤ 100 ∧ (∀ i ∈ env, i.natAbs ≤ 1000) ∧ St p c H ∧
  ∀ H' t v, Kp p c H H' → St p c H' → TmAt (nl H H') t v → mok env t → mht t ≤ d → msz t ≤ bnd d → Q v H'
theorem scTerm : FnScope ["state", "env", "deep", "kind", "origin", "ids", "value", "rows", "k"] ["state", "env", "deep"] (defScope sTerm) := ⟨rfl, rfl, rfl, by decide +kernel, rfl, by decide +kernel, by decide +kernel⟩
theorem term_none {f : Addr} {fd : FuncData} {P : Program} {w : World} {K : PySem.W.Frag} {mg : Str → Option Value} {base : Heap} {k : Nat} : FnOk P w K mg base CX0 k f fd ["state", "env", "deep"] (spTerm 0) := by
  have no : ∀ vs H Q E, ¬ spTerm 0 vs H Q E := fun vs H Q E h => by
    obtain ⟨p, c, e, env, d, _, h1, _⟩ := h
    omega
  exact ⟨fun vs H Q E h => absurd h (no vs H Q E), fun A outer s H args us vs Q E _ _ _ _ h => absurd h (no vs H Q E)⟩
section
variable {P : Program} {w : World} {K : PySem.W.Frag} {mg : Str → Option Value} {base : Heap}
theorem ok_term {f fD fK fO : Addr} {fd fdD fdK fdO : FuncData} {k n : Nat} (F : Fun K "_law_term" "_law_term" sTerm f fd)
    (G : FnOk P w K mg base CX0 k f fd ["state", "env", "deep"] (spTerm n)) (bF : Binds K fd ["state", "env", "deep"] []) (mF : mg "_law_term" = some (.ref f))
    (GD : FnOk P w K mg base CX0 k fD fdD ["state", "many"] spDraw) (bD : Binds K fdD ["state", "many"] []) (kD : PySem.W.keepIn K (.ref fD) = true) (mD : mg "_law_draw" = some (.ref fD))
    (GK : FnOk P w K mg base CX0 k fK fdK ["state", "row"] spPick) (bK : Binds K fdK ["state", "row"] []) (kK : PySem.W.keepIn K (.ref fK) = true) (mK : mg "_law_pick" = some (.ref fK))
    (GO : FnOk P w K mg base CX0 k fO fdO ["state"] spOrigin) (bO : Binds K fdO ["state"] []) (kO : PySem.W.keepIn K (.ref fO) = true) (mO : mg "_law_origin" = some (.ref fO))
    (mr : mg "range" = none) (ml : mg "len" = none) : FnOk P w K mg base CX0 (k + 1) f fd ["state", "env", "deep"] (spTerm (n + 1)) := by
  refine F.ok scTerm (fun vs H Q E h => ?_) (fun cdv A outer st H vs Q E hr h => ?_)
  · obtain ⟨p, c, e, env, d, rfl, _⟩ := h
    rfl
  obtain ⟨p, c, e, env, d, rfl, hdn, hd4, he, nep, nec, hlen, hib, S0, q⟩ := h
  refine ⟨_, pss_cons (ps_set (i := 3) scTerm.nd rfl (.inl rfl) (pe_call GD hr (by rfl) mD kD bD .nil pass0 (pa_cons (pv 0) (pa_cons pe_int pa_nil))))
    (pss_cons (ps_set (i := 4) scTerm.nd rfl (.inl rfl) (pe_call GO hr (by rfl) mO kO bO .nil pass0 (pa_cons (pv 0) pa_nil)))
    (pss_cons (ps_if (pw_or (pt_cmpR op_eq (pv 2) pe_int (nomark _)) (pw_or1 (pt_cmpR op_eq (pv 3) pe_int (nomark _)))).pt
      (Evl.pss_cut (ps_if (pw_and (pt_cmpR op_gt (pe_callB call_len_seq (by rfl) ml PySem.boot_len (pa_cons (pv 1) pa_nil)) pe_int (nomark _)) (pw_and1 (pt_cmpR op_gt (pe_call GD hr (by rfl) mD kD bD .nil pass0 (pa_cons (pv 0) (pa_cons pe_int pa_nil))) pe_int (nomark _)))).pt
        (pss_one (ps_ret (pe_tup (pa_cons pe_str (pa_cons (pe_call GK hr (by rfl) mK kK bK .nil pass0 (pa_cons (pv 0) (pa_cons (pv 1) pa_nil))) (pa_cons (pv 4) pa_nil)))))) pss_nil)
      (pss_cons (ps_if (pt_cmpR op_eq (pe_call GD hr (by rfl) mD kD bD .nil pass0 (pa_cons (pv 0) (pa_cons pe_int pa_nil))) pe_int (nomark _))
        (pss_one (ps_ret (pe_tup (pa_cons pe_str (pa_cons (pe_call GK hr (by rfl) mK kK bK .nil pass0 (pa_cons (pv 0) (pa_cons (pe_lst (pa_cons pe_str (pa_cons pe_str pa_nil))) pa_nil))) (pa_cons (pv 4) pa_nil)))))) pss_nil)
      (pss_one (ps_ret (pe_tup (pa_cons pe_str (pa_cons (pe_op op_sub (pe_call GD hr (by rfl) mD kD bD .nil pass0 (pa_cons (pv 0) (pa_cons pe_int pa_nil))) pe_int) (pa_cons (pv 4) pa_nil)))))))) pss_nil)
    (pss_cons (ps_if (pt_cmpR op_eq (pv 3) pe_int (nomark _))
      (pss_cons (ps_setLc (i := 5) (own := [("k", 8)]) (g := gName 8) (tt := tYes) rfl scTerm.nd rfl rfl (sw_true rfl rfl (by decide) (by decide +kernel)) (pi_range1 (by rfl) mr (pa_cons (pe_call GD hr (by rfl) mD kD bD .nil pass0 (pa_cons (pv 0) (pa_cons pe_int pa_nil))) pa_nil))
        (blkOk_by (N := ["state", "env", "deep", "kind", "origin", "ids", "value", "rows", "k"]) (sc := defScope sTerm) (by decide +kernel))
        (fun _ _ _ _ _ => pg_name (i := 8) scTerm.nd rfl (Or.inl rfl)) (fun _ _ _ _ _ => pts_nil)
        (fun _ _ _ _ _ => pe_op op_add (pe_callB (call_len_seqK (K := K) rfl) (by rfl) ml PySem.boot_len (pa_cons (pv 1) pa_nil)) (pv 8)))
      (pss_one (ps_ret (pe_tup (pa_cons pe_str (pa_cons (pv 5) (pa_cons (pe_call G hr (by rfl) mF F.kp bF .nil pass0 (pa_cons (pv 0) (pa_cons (pe_op op_cat (pv 1) (pv 5)) (pa_cons (pe_op op_sub (pv 2) pe_int) pa_nil)))) (pa_cons (pv 4) pa_nil)))))))) pss_nil)
    (pss_cons (ps_if (pt_cmpR op_eq (pv 3) pe_int (nomark _))
      (pss_cons (ps_setLc (i := 5) (own := [("k", 8)]) (g := gName 8) (tt := tYes) rfl scTerm.nd rfl rfl (sw_true rfl rfl (by decide) (by decide +kernel)) (pi_range1 (by rfl) mr (pa_cons (pe_call GD hr (by rfl) mD kD bD .nil pass0 (pa_cons (pv 0) (pa_cons pe_int pa_nil))) pa_nil))
        (blkOk_by (N := ["state", "env", "deep", "kind", "origin", "ids", "value", "rows", "k"]) (sc := defScope sTerm) (by decide +kernel))
        (fun _ _ _ _ _ => pg_name (i := 8) scTerm.nd rfl (Or.inl rfl)) (fun _ _ _ _ _ => pts_nil)
        (fun _ _ _ _ _ => pe_op op_add (pe_op op_add (pe_callB (call_len_seqK (K := K) rfl) (by rfl) ml PySem.boot_len (pa_cons (pv 1) pa_nil)) pe_int) (pv 8)))
      (pss_one (ps_ret (pe_tup (pa_cons pe_str (pa_cons (pe_callB call_len_seq (by rfl) ml PySem.boot_len (pa_cons (pv 1) pa_nil)) (pa_cons (pv 5) (pa_cons (pe_call G hr (by rfl) mF F.kp bF .nil pass0 (pa_cons (pv 0) (pa_cons (pe_op op_cat (pe_op op_cat (pv 1) (pe_lst (pa_cons (pe_callB call_len_seq (by rfl) ml PySem.boot_len (pa_cons (pv 1) pa_nil)) pa_nil))) (pv 5)) (pa_cons (pe_op op_sub (pv 2) pe_int) pa_nil)))) (pa_cons (pv 4) pa_nil))))))))) pss_nil)
    (pss_cons (ps_if (pt_cmpR op_eq (pv 3) pe_int (nomark _))
      (pss_cons (ps_set (i := 6) scTerm.nd rfl (.inl rfl) (pe_call G hr (by rfl) mF F.kp bF .nil pass0 (pa_cons (pv 0) (pa_cons (pv 1) (pa_cons (pe_op op_sub (pv 2) pe_int) pa_nil)))))
      (pss_one (ps_ret (pe_tup (pa_cons pe_str (pa_cons (pe_callB call_len_seq (by rfl) ml PySem.boot_len (pa_cons (pv 1) pa_nil)) (pa_cons (pv 6) (pa_cons (pe_call G hr (by rfl) mF F.kp bF .nil pass0 (pa_cons (pv 0) (pa_cons (pe_op op_cat (pv 1) (pe_lst (pa_cons (pe_callB call_len_seq (by rfl) ml PySem.boot_len (pa_cons (pv 1) pa_nil)) pa_nil))) (pa_cons (pe_op op_sub (pv 2) pe_int) pa_nil)))) (pa_cons (pv 4) pa_nil))))))))) pss_nil)
    (pss_cons (ps_if (pt_cmpR op_eq (pv 3) pe_int (nomark _))
      (pss_cons (ps_setLc (i := 7) (own := [("k", 8)]) (g := gName 8) (tt := tYes) rfl scTerm.nd rfl rfl (sw_true rfl rfl (by decide) (by decide +kernel)) (pi_range1 (by rfl) mr (pa_cons pe_int pa_nil))
        (blkOk_by (N := ["state", "env", "deep", "kind", "origin", "ids", "value", "rows", "k"]) (sc := defScope sTerm) (by decide +kernel))
        (fun _ _ _ _ _ => pg_name (i := 8) scTerm.nd rfl (Or.inl rfl)) (fun _ _ _ _ _ => pts_nil)
        (fun _ _ _ _ _ => pe_call G hr (by rfl) mF F.kp bF .nil pass0 (pa_cons (pv 0) (pa_cons (pv 1) (pa_cons (pe_op op_sub (pv 2) pe_int) pa_nil)))))
      (pss_one (ps_ret (pe_tup (pa_cons pe_str (pa_cons (pe_ix ix_list (pv 7) pe_int (fun _ _ => rfl)) (pa_cons (pe_ix ix_list (pv 7) pe_int (fun _ _ => rfl)) (pa_cons (pe_ix ix_list (pv 7) pe_int (fun _ _ => rfl)) (pa_cons (pv 4) pa_nil))))))))) pss_nil)
    (pss_cons (ps_setLc (i := 7) (own := [("k", 8)]) (g := gName 8) (tt := tYes) rfl scTerm.nd rfl rfl (sw_true rfl rfl (by decide) (by decide +kernel)) (pi_range1 (by rfl) mr (pa_cons (pe_call GD hr (by rfl) mD kD bD .nil pass0 (pa_cons (pv 0) (pa_cons pe_int pa_nil))) pa_nil))
        (blkOk_by (N := ["state", "env", "deep", "kind", "origin", "ids", "value", "rows", "k"]) (sc := defScope sTerm) (by decide +kernel))
        (fun _ _ _ _ _ => pg_name (i := 8) scTerm.nd rfl (Or.inl rfl)) (fun _ _ _ _ _ => pts_nil)
        (fun _ _ _ _ _ => pe_call G hr (by rfl) mF F.kp bF .nil pass0 (pa_cons (pv 0) (pa_cons (pv 1) (pa_cons (pe_op op_sub (pv 2) pe_int) pa_nil)))))
    (pss_one (ps_ret (pe_tup (pa_cons pe_str (pa_cons (pe_call G hr (by rfl) mF F.kp bF .nil pass0 (pa_cons (pv 0) (pa_cons (pv 1) (pa_cons (pe_op op_sub (pv 2) pe_int) pa_nil)))) (pa_cons (pv 7) (pa_cons (pv 4) pa_nil)))))))))))))), ?_⟩
  refine ⟨_, rfl, p, c, 8, rfl, by decide, by decide, S0, fun H1 kd kp1 S1 a1 b1 => ?_⟩
  refine ⟨_, rfl, p, c, rfl, S1, fun H2 o wo kp2 S2 og1 oo => ?_⟩
  have kp12 := kp1.trans kp2
  have og : OgAt (nl H H2) o wo := og1.same (nl_base (kp1.ls S1))
  have he2 := kp12 e _ nep nec he
  have leaf : ∀ (H3 : Hp) (t : Addr) (x : V) (tag : Str) (T : Tm), Kp p c H2 H3 → St p c H3 → H3 t = none → ((nl H (upd H3 t (.tup [.str tag, x, wo]))) t = some (.tup [.str tag, x, wo]) → OgAt (nl H (upd H3 t (.tup [.str tag, x, wo]))) o wo → TmAt (nl H (upd H3 t (.tup [.str tag, x, wo]))) T (.ref t)) → mok env T → mht T ≤ 0 → msz T ≤ 1 → Q (.ref t) (upd H3 t (.tup [.str tag, x, wo])) := fun H3 t x tag T kp S nt hT hm hh hz =>
    q _ T _ ((kp12.trans kp).trans (Same.kp (same_new nt _))) (S.same (same_new nt _)) (hT (nl_new ((kp12.trans kp).free S nt) upd_same) (og.same ((kp.nl S0).trans (nl_fresh nt _)))) hm (by omega) (Nat.le_trans hz (bnd_pos d))
  refine ⟨_, rfl, rfl, _, rfl, ?_⟩
  by_cases zd : d = 0
  · refine if_true_of (by simp [zd]) ?_
    refine if_true_of rfl ?_
    refine ⟨fun σ H' => σ = [some (.ref p), some (.ref e), some (.int (d : Nat)), some (.int kd), some wo, none, none, none, none] ∧ Kp p c H2 H' ∧ St p c H', ?_, ?_⟩
    · refine ⟨_, rfl, e, _, rfl, .inl (SqL.of he2), _, _, rfl, rfl, _, rfl, ?_⟩
      by_cases zl : env = []
      · refine if_false_of (by simp [zl]) ?_
        refine if_false_of rfl ?_
        exact ⟨rfl, Kp.refl p c H2, S2⟩
      · have lpos : 0 < env.length := List.length_pos_iff.mpr zl
        refine if_true_of (decide_eq_true (by rw [List.length_map]; omega)) ?_
        refine ⟨_, rfl, p, c, 3, rfl, by decide, by decide, S2, fun H3 r3 kp3 S3 a3 b3 => ?_⟩
        refine ⟨_, _, rfl, rfl, _, rfl, ?_⟩
        by_cases z3 : r3 > 0
        · refine if_true_of (decide_eq_true z3) ?_
          refine ⟨_, rfl, _, rfl, p, c, e, _, rfl, kp3 e _ nep nec he2, nep, nec, by simp [zl], by rw [List.length_map]; omega, S3, fun H4 v kp4 S4 hv => ⟨_, rfl, by show 3 ≤ sizeLine; decide, fun t nt => ?_⟩⟩
          obtain ⟨i, hi, rfl⟩ := List.mem_map.mp hv
          have hib' := hib i hi
          exact leaf H4 t (.int i) "ref" (.ref i o) (kp3.trans kp4) S4 nt (fun a b => by unfold TmAt; exact ⟨t, wo, rfl, a, b⟩) (by simp only [mok]; exact ⟨hi, by omega, oo⟩) (Nat.zero_le _) (Nat.le_refl _)
        · refine if_false_of (decide_eq_false z3) ?_
          exact ⟨rfl, kp3, S3⟩
    · rintro σ Hx ⟨rfl, kpx, Sx⟩
      refine ⟨_, rfl, p, c, 3, rfl, by decide, by decide, Sx, fun H5 r5 kp5 S5 a5 b5 => ?_⟩
      refine ⟨rfl, _, rfl, ?_⟩
      by_cases z5 : r5 = 0
      · refine if_true_of (by simp [z5]) ?_
        refine ⟨_, rfl, by show 2 ≤ sizeLine; decide, fun b nb => ?_⟩
        have nbs := S5.new nb
        refine ⟨p, c, b, _, rfl, upd_same, nbs.1, nbs.2, by simp, by show 2 ≤ 1000; decide, S5.same (same_new nb _), fun H6 v kp6 S6 hv => ⟨_, rfl, by show 3 ≤ sizeLine; decide, fun t nt => ?_⟩⟩
        obtain ⟨s, rfl, hs⟩ : ∃ s : Str, v = .str s ∧ s.length ≤ 20 ∧ ∀ c ∈ s.cps.toList, c < 128 := by
          rcases List.mem_cons.mp hv with e | e
          · exact ⟨"+", e, by decide +kernel, by decide +kernel⟩
          · exact ⟨"none", List.mem_singleton.mp e, by decide +kernel, by decide +kernel⟩
        have kpA : Kp p c H2 H6 := ((kpx.trans kp5).trans (Same.kp (same_new nb _))).trans kp6
        exact leaf H6 t (.str s) "prim" (.prim s o) kpA S6 nt (fun a b => by unfold TmAt; exact ⟨t, wo, rfl, a, b⟩) (by simp only [mok]; exact ⟨hs.1, hs.2, oo⟩) (Nat.zero_le _) (Nat.le_refl _)
      · refine if_false_of (by simp [z5]) ?_
        refine ⟨_, rfl, p, c, 3, rfl, by decide, by decide, S5, fun H6 r6 kp6 S6 a6 b6 => ?_⟩
        refine ⟨_, _, rfl, rfl, ?_⟩
        refine ⟨_, rfl, by show 3 ≤ sizeLine; decide, fun t nt => ?_⟩
        exact leaf H6 t (.int (r6 - 1)) "int" (.int (r6 - 1) o) ((kpx.trans kp5).trans kp6) S6 nt (fun a b => by unfold TmAt; exact ⟨t, wo, rfl, a, b⟩) (by simp only [mok]; exact ⟨by omega, oo⟩) (Nat.zero_le _) (Nat.le_refl _)
  · refine if_false_of (by simp [zd]) ?_
    refine ⟨_, rfl, rfl, _, rfl, ?_⟩
    by_cases zk : kd = 0
    · refine if_true_of (by simp [zk]) ?_
      refine ⟨fun σ H' => σ = [some (.ref p), some (.ref e), some (.int (d : Nat)), some (.int kd), some wo, none, none, none, none] ∧ Kp p c H2 H' ∧ St p c H', ?_, ?_⟩
      · refine ⟨_, rfl, e, _, rfl, .inl (SqL.of he2), _, _, rfl, rfl, _, rfl, ?_⟩
        by_cases zl : env = []
        · refine if_false_of (by simp [zl]) ?_
          refine if_false_of rfl ?_
          exact ⟨rfl, Kp.refl p c H2, S2⟩
        · have lpos : 0 < env.length := List.length_pos_iff.mpr zl
          refine if_true_of (decide_eq_true (by rw [List.length_map]; omega)) ?_
          refine ⟨_, rfl, p, c, 3, rfl, by decide, by decide, S2, fun H3 r3 kp3 S3 a3 b3 => ?_⟩
          refine ⟨_, _, rfl, rfl, _, rfl, ?_⟩
          by_cases z3 : r3 > 0
          · refine if_true_of (decide_eq_true z3) ?_
            refine ⟨_, rfl, _, rfl, p, c, e, _, rfl, kp3 e _ nep nec he2, nep, nec, by simp [zl], by rw [List.length_map]; omega, S3, fun H4 v kp4 S4 hv => ⟨_, rfl, by show 3 ≤ sizeLine; decide, fun t nt => ?_⟩⟩
            obtain ⟨i, hi, rfl⟩ := List.mem_map.mp hv
            have hib' := hib i hi
            exact leaf H4 t (.int i) "ref" (.ref i o) (kp3.trans kp4) S4 nt (fun a b => by unfold TmAt; exact ⟨t, wo, rfl, a, b⟩) (by simp only [mok]; exact ⟨hi, by omega, oo⟩) (Nat.zero_le _) (Nat.le_refl _)
          · refine if_false_of (decide_eq_false z3) ?_
            exact ⟨rfl, kp3, S3⟩
      · rintro σ Hx ⟨rfl, kpx, Sx⟩
        refine ⟨_, rfl, p, c, 3, rfl, by decide, by decide, Sx, fun H5 r5 kp5 S5 a5 b5 => ?_⟩
        refine ⟨rfl, _, rfl, ?_⟩
        by_cases z5 : r5 = 0
        · refine if_true_of (by simp [z5]) ?_
          refine ⟨_, rfl, by show 2 ≤ sizeLine; decide, fun b nb => ?_⟩
          have nbs := S5.new nb
          refine ⟨p, c, b, _, rfl, upd_same, nbs.1, nbs.2, by simp, by show 2 ≤ 1000; decide, S5.same (same_new nb _), fun H6 v kp6 S6 hv => ⟨_, rfl, by show 3 ≤ sizeLine; decide, fun t nt => ?_⟩⟩
          obtain ⟨s, rfl, hs⟩ : ∃ s : Str, v = .str s ∧ s.length ≤ 20 ∧ ∀ c ∈ s.cps.toList, c < 128 := by
            rcases List.mem_cons.mp hv with e | e
            · exact ⟨"+", e, by decide +kernel, by decide +kernel⟩
            · exact ⟨"none", List.mem_singleton.mp e, by decide +kernel, by decide +kernel⟩
          have kpA : Kp p c H2 H6 := ((kpx.trans kp5).trans (Same.kp (same_new nb _))).trans kp6
          exact leaf H6 t (.str s) "prim" (.prim s o) kpA S6 nt (fun a b => by unfold TmAt; exact ⟨t, wo, rfl, a, b⟩) (by simp only [mok]; exact ⟨hs.1, hs.2, oo⟩) (Nat.zero_le _) (Nat.le_refl _)
        · refine if_false_of (by simp [z5]) ?_
          refine ⟨_, rfl, p, c, 3, rfl, by decide, by decide, S5, fun H6 r6 kp6 S6 a6 b6 => ?_⟩
          refine ⟨_, _, rfl, rfl, ?_⟩
          refine ⟨_, rfl, by show 3 ≤ sizeLine; decide, fun t nt => ?_⟩
          exact leaf H6 t (.int (r6 - 1)) "int" (.int (r6 - 1) o) ((kpx.trans kp5).trans kp6) S6 nt (fun a b => by unfold TmAt; exact ⟨t, wo, rfl, a, b⟩) (by simp only [mok]; exact ⟨by omega, oo⟩) (Nat.zero_le _) (Nat.le_refl _)
    · refine if_false_of (by simp [zk]) ?_
      obtain ⟨d', rfl⟩ : ∃ d', d = d' + 1 := ⟨d - 1, by omega⟩
      have ed : ((d' + 1 : Nat) : Int) - 1 = (d' : Nat) := by omega
      have bp := bnd_pos d'
      refine ⟨_, rfl, rfl, _, rfl, ?_⟩
      by_cases z1 : kd = 1
      · refine if_true_of (by simp [z1]) ?_
        refine ⟨_, rfl, p, c, 3, rfl, by decide, by decide, S2, fun H3 r3 kp3 S3 a3 b3 => ⟨r3, rfl, by omega, by omega, fun D hD => ?_⟩⟩
        have elen : (env.map V.int).length = env.length := List.length_map _
        refine lc_range (lo := 0) (n := r3.toNat) (fun i H' => Same H3 H' ∧ ∃ ids : List Int, H' D = some (.lst (ids.map V.int)) ∧ ids.length = i ∧ (∀ j ∈ ids, j.natAbs ≤ 1000) ∧ ids.Nodup ∧ ∀ j ∈ ids, (env.length : Int) ≤ j ∧ j < (env.length : Int) + (i : Int)) ⟨same_new hD _, [], upd_same, rfl, (fun r hr => by cases hr), List.nodup_nil, fun r hr => by cases hr⟩ ?_ ?_
        · rintro i H' hi ⟨sm, ids, eD, hl, hb, hnd, hrg⟩
          refine ⟨rfl, yes_k ?_⟩
          refine ⟨_, rfl, e, _, rfl, .inl (SqL.of (sm _ _ (kp3 e _ nep nec he2))), _, rfl, _, _, rfl, rfl, _, eD, by rw [List.length_map, hl]; exact smallL (by omega), same_mut sm hD _, ids ++ [((env.map V.int).length : Int) + (0 + (i : Int))], by rw [upd_same, List.map_append]; rfl, by rw [List.length_append, hl]; rfl, fun r hr => ?_, ?_, fun r hr => ?_⟩
          · rcases List.mem_append.mp hr with e5 | e5
            · exact hb r e5
            · rw [List.mem_singleton.mp e5, List.length_map]
              omega
          · refine List.nodup_append.mpr ⟨hnd, List.pairwise_singleton _ _, fun x hx y hy z => ?_⟩
            rw [List.mem_singleton.mp hy] at z
            have := hrg x hx
            omega
          · rcases List.mem_append.mp hr with e5 | e5
            · have := hrg r e5
              omega
            · rw [List.mem_singleton.mp e5]
              omega
        rintro H4 ⟨sm4, ids, eD4, hl4, hb4, hnd4, hrg4⟩
        have S4 := S3.same sm4
        have kp4 : Kp p c H2 H4 := kp3.trans (Same.kp sm4)
        have he4 := kp4 e _ nep nec he2
        have nD : D ≠ p ∧ D ≠ c := S3.new hD
        have HD0 : H D = none := (kp12.trans kp3).free S3 hD
        have lids : ids.length ≤ 2 := by omega
        refine ⟨_, rfl, _, rfl, _, rfl, _, rfl, e, D, _, _, rfl, rfl, he4, eD4, by rw [List.length_map, List.length_map]; exact small (by omega), fun e2 ne2 => ?_⟩
        have kp5 := kp4.trans (Same.kp (same_new ne2 (.lst (env.map V.int ++ ids.map V.int))))
        have S5 := S4.same (same_new ne2 (.lst (env.map V.int ++ ids.map V.int)))
        have ne2' := S4.new ne2
        refine ⟨_, rfl, _, _, rfl, rfl, p, c, e2, env ++ ids, d', (show [V.ref p, V.ref e2, V.int (((d' + 1 : Nat) : Int) - 1)] = [V.ref p, V.ref e2, V.int (d' : Nat)] by rw [ed]), by omega, by omega, by rw [upd_same, List.map_append], ne2'.1, ne2'.2, by rw [List.length_append]; omega, ?_, S5, fun H6 b v6 kp6 S6 t6 m6 h6 z6 => ?_⟩
        · intro i hi
          rcases List.mem_append.mp hi with e5 | e5
          · exact hib i e5
          · exact hb4 i e5
        refine ⟨_, rfl, by show 4 ≤ sizeLine; decide, fun t nt => ?_⟩
        have kp56 := kp5.trans kp6
        have kpA := kp12.trans kp56
        refine q _ (.fn ids b o) _ (kpA.trans (Same.kp (same_new nt _))) (S6.same (same_new nt _)) ?_ ?_ ?_ ?_
        · unfold TmAt
          refine ⟨t, D, v6, wo, rfl, nl_new (kpA.free S6 nt) upd_same, nl_new HD0 (same_new nt _ _ _ ((Same.kp (same_new ne2 _)).trans kp6 D _ nD.1 nD.2 eD4)), TmAt.same ((nl_base ((kp12.trans kp5).ls S5)).trans (nl_fresh nt _)) _ _ t6, og.same ((kp56.nl S0).trans (nl_fresh nt _))⟩
        · simp only [mok]
          exact ⟨by omega, fun i hi => by have := hb4 i hi; omega, m6, oo, hnd4⟩
        · show 1 + mht b ≤ d' + 1
          omega
        · show 1 + msz b ≤ 1 + 3 * bnd d'
          omega
      · refine if_false_of (by simp [z1]) ?_
        refine ⟨_, rfl, rfl, _, rfl, ?_⟩
        by_cases z2 : kd = 2
        · refine if_true_of (by simp [z2]) ?_
          refine ⟨_, rfl, p, c, 3, rfl, by decide, by decide, S2, fun H3 r3 kp3 S3 a3 b3 => ⟨r3, rfl, by omega, by omega, fun D hD => ?_⟩⟩
          have elen : (env.map V.int).length = env.length := List.length_map _
          refine lc_range (lo := 0) (n := r3.toNat) (fun i H' => Same H3 H' ∧ ∃ ids : List Int, H' D = some (.lst (ids.map V.int)) ∧ ids.length = i ∧ (∀ j ∈ ids, j.natAbs ≤ 1000) ∧ ids.Nodup ∧ ∀ j ∈ ids, ((env.length : Int) + 1) ≤ j ∧ j < ((env.length : Int) + 1) + (i : Int)) ⟨same_new hD _, [], upd_same, rfl, (fun r hr => by cases hr), List.nodup_nil, fun r hr => by cases hr⟩ ?_ ?_
          · rintro i H' hi ⟨sm, ids, eD, hl, hb, hnd, hrg⟩
            refine ⟨rfl, yes_k ?_⟩
            refine ⟨_, rfl, e, _, rfl, .inl (SqL.of (sm _ _ (kp3 e _ nep nec he2))), _, _, rfl, rfl, _, rfl, _, _, rfl, rfl, _, eD, by rw [List.length_map, hl]; exact smallL (by omega), same_mut sm hD _, ids ++ [((env.map V.int).length : Int) + 1 + (0 + (i : Int))], by rw [upd_same, List.map_append]; rfl, by rw [List.length_append, hl]; rfl, fun r hr => ?_, ?_, fun r hr => ?_⟩
            · rcases List.mem_append.mp hr with e5 | e5
              · exact hb r e5
              · rw [List.mem_singleton.mp e5, List.length_map]
                omega
            · refine List.nodup_append.mpr ⟨hnd, List.pairwise_singleton _ _, fun x hx y hy z => ?_⟩
              rw [List.mem_singleton.mp hy] at z
              have := hrg x hx
              omega
            · rcases List.mem_append.mp hr with e5 | e5
              · have := hrg r e5
                omega
              · rw [List.mem_singleton.mp e5]
                omega
          rintro H4 ⟨sm4, ids, eD4, hl4, hb4, hnd4, hrg4⟩
          have S4 := S3.same sm4
          have kp4 : Kp p c H2 H4 := kp3.trans (Same.kp sm4)
          have he4 := kp4 e _ nep nec he2
          have nD : D ≠ p ∧ D ≠ c := S3.new hD
          have HD0 : H D = none := (kp12.trans kp3).free S3 hD
          have lids : ids.length ≤ 2 := by omega
          refine ⟨_, rfl, e, _, rfl, .inl (SqL.of he4), _, rfl, _, rfl, _, rfl, _, rfl, e, _, rfl, .inl (SqL.of he4), by show 1 ≤ sizeLine; decide, fun b1 nb1 => ?_⟩
          have nb1' := S4.new nb1
          have sb1 : Same H4 (upd H4 b1 (.lst [V.int ((env.map V.int).length : Nat)])) := same_new nb1 _
          refine ⟨e, b1, _, _, rfl, rfl, sb1 _ _ he4, upd_same, by rw [List.length_map]; show env.length + 1 ≤ sizeLine; exact small (by omega), fun b2 nb2 => ?_⟩
          have sb2 := sb1.trans (same_new nb2 (.lst (env.map V.int ++ [V.int ((env.map V.int).length : Nat)])))
          refine ⟨_, rfl, b2, D, _, _, rfl, rfl, upd_same, sb2 _ _ eD4, by rw [List.length_append, List.length_map, List.length_map]; show env.length + 1 + ids.length ≤ sizeLine; exact small (by omega), fun e2 ne2 => ?_⟩
          have sb3 := sb2.trans (same_new ne2 (.lst (env.map V.int ++ [V.int ((env.map V.int).length : Nat)] ++ ids.map V.int)))
          have kp5 := kp4.trans (Same.kp sb3)
          have S5 := S4.same sb3
          have ne2' := (S4.same sb2).new ne2
          have el : (env.map V.int).length = env.length := List.length_map _
          refine ⟨_, rfl, _, _, rfl, rfl, p, c, e2, env ++ [(env.length : Int)] ++ ids, d', (show [V.ref p, V.ref e2, V.int (((d' + 1 : Nat) : Int) - 1)] = [V.ref p, V.ref e2, V.int (d' : Nat)] by rw [ed]), by omega, by omega, by rw [upd_same, List.map_append, List.map_append, el]; rfl, ne2'.1, ne2'.2, by rw [List.length_append, List.length_append]; show env.length + 1 + ids.length + 3 * d' ≤ 100; omega, ?_, S5, fun H6 b v6 kp6 S6 t6 m6 h6 z6 => ?_⟩
          · intro i hi
            rcases List.mem_append.mp hi with e5 | e5
            · rcases List.mem_append.mp e5 with e5 | e5
              · exact hib i e5
              · rw [List.mem_singleton.mp e5]
                omega
            · exact hb4 i e5
          refine ⟨_, rfl, by show 5 ≤ sizeLine; decide, fun t nt => ?_⟩
          have kp56 := kp5.trans kp6
          have kpA := kp12.trans kp56
          refine q _ (.rc env.length ids b o) _ (kpA.trans (Same.kp (same_new nt _))) (S6.same (same_new nt _)) ?_ ?_ ?_ ?_
          · unfold TmAt
            refine ⟨t, D, v6, wo, rfl, nl_new (kpA.free S6 nt) (by rw [upd_same, el]), nl_new HD0 (same_new nt _ _ _ ((Same.kp sb3).trans kp6 D _ nD.1 nD.2 eD4)), TmAt.same ((nl_base ((kp12.trans kp5).ls S5)).trans (nl_fresh nt _)) _ _ t6, og.same ((kp56.nl S0).trans (nl_fresh nt _))⟩
          · simp only [mok]
            exact ⟨by omega, by omega, fun i hi => by have := hb4 i hi; omega, m6, oo, List.nodup_cons.mpr ⟨fun hm => by have := hrg4 _ hm; omega, hnd4⟩⟩
          · show 1 + mht b ≤ d' + 1
            omega
          · show 1 + msz b ≤ 1 + 3 * bnd d'
            omega
        · refine if_false_of (by simp [z2]) ?_
          refine ⟨_, rfl, rfl, _, rfl, ?_⟩
          by_cases z3 : kd = 3
          · refine if_true_of (by simp [z3]) ?_
            refine ⟨_, rfl, _, rfl, _, rfl, _, _, rfl, rfl, p, c, e, env, d', (show [V.ref p, V.ref e, V.int (((d' + 1 : Nat) : Int) - 1)] = [V.ref p, V.ref e, V.int (d' : Nat)] by rw [ed]), by omega, by omega, he2, nep, nec, by omega, hib, S2, fun H3 x v3 kp3 S3 t3 m3 h3 z3 => ?_⟩
            have he3 := kp3 e _ nep nec he2
            refine ⟨_, rfl, e, _, rfl, .inl (SqL.of he3), _, rfl, _, rfl, _, rfl, _, rfl, e, _, rfl, .inl (SqL.of he3), by show 1 ≤ sizeLine; decide, fun b1 nb1 => ?_⟩
            have sb1 : Same H3 (upd H3 b1 (.lst [V.int ((env.map V.int).length : Nat)])) := same_new nb1 _
            refine ⟨e, b1, _, _, rfl, rfl, sb1 _ _ he3, upd_same, by rw [List.length_map]; show env.length + 1 ≤ sizeLine; exact small (by omega), fun e2 ne2 => ?_⟩
            have sb2 := sb1.trans (same_new ne2 (.lst (env.map V.int ++ [V.int ((env.map V.int).length : Nat)])))
            have kp5 := kp3.trans (Same.kp sb2)
            have S5 := S3.same sb2
            have ne2' := (S3.same sb1).new ne2
            have el : (env.map V.int).length = env.length := List.length_map _
            refine ⟨_, rfl, _, _, rfl, rfl, p, c, e2, env ++ [(env.length : Int)], d', (show [V.ref p, V.ref e2, V.int (((d' + 1 : Nat) : Int) - 1)] = [V.ref p, V.ref e2, V.int (d' : Nat)] by rw [ed]), by omega, by omega, by rw [upd_same, List.map_append, el]; rfl, ne2'.1, ne2'.2, by rw [List.length_append]; show env.length + 1 + 3 * d' ≤ 100; omega, ?_, S5, fun H6 b v6 kp6 S6 t6 m6 h6 z6 => ?_⟩
            · intro i hi
              rcases List.mem_append.mp hi with e5 | e5
              · exact hib i e5
              · rw [List.mem_singleton.mp e5]
                omega
            refine ⟨_, rfl, by show 5 ≤ sizeLine; decide, fun t nt => ?_⟩
            have kp56 := kp5.trans kp6
            have kpA := kp12.trans kp56
            refine q _ (.lt env.length x b o) _ (kpA.trans (Same.kp (same_new nt _))) (S6.same (same_new nt _)) ?_ ?_ ?_ ?_
            · unfold TmAt
              refine ⟨t, v3, v6, wo, rfl, nl_new (kpA.free S6 nt) (by rw [upd_same, el]), TmAt.same ((nl_base (kp12.ls S2)).trans ((((Same.kp sb2).trans kp6).nl S0).trans (nl_fresh nt _))) _ _ t3, TmAt.same ((nl_base ((kp12.trans kp5).ls S5)).trans (nl_fresh nt _)) _ _ t6, og.same ((kp56.nl S0).trans (nl_fresh nt _))⟩
            · simp only [mok]
              exact ⟨by omega, m3, m6, oo⟩
            · show 1 + max (mht x) (mht b) ≤ d' + 1
              omega
            · show 1 + msz x + msz b ≤ 1 + 3 * bnd d'
              omega
          · refine if_false_of (by simp [z3]) ?_
            refine ⟨_, rfl, rfl, _, rfl, ?_⟩
            by_cases z4 : kd = 4
            · refine if_true_of (by simp [z4]) ?_
              refine ⟨3, rfl, by decide, by decide, fun D hD => ?_⟩
              obtain ⟨HD, hHD⟩ : ∃ HD, HD = upd H2 D (.lst []) := ⟨_, rfl⟩
              have SD : St p c HD := by
                rw [hHD]
                exact S2.same (same_new hD _)
              have eHD : HD D = some (.lst []) := by
                rw [hHD]
                exact upd_same
              have nD := S2.new hD
              have HD0 : H D = none := (kp12.trans (Kp.refl p c H2)).free S2 hD
              have lsHD : Ls H HD := by
                rw [hHD]
                exact ((kp12.trans (Kp.refl p c H2)).ls S2).trans (Same.ls (same_new hD _))
              refine lc_range (lo := 0) (n := 3) (fun i H' => Kp p c H2 H' ∧ St p c H' ∧ Ls HD H' ∧ ∃ (ts : List Tm) (vs : List V), H' D = some (.lst vs) ∧ TmsAt (nl HD H') ts vs ∧ ts.length = i ∧ moks env ts ∧ mhts ts ≤ d' ∧ mszs ts ≤ i * bnd d')
                ⟨(Kp.refl p c H2).trans (Same.kp (same_new hD _)), S2.same (same_new hD _), (show Ls HD (upd H2 D (.lst [])) from hHD ▸ Ls.refl _), [], [], upd_same, TmsAt.nil, rfl, trivial, Nat.zero_le _, Nat.zero_le _⟩ ?_ ?_
              · rintro i H' hi ⟨kp5, S5, ls5, ts, vs, eD, ut, hl, hw, hh, hz⟩
                refine ⟨rfl, yes_k ?_⟩
                refine ⟨_, rfl, _, rfl, _, rfl, _, _, rfl, rfl, p, c, e, env, d', (show [V.ref p, V.ref e, V.int (((d' + 1 : Nat) : Int) - 1)] = [V.ref p, V.ref e, V.int (d' : Nat)] by rw [ed]), by omega, by omega, kp5 e _ nep nec he2, nep, nec, by omega, hib, S5, fun H6 t v kp6 S6 u6 w6 h6 z6 => ?_⟩
                have eD6 := kp6 D _ nD.1 nD.2 eD
                have sp : Same (nl HD H6) (nl HD (upd H6 D (.lst (vs ++ [v])))) := nl_put eHD _
                have H2D : H2 D = none := (Kp.refl p c H2).free S2 hD
                refine ⟨vs, eD6, ?_, (kp5.trans kp6).mut H2D _, S6.put nD.1 nD.2 _, (ls5.trans (kp6.ls S6)).put, ts ++ [t], vs ++ [v], upd_same, ?_, by rw [List.length_append, hl]; rfl, moks_app _ _ _ hw ⟨w6, trivial⟩, ?_, ?_⟩
                · rw [ut.len, hl]
                  exact smallL (by omega)
                · exact TmsAt.snoc (TmAt.same ((nl_base ls5).trans sp) _ _ u6) (TmsAt.same ((kp6.nl SD).trans sp) _ _ ut)
                · rw [mhts_app]
                  simp only [mhts]
                  omega
                · rw [mszs_app]
                  simp only [mszs]
                  have e5 : (i + 1) * bnd d' = i * bnd d' + bnd d' := Nat.succ_mul _ _
                  omega
              rintro H4 ⟨kp4, S4, ls4, ts, vs, eD4, ut, hl, hw, hh, hz⟩
              match ts, vs, hl, ut, hw, hh, hz, eD4 with
              | [x, y, z], vs, hl, ut, hw, hh, hz, eD4 =>
                unfold TmsAt at ut
                obtain ⟨v1, r1, rfl, t1, ut⟩ := ut
                unfold TmsAt at ut
                obtain ⟨v2, r2, rfl, t2, ut⟩ := ut
                unfold TmsAt at ut
                obtain ⟨v3, r3, rfl, t3, ut⟩ := ut
                unfold TmsAt at ut
                subst ut
                refine ⟨_, rfl, D, _, 0, v1, rfl, rfl, SqL.of eD4, atI_nat (j := 0) rfl, _, rfl, D, _, 1, v2, rfl, rfl, SqL.of eD4, atI_nat (j := 1) rfl, _, rfl, D, _, 2, v3, rfl, rfl, SqL.of eD4, atI_nat (j := 2) rfl, _, rfl, by show 5 ≤ sizeLine; decide, fun t nt => ?_⟩
                have kpA := kp12.trans kp4
                simp only [moks] at hw
                simp only [mhts] at hh
                simp only [mszs] at hz
                have sm : Same (nl HD H4) (nl H (upd H4 t (.tup [.str "if", v1, v2, v3, wo]))) := (nl_base lsHD).trans (nl_fresh nt _)
                refine q _ (.ite x y z o) _ (kpA.trans (Same.kp (same_new nt _))) (S4.same (same_new nt _)) ?_ ?_ ?_ ?_
                · unfold TmAt
                  exact ⟨t, v1, v2, v3, wo, rfl, nl_new (kpA.free S4 nt) upd_same, TmAt.same sm _ _ t1, TmAt.same sm _ _ t2, TmAt.same sm _ _ t3, og.same ((kp4.nl S0).trans (nl_fresh nt _))⟩
                · simp only [mok]
                  exact ⟨hw.1, hw.2.1, hw.2.2.1, oo⟩
                · show 1 + max (mht x) (max (mht y) (mht z)) ≤ d' + 1
                  omega
                · show 1 + msz x + msz y + msz z ≤ 1 + 3 * bnd d'
                  omega
            · refine if_false_of (by simp [z4]) ?_
              refine ⟨_, rfl, p, c, 3, rfl, by decide, by decide, S2, fun Hs r3 kps Ss a3 b3 => ⟨r3, rfl, by omega, by omega, fun D hD => ?_⟩⟩
              obtain ⟨HD, hHD⟩ : ∃ HD, HD = upd Hs D (.lst []) := ⟨_, rfl⟩
              have SD : St p c HD := by
                rw [hHD]
                exact Ss.same (same_new hD _)
              have eHD : HD D = some (.lst []) := by
                rw [hHD]
                exact upd_same
              have nD := Ss.new hD
              have HD0 : H D = none := (kp12.trans kps).free Ss hD
              have lsHD : Ls H HD := by
                rw [hHD]
                exact ((kp12.trans kps).ls Ss).trans (Same.ls (same_new hD _))
              refine lc_range (lo := 0) (n := r3.toNat) (fun i H' => Kp p c H2 H' ∧ St p c H' ∧ Ls HD H' ∧ ∃ (ts : List Tm) (vs : List V), H' D = some (.lst vs) ∧ TmsAt (nl HD H') ts vs ∧ ts.length = i ∧ moks env ts ∧ mhts ts ≤ d' ∧ mszs ts ≤ i * bnd d')
                ⟨kps.trans (Same.kp (same_new hD _)), Ss.same (same_new hD _), (show Ls HD (upd Hs D (.lst [])) from hHD ▸ Ls.refl _), [], [], upd_same, TmsAt.nil, rfl, trivial, Nat.zero_le _, Nat.zero_le _⟩ ?_ ?_
              · rintro i H' hi ⟨kp5, S5, ls5, ts, vs, eD, ut, hl, hw, hh, hz⟩
                refine ⟨rfl, yes_k ?_⟩
                refine ⟨_, rfl, _, rfl, _, rfl, _, _, rfl, rfl, p, c, e, env, d', (show [V.ref p, V.ref e, V.int (((d' + 1 : Nat) : Int) - 1)] = [V.ref p, V.ref e, V.int (d' : Nat)] by rw [ed]), by omega, by omega, kp5 e _ nep nec he2, nep, nec, by omega, hib, S5, fun H6 t v kp6 S6 u6 w6 h6 z6 => ?_⟩
                have eD6 := kp6 D _ nD.1 nD.2 eD
                have sp : Same (nl HD H6) (nl HD (upd H6 D (.lst (vs ++ [v])))) := nl_put eHD _
                have H2D : H2 D = none := kps.free Ss hD
                refine ⟨vs, eD6, ?_, (kp5.trans kp6).mut H2D _, S6.put nD.1 nD.2 _, (ls5.trans (kp6.ls S6)).put, ts ++ [t], vs ++ [v], upd_same, ?_, by rw [List.length_append, hl]; rfl, moks_app _ _ _ hw ⟨w6, trivial⟩, ?_, ?_⟩
                · rw [ut.len, hl]
                  exact smallL (by omega)
                · exact TmsAt.snoc (TmAt.same ((nl_base ls5).trans sp) _ _ u6) (TmsAt.same ((kp6.nl SD).trans sp) _ _ ut)
                · rw [mhts_app]
                  simp only [mhts]
                  omega
                · rw [mszs_app]
                  simp only [mszs]
                  have e5 : (i + 1) * bnd d' = i * bnd d' + bnd d' := Nat.succ_mul _ _
                  omega
              rintro H4 ⟨kp4, S4, ls4, ts, vs, eD4, ut, hl, hw, hh, hz⟩
              have he4 := kp4 e _ nep nec he2
              refine ⟨_, rfl, _, rfl, _, rfl, _, _, rfl, rfl, p, c, e, env, d', (show [V.ref p, V.ref e, V.int (((d' + 1 : Nat) : Int) - 1)] = [V.ref p, V.ref e, V.int (d' : Nat)] by rw [ed]), by omega, by omega, he4, nep, nec, by omega, hib, S4, fun H6 fx v6 kp6 S6 t6 m6 h6 z6 => ?_⟩
              refine ⟨_, rfl, _, rfl, by show 4 ≤ sizeLine; decide, fun t nt => ?_⟩
              have kp56 := kp4.trans kp6
              have kpA := kp12.trans kp56
              refine q _ (.app fx ts o) _ (kpA.trans (Same.kp (same_new nt _))) (S6.same (same_new nt _)) ?_ ?_ ?_ ?_
              · unfold TmAt
                refine ⟨t, v6, D, vs, wo, rfl, nl_new (kpA.free S6 nt) upd_same, nl_new HD0 (same_new nt _ _ _ (kp6 D _ nD.1 nD.2 eD4)), TmAt.same ((nl_base ((kp12.trans kp4).ls S4)).trans (nl_fresh nt _)) _ _ t6, TmsAt.same (((kp6.nl SD).trans (nl_base lsHD)).trans (nl_fresh nt _)) _ _ ut, og.same ((kp56.nl S0).trans (nl_fresh nt _))⟩
              · simp only [mok]
                exact ⟨m6, hw, oo⟩
              · show 1 + max (mht fx) (mhts ts) ≤ d' + 1
                omega
              · show 1 + msz fx + mszs ts ≤ 1 + 3 * bnd d'
                have e5 : r3.toNat * bnd d' ≤ 2 * bnd d' := Nat.mul_le_mul_right _ (by omega)
                omega
end
end Sg

namespace Sg
open PySem PySem.Spec PyProof.Rows L2
/-! ### _law_plain -/
section
variable {K : PySem.W.Frag}
theorem seqT_same {H H' : Hp} {a : Addr} {xs : List V} (e : Same H H') (h : SqT K H a xs) : SqT K H' a xs := by
  rcases h with h | h
  · rcases h with h | ⟨o, h⟩
    · exact .inl (.inl (e _ _ h))
    · exact .inl (.inr ⟨o, e _ _ h⟩)
  · exact .inr h
mutual
theorem Dp.same {F F' : Hp} (e : Same F F') : ∀ (d : PyData) (v : V), Dp K F v d → Dp K F' v d
  | .none, _, h => by
    cases h
    exact .non
  | .bool b, _, h => by
    cases h
    exact .bl b
  | .int i, _, h => by
    cases h
    exact .int i
  | .str x, _, h => by
    cases h
    exact .str x
  | .list ds, _, h => by
    cases h with
    | lst hs ha => exact .lst (e.seq hs) (DpAll.same e ds _ ha)
  | .tuple ds, _, h => by
    cases h with
    | tup hs ha => exact .tup (seqT_same e hs) (DpAll.same e ds _ ha)
  | .dict _, _, h => by cases h
theorem DpAll.same {F F' : Hp} (e : Same F F') : ∀ (ds : List PyData) (vs : List V), DpAll K F vs ds → DpAll K F' vs ds
  | [], _, h => by
    cases h
    exact .nil
  | d :: ds, _, h => by
    cases h with
    | cons h1 h2 => exact .cons (Dp.same e d _ h1) (DpAll.same e ds _ h2)
end
theorem DpAll.snoc {F : Hp} {v : V} {d : PyData} (h2 : Dp K F v d) : ∀ {vs : List V} {ds : List PyData}, DpAll K F vs ds → DpAll K F (vs ++ [v]) (ds ++ [d])
  | [], _, h => by
    cases h
    exact .cons h2 .nil
  | x :: vs, _, h => by
    cases h with
    | cons h1 h3 => exact .cons h1 (DpAll.snoc h2 h3)
theorem DpAll.len {F : Hp} : ∀ {vs : List V} {ds : List PyData}, DpAll K F vs ds → vs.length = ds.length
  | [], _, h => by
    cases h
    rfl
  | x :: vs, _, h => by
    cases h with
    | cons h1 h3 => rw [List.length_cons, List.length_cons, DpAll.len h3]
end
/-- how far from the end -/
def rix : List Int → Int → Option Nat
  | [], _ => none
  | a :: r, i => if a = i then some 0 else (rix r i).map (· + 1)
mutual
def plD : List Int → Tm → PyData
  | _, .int n _ => .tuple [.str "int", .int n]
  | _, .prim s _ => .tuple [.str "prim", .str s]
  | env, .ref i _ => match rix env.reverse i with
    | some k => .tuple [.str "ref", .int (k : Nat)]
    | none => .tuple [.str "free", .int i]
  | env, .fn ids b _ => .tuple [.str "fn", .int (ids.length : Nat), plD (env ++ ids) b]
  | env, .rc i ids b _ => .tuple [.str "rec", .int (ids.length : Nat), plD (env ++ [i] ++ ids) b]
  | env, .lt i x b _ => .tuple [.str "let", plD env x, plD (env ++ [i]) b]
  | env, .ite x y z _ => .tuple [.str "if", plD env x, plD env y, plD env z]
  | env, .app f xs _ => .tuple [.str "app", plD env f, .list (plDs env xs)]
  | env, .pair x y _ => .tuple [.str "app", .tuple [.str "prim", .str "pair"], .list [plD env x, plD env y]]
def plDs : List Int → List Tm → List PyData
  | _, [] => []
  | env, t :: ts => plD env t :: plDs env ts
end
theorem plDs_take : ∀ {env : List Int} {ts : List Tm} {i : Nat} {t : Tm}, ts[i]? = some t → plDs env (ts.take (i + 1)) = plDs env (ts.take i) ++ [plD env t]
  | _, [], i, t, e => by simp at e
  | env, u :: ts, 0, t, e => by
    cases e
    rfl
  | env, u :: ts, i + 1, t, e => by
    have := plDs_take (env := env) (ts := ts) (i := i) e
    show plDs env (u :: ts.take (i + 1)) = plDs env (u :: ts.take i) ++ _
    simp only [plDs]
    rw [this]
    rfl
theorem plDs_length : ∀ (env : List Int) (ts : List Tm), (plDs env ts).length = ts.length
  | _, [] => rfl
  | env, t :: ts => by
    simp only [plDs, List.length_cons]
    rw [plDs_length env ts]
theorem mhts_get : ∀ {ts : List Tm} {i : Nat} {t : Tm}, ts[i]? = some t → mht t ≤ mhts ts
  | [], i, t, e => by simp at e
  | u :: ts, i, t, e => by
    simp only [mhts]
    cases i with
    | zero =>
      cases e
      omega
    | succ i =>
      have := mhts_get (ts := ts) (i := i) e
      omega
theorem mszs_get : ∀ {ts : List Tm} {i : Nat} {t : Tm}, ts[i]? = some t → msz t ≤ mszs ts
  | [], i, t, e => by simp at e
  | u :: ts, i, t, e => by
    simp only [mszs]
    cases i with
    | zero =>
      cases e
      omega
    | succ i =>
      have := mszs_get (ts := ts) (i := i) e
      omega
theorem msz_pos : ∀ t : Tm, 1 ≤ msz t := fun t => by
  cases t <;> (simp only [msz]; omega)
theorem len_mszs : ∀ ts : List Tm, ts.length ≤ mszs ts
  | [] => Nat.zero_le _
  | t :: ts => by
    have := len_mszs ts
    have := msz_pos t
    simp only [mszs, List.length_cons]
    omega
theorem rix_skip : ∀ {l : List Int} {i : Int} {k : Nat}, (∀ j, j < k → l[j]? ≠ some i) → l[k]? = some i → rix l i = some k
  | [], i, k, _, h => by simp at h
  | a :: r, i, 0, _, h => by
    have : a = i := by simpa using h
    unfold rix
    rw [if_pos this]
  | a :: r, i, k + 1, hn, h => by
    have h0 : a ≠ i := fun e => hn 0 (Nat.succ_pos _) (by rw [e]; rfl)
    unfold rix
    rw [if_neg h0, rix_skip (l := r) (k := k) (fun j hj => hn (j + 1) (by omega)) h]
    rfl
theorem rix_none : ∀ {l : List Int} {i : Int}, (∀ j, j < l.length → l[j]? ≠ some i) → rix l i = none
  | [], i, _ => rfl
  | a :: r, i, hn => by
    have h0 : a ≠ i := fun e => hn 0 (by rw [List.length_cons]; omega) (by rw [e]; rfl)
    unfold rix
    rw [if_neg h0, rix_none (l := r) fun j hj => hn (j + 1) (by rw [List.length_cons]; omega)]
    rfl
def spPlain (K : PySem.W.Frag) (n : Nat) : Sp := fun vs H Q _ => ∃ (F : Hp) (t : Tm) (v : V) (e : Addr) (env E0 : List Int), vs = [v, .ref e] ∧ Same F H ∧ TmAt F t v ∧ H e = some (.lst (env.map V.int)) ∧ env.length + 10 * mht t ≤ 200 ∧ mok E0 t ∧ mht t < n ∧ msz t ≤ 1000 ∧
  ∀ H' u, Same H H' → Dp K (nl H H') u (plD env t) → Q u H'
theorem scPlain : FnScope ["term", "env", "kind", "k", "part"] ["term", "env"] (defScope sPlain) := ⟨rfl, rfl, rfl, by decide +kernel, rfl, by decide +kernel, by decide +kernel⟩
end Sg

namespace Sg
open PySem PySem.Spec PyProof.Rows L2
theorem plain_none {f : Addr} {fd : FuncData} {P : Program} {w : World} {K : PySem.W.Frag} {mg : Str → Option Value} {base : Heap} {k : Nat} : FnOk P w K mg base CX0 k f fd ["term", "env"] (spPlain K 0) := by
  have no : ∀ vs H Q E, ¬ spPlain K 0 vs H Q E := fun vs H Q E h => by
    obtain ⟨F, t, v, e, env, E0, _, _, _, _, _, _, h1, _⟩ := h
    omega
  exact ⟨fun vs H Q E h => absurd h (no vs H Q E), fun A outer s H args us vs Q E _ _ _ _ h => absurd h (no vs H Q E)⟩
section
variable {P : Program} {w : World} {K : PySem.W.Frag} {mg : Str → Option Value} {base : Heap}
theorem ok_plain {f : Addr} {fd : FuncData} {k n : Nat} (F : Fun K "_law_plain" "_law_plain" sPlain f fd)
    (G : FnOk P w K mg base CX0 k f fd ["term", "env"] (spPlain K n)) (bF : Binds K fd ["term", "env"] []) (mF : mg "_law_plain" = some (.ref f))
    (mr : mg "range" = none) (ml : mg "len" = none) (mL : mg "list" = none) : FnOk P w K mg base CX0 (k + 1) f fd ["term", "env"] (spPlain K (n + 1)) := by
  refine F.ok scPlain (fun vs H Q E h => ?_) (fun cdv A outer st H vs Q E hr h => ?_)
  · obtain ⟨F, t, v, e, env, E0, rfl, _⟩ := h
    rfl
  obtain ⟨Fh, tm, v, e, env, E0, rfl, sF, ta, he, hlen, hm, hht, hsz, q⟩ := h
  refine ⟨_, pss_cons (ps_set (i := 2) scPlain.nd rfl (.inl rfl) (pe_ix ix_tup (pv 0) pe_int (fun _ _ => rfl)))
    (pss_cons (ps_if (pt_cmpR op_in_seq (pv 2) (pe_tup (pa_cons pe_str (pa_cons pe_str pa_nil))) rfl) (pss_one (ps_ret (pe_tup (pa_cons (pv 2) (pa_cons (pe_ix ix_tup (pv 0) pe_int (fun _ _ => rfl)) pa_nil))))) pss_nil)
    (pss_cons (ps_if (pt_cmpR op_eq (pv 2) pe_str (nomark _)) (pss_cons (ps_for PassesOwn.never rfl (pi_range1 (by rfl) mr (pa_cons (pe_callB call_len_seq (by rfl) ml PySem.boot_len (pa_cons (pv 1) pa_nil)) pa_nil)) (pg_name (i := 3) scPlain.nd rfl (.inl rfl)) (pss_one (ps_if (pt_cmpR op_eq (pe_ix ix_list (pv 1) (pe_op op_sub (pe_op op_sub (pe_callB call_len_seq (by rfl) ml PySem.boot_len (pa_cons (pv 1) pa_nil)) pe_int) (pv 3)) (fun _ _ => rfl)) (pe_ix ix_tup (pv 0) pe_int (fun _ _ => rfl)) (nomark _)) (pss_one (ps_ret (pe_tup (pa_cons pe_str (pa_cons (pv 3) pa_nil))))) pss_nil))) (pss_one (ps_ret (pe_tup (pa_cons pe_str (pa_cons (pe_ix ix_tup (pv 0) pe_int (fun _ _ => rfl)) pa_nil)))))) pss_nil)
    (pss_cons (ps_if (pt_cmpR op_eq (pv 2) pe_str (nomark _)) (pss_one (ps_ret (pe_tup (pa_cons pe_str (pa_cons (pe_callB call_len_seq (by rfl) ml PySem.boot_len (pa_cons (pe_ix ix_tup (pv 0) pe_int (fun _ _ => rfl)) pa_nil)) (pa_cons (pe_call G hr (by rfl) mF F.kp bF .nil pass0 (pa_cons (pe_ix ix_tup (pv 0) pe_int (fun _ _ => rfl)) (pa_cons (pe_op op_cat (pv 1) (pe_callTy call_list_of (by rfl) mL PyProof.Rows.boot_list (pa_cons (pe_ix ix_tup (pv 0) pe_int (fun _ _ => rfl)) pa_nil))) pa_nil))) pa_nil)))))) pss_nil)
    (pss_cons (ps_if (pt_cmpR op_eq (pv 2) pe_str (nomark _)) (pss_one (ps_ret (pe_tup (pa_cons pe_str (pa_cons (pe_callB call_len_seq (by rfl) ml PySem.boot_len (pa_cons (pe_ix ix_tup (pv 0) pe_int (fun _ _ => rfl)) pa_nil)) (pa_cons (pe_call G hr (by rfl) mF F.kp bF .nil pass0 (pa_cons (pe_ix ix_tup (pv 0) pe_int (fun _ _ => rfl)) (pa_cons (pe_op op_cat (pe_op op_cat (pv 1) (pe_lst (pa_cons (pe_ix ix_tup (pv 0) pe_int (fun _ _ => rfl)) pa_nil))) (pe_callTy call_list_of (by rfl) mL PyProof.Rows.boot_list (pa_cons (pe_ix ix_tup (pv 0) pe_int (fun _ _ => rfl)) pa_nil))) pa_nil))) pa_nil)))))) pss_nil)
    (pss_cons (ps_if (pt_cmpR op_eq (pv 2) pe_str (nomark _)) (pss_one (ps_ret (pe_tup (pa_cons pe_str (pa_cons (pe_call G hr (by rfl) mF F.kp bF .nil pass0 (pa_cons (pe_ix ix_tup (pv 0) pe_int (fun _ _ => rfl)) (pa_cons (pv 1) pa_nil))) (pa_cons (pe_call G hr (by rfl) mF F.kp bF .nil pass0 (pa_cons (pe_ix ix_tup (pv 0) pe_int (fun _ _ => rfl)) (pa_cons (pe_op op_cat (pv 1) (pe_lst (pa_cons (pe_ix ix_tup (pv 0) pe_int (fun _ _ => rfl)) pa_nil))) pa_nil))) pa_nil)))))) pss_nil)
    (pss_cons (ps_if (pt_cmpR op_eq (pv 2) pe_str (nomark _)) (pss_one (ps_ret (pe_tup (pa_cons pe_str (pa_cons (pe_call G hr (by rfl) mF F.kp bF .nil pass0 (pa_cons (pe_ix ix_tup (pv 0) pe_int (fun _ _ => rfl)) (pa_cons (pv 1) pa_nil))) (pa_cons (pe_lc (own := [("part", 4)]) (g := gName 4) (tt := tYes) rfl scPlain.nd (pi_list (pe_ix ix_tup (pv 0) pe_int (fun _ _ => rfl))) (blkOk_by (N := ["term", "env", "kind", "k", "part"]) (sc := defScope sPlain) (by decide +kernel)) (fun _ _ _ _ _ => pg_name (i := 4) scPlain.nd rfl (Or.inl rfl)) (fun _ _ _ _ _ => pts_nil) (fun _ _ _ _ _ => pe_call G hr (by rfl) mF F.kp bF .nil pass0 (pa_cons (pv 4) (pa_cons (pv 1) pa_nil)))) pa_nil)))))) pss_nil)
    (pss_cons (ps_if (pt_cmpR op_eq (pv 2) pe_str (nomark _)) (pss_one (ps_ret (pe_tup (pa_cons pe_str (pa_cons (pe_tup (pa_cons pe_str (pa_cons pe_str pa_nil))) (pa_cons (pe_lst (pa_cons (pe_call G hr (by rfl) mF F.kp bF .nil pass0 (pa_cons (pe_ix ix_tup (pv 0) pe_int (fun _ _ => rfl)) (pa_cons (pv 1) pa_nil))) (pa_cons (pe_call G hr (by rfl) mF F.kp bF .nil pass0 (pa_cons (pe_ix ix_tup (pv 0) pe_int (fun _ _ => rfl)) (pa_cons (pv 1) pa_nil))) pa_nil))) pa_nil)))))) pss_nil)
    (pss_one (ps_ret (pe_tup (pa_cons pe_str (pa_cons (pe_call G hr (by rfl) mF F.kp bF .nil pass0 (pa_cons (pe_ix ix_tup (pv 0) pe_int (fun _ _ => rfl)) (pa_cons (pv 1) pa_nil))) (pa_cons (pe_call G hr (by rfl) mF F.kp bF .nil pass0 (pa_cons (pe_ix ix_tup (pv 0) pe_int (fun _ _ => rfl)) (pa_cons (pv 1) pa_nil))) (pa_cons (pe_call G hr (by rfl) mF F.kp bF .nil pass0 (pa_cons (pe_ix ix_tup (pv 0) pe_int (fun _ _ => rfl)) (pa_cons (pv 1) pa_nil))) pa_nil)))))))))))))), ?_⟩
  cases tm with
  | int m o =>
    unfold TmAt at ta
    obtain ⟨a, wo, rfl, ea, og⟩ := ta
    have ea' := sF _ _ ea
    refine ⟨_, rfl, a, _, 0, _, rfl, rfl, SqT.of ea', at0, ?_⟩
    refine ⟨_, rfl, by show 2 ≤ sizeLine; decide, fun tp ntp => ?_⟩
    refine ⟨tp, _, rfl, .inr (SqT.of upd_same), rfl, rfl, _, rfl, ?_⟩
    have sm1 : Same H (upd H tp (.tup [.str "int", .str "prim"])) := same_new ntp _
    generalize upd H tp (.tup [.str "int", .str "prim"]) = H1 at sm1
    have ea1 := sm1 _ _ ea'
    have he1 := sm1 _ _ he
    have sF1 := sF.trans sm1
    refine if_true_of (by decide +kernel) ?_
    refine ⟨_, rfl, _, rfl, a, _, 1, _, rfl, rfl, SqT.of ea1, atI_nat (j := 1) rfl, by show 2 ≤ sizeLine; decide, fun t nt => ?_⟩
    exact q _ _ (sm1.trans (same_new nt _)) (.tup (SqT.of (nl_new (sm1.free nt) upd_same)) (.cons (.str _) (.cons (.int _) .nil)))
  | prim s o =>
    unfold TmAt at ta
    obtain ⟨a, wo, rfl, ea, og⟩ := ta
    have ea' := sF _ _ ea
    refine ⟨_, rfl, a, _, 0, _, rfl, rfl, SqT.of ea', at0, ?_⟩
    refine ⟨_, rfl, by show 2 ≤ sizeLine; decide, fun tp ntp => ?_⟩
    refine ⟨tp, _, rfl, .inr (SqT.of upd_same), rfl, rfl, _, rfl, ?_⟩
    have sm1 : Same H (upd H tp (.tup [.str "int", .str "prim"])) := same_new ntp _
    generalize upd H tp (.tup [.str "int", .str "prim"]) = H1 at sm1
    have ea1 := sm1 _ _ ea'
    have he1 := sm1 _ _ he
    have sF1 := sF.trans sm1
    refine if_true_of (by decide +kernel) ?_
    refine ⟨_, rfl, _, rfl, a, _, 1, _, rfl, rfl, SqT.of ea1, atI_nat (j := 1) rfl, by show 2 ≤ sizeLine; decide, fun t nt => ?_⟩
    exact q _ _ (sm1.trans (same_new nt _)) (.tup (SqT.of (nl_new (sm1.free nt) upd_same)) (.cons (.str _) (.cons (.str _) .nil)))
  | ref i o =>
    unfold TmAt at ta
    obtain ⟨a, wo, rfl, ea, og⟩ := ta
    have ea' := sF _ _ ea
    refine ⟨_, rfl, a, _, 0, _, rfl, rfl, SqT.of ea', at0, ?_⟩
    refine ⟨_, rfl, by show 2 ≤ sizeLine; decide, fun tp ntp => ?_⟩
    refine ⟨tp, _, rfl, .inr (SqT.of upd_same), rfl, rfl, _, rfl, ?_⟩
    have sm1 : Same H (upd H tp (.tup [.str "int", .str "prim"])) := same_new ntp _
    generalize upd H tp (.tup [.str "int", .str "prim"]) = H1 at sm1
    have ea1 := sm1 _ _ ea'
    have he1 := sm1 _ _ he
    have sF1 := sF.trans sm1
    refine if_false_of (by decide +kernel) ?_
    refine ⟨_, rfl, rfl, _, rfl, ?_⟩
    refine if_true_of str_eq ?_
    refine ⟨_, rfl, e, _, rfl, .inl (SqL.of he1), _, rfl, by omega, by rw [List.length_map]; omega, ?_⟩
    have el : (env.map V.int).length = env.length := List.length_map _
    refine for_range (lo := 0) (n := (((env.map V.int).length : Nat) : Int).toNat) (fun j σ H' => ∃ y : Option V, σ = [some (.ref a), some (.ref e), some (.str "ref"), y, none] ∧ H' = H1 ∧ ∀ m, m < j → env.reverse[m]? ≠ some i) ⟨none, rfl, rfl, fun m hm => absurd hm (Nat.not_lt_zero _)⟩ ?_ ?_
    · rintro j σ H' hj ⟨y, rfl, rfl, hno⟩
      rw [Int.toNat_natCast, el] at hj
      obtain ⟨x, hx⟩ : ∃ x, env[env.length - 1 - j]? = some x := ⟨env[env.length - 1 - j], List.getElem?_eq_getElem (by omega)⟩
      have hr2 : env.reverse[j]? = some x := by rw [List.getElem?_reverse (by omega)]; exact hx
      have hat : atI (env.map V.int) ((((env.map V.int).length : Nat) : Int) - 1 - (0 + (j : Int))) = some (.int x) := by
        have ei : (((env.map V.int).length : Nat) : Int) - 1 - (0 + (j : Int)) = ((env.length - 1 - j : Nat) : Int) := by
          rw [el]
          omega
        rw [ei]
        exact atI_nat (by rw [List.getElem?_map, hx]; rfl)
      refine ⟨_, rfl, _, rfl, e, _, rfl, .inl (SqL.of he1), _, _, rfl, rfl, _, rfl, _, _, rfl, rfl, e, _, _, _, rfl, rfl, SqL.of he1, hat, _, rfl, a, _, 1, _, rfl, rfl, SqT.of ea1, atI_nat (j := 1) rfl, rfl, _, rfl, ?_⟩
      by_cases z : x = i
      · refine if_true_of (by simp [z]) ?_
        refine ⟨_, rfl, by show 2 ≤ sizeLine; decide, fun t nt => ?_⟩
        refine q _ _ (sm1.trans (same_new nt _)) ?_
        have er := rix_skip hno (by rw [hr2, z])
        simp only [plD, er]
        have e0 : (0 : Int) + (j : Int) = (j : Nat) := Int.zero_add _
        exact .tup (SqT.of (nl_new (sm1.free nt) (by rw [upd_same, e0]))) (.cons (.str _) (.cons (.int _) .nil))
      · refine if_false_of (by simp [z]) ?_
        refine ⟨_, rfl, rfl, fun m hm => ?_⟩
        by_cases y : m = j
        · rw [y, hr2]
          exact fun w => z (Option.some.inj w)
        · exact hno m (by omega)
    · rintro σ H' ⟨y, rfl, rfl, hno⟩
      rw [Int.toNat_natCast, el] at hno
      refine ⟨_, rfl, a, _, 1, _, rfl, rfl, SqT.of ea1, atI_nat (j := 1) rfl, by show 2 ≤ sizeLine; decide, fun t nt => ?_⟩
      refine q _ _ (sm1.trans (same_new nt _)) ?_
      have er := rix_none (l := env.reverse) (i := i) (fun m hm => hno m (by rw [List.length_reverse] at hm; exact hm))
      simp only [plD, er]
      exact .tup (SqT.of (nl_new (sm1.free nt) upd_same)) (.cons (.str _) (.cons (.int _) .nil))
  | fn ids b o =>
    unfold TmAt at ta
    obtain ⟨a, l, u, wo, rfl, ea, el, tb, og⟩ := ta
    have ea' := sF _ _ ea
    refine ⟨_, rfl, a, _, 0, _, rfl, rfl, SqT.of ea', at0, ?_⟩
    refine ⟨_, rfl, by show 2 ≤ sizeLine; decide, fun tp ntp => ?_⟩
    refine ⟨tp, _, rfl, .inr (SqT.of upd_same), rfl, rfl, _, rfl, ?_⟩
    have sm1 : Same H (upd H tp (.tup [.str "int", .str "prim"])) := same_new ntp _
    generalize upd H tp (.tup [.str "int", .str "prim"]) = H1 at sm1
    have ea1 := sm1 _ _ ea'
    have he1 := sm1 _ _ he
    have sF1 := sF.trans sm1
    refine if_false_of (by decide +kernel) ?_
    refine ⟨_, rfl, rfl, _, rfl, ?_⟩
    refine if_false_of (str_ne (by decide +kernel)) ?_
    refine ⟨_, rfl, rfl, _, rfl, ?_⟩
    refine if_true_of str_eq ?_
    have el1 := sF1 _ _ el
    simp only [mok] at hm
    simp only [mht] at hht hlen
    simp only [msz] at hsz
    refine ⟨_, rfl, a, _, 1, _, rfl, rfl, SqT.of ea1, atI_nat (j := 1) rfl, l, _, rfl, .inl (SqL.of el1), _, rfl, a, _, 2, _, rfl, rfl, SqT.of ea1, atI_nat (j := 2) rfl, _, rfl, _, rfl, a, _, 1, _, rfl, rfl, SqT.of ea1, atI_nat (j := 1) rfl, l, _, rfl, .inl (SqL.of el1), fun l2 nl2 => ?_⟩
    have sm2 : Same H1 (upd H1 l2 (.lst (ids.map V.int))) := same_new nl2 _
    refine ⟨e, l2, _, _, rfl, rfl, sm2 _ _ he1, upd_same, by rw [List.length_map, List.length_map]; exact small (by omega), fun e2 ne2 => ?_⟩
    have sm3 := sm2.trans (same_new ne2 (.lst (env.map V.int ++ ids.map V.int)))
    refine ⟨Fh, b, u, e2, env ++ ids, _, rfl, sF1.trans sm3, tb, by rw [upd_same, List.map_append], by rw [List.length_append]; omega, hm.2.2.1, by omega, by omega, fun H6 v6 sm6 d6 => ?_⟩
    refine ⟨by show 3 ≤ sizeLine; decide, fun t nt => ?_⟩
    have smA := (sm1.trans sm3).trans sm6
    refine q _ _ (smA.trans (same_new nt _)) ?_
    simp only [plD]
    exact .tup (SqT.of (nl_new (smA.free nt) (by rw [upd_same, List.length_map]))) (.cons (.str _) (.cons (.int _) (.cons (Dp.same ((nl_base (Same.ls (sm1.trans sm3))).trans (nl_fresh nt _)) _ _ d6) .nil)))
  | rc i ids b o =>
    unfold TmAt at ta
    obtain ⟨a, l, u, wo, rfl, ea, el, tb, og⟩ := ta
    have ea' := sF _ _ ea
    refine ⟨_, rfl, a, _, 0, _, rfl, rfl, SqT.of ea', at0, ?_⟩
    refine ⟨_, rfl, by show 2 ≤ sizeLine; decide, fun tp ntp => ?_⟩
    refine ⟨tp, _, rfl, .inr (SqT.of upd_same), rfl, rfl, _, rfl, ?_⟩
    have sm1 : Same H (upd H tp (.tup [.str "int", .str "prim"])) := same_new ntp _
    generalize upd H tp (.tup [.str "int", .str "prim"]) = H1 at sm1
    have ea1 := sm1 _ _ ea'
    have he1 := sm1 _ _ he
    have sF1 := sF.trans sm1
    refine if_false_of (by decide +kernel) ?_
    refine ⟨_, rfl, rfl, _, rfl, ?_⟩
    refine if_false_of (str_ne (by decide +kernel)) ?_
    refine ⟨_, rfl, rfl, _, rfl, ?_⟩
    refine if_false_of (str_ne (by decide +kernel)) ?_
    refine ⟨_, rfl, rfl, _, rfl, ?_⟩
    refine if_true_of str_eq ?_
    have el1 := sF1 _ _ el
    simp only [mok] at hm
    simp only [mht] at hht hlen
    simp only [msz] at hsz
    refine ⟨_, rfl, a, _, 2, _, rfl, rfl, SqT.of ea1, atI_nat (j := 2) rfl, l, _, rfl, .inl (SqL.of el1), _, rfl, a, _, 3, _, rfl, rfl, SqT.of ea1, atI_nat (j := 3) rfl, _, rfl, _, rfl, a, _, 1, _, rfl, rfl, SqT.of ea1, atI_nat (j := 1) rfl, by show 1 ≤ sizeLine; decide, fun b1 nb1 => ?_⟩
    have sb1 : Same H1 (upd H1 b1 (.lst [.int i])) := same_new nb1 _
    refine ⟨e, b1, _, _, rfl, rfl, sb1 _ _ he1, upd_same, by rw [List.length_map]; show env.length + 1 ≤ sizeLine; exact small (by omega), fun b2 nb2 => ?_⟩
    have sb2 := sb1.trans (same_new nb2 (.lst (env.map V.int ++ [.int i])))
    refine ⟨_, rfl, a, _, 2, _, rfl, rfl, SqT.of (sb2 _ _ ea1), atI_nat (j := 2) rfl, l, _, rfl, .inl (SqL.of (sb2 _ _ el1)), fun l2 nl2 => ?_⟩
    have sb3 := (same_new nl2 (.lst (ids.map V.int)) : Same _ (upd (upd (upd H1 b1 (.lst [.int i])) b2 (.lst (env.map V.int ++ [.int i]))) l2 (.lst (ids.map V.int))))
    refine ⟨b2, l2, _, _, rfl, rfl, sb3 _ _ upd_same, upd_same, by rw [List.length_append, List.length_map, List.length_map]; show env.length + 1 + ids.length ≤ sizeLine; exact small (by omega), fun e2 ne2 => ?_⟩
    have sm3 := (sb2.trans sb3).trans (same_new ne2 (.lst (env.map V.int ++ [.int i] ++ ids.map V.int)))
    refine ⟨Fh, b, u, e2, env ++ [i] ++ ids, _, rfl, sF1.trans sm3, tb, by rw [upd_same, List.map_append, List.map_append]; rfl, by rw [List.length_append, List.length_append]; show env.length + 1 + ids.length + 10 * mht b ≤ 200; omega, hm.2.2.2.1, by omega, by omega, fun H6 v6 sm6 d6 => ?_⟩
    refine ⟨by show 3 ≤ sizeLine; decide, fun t nt => ?_⟩
    have smA := (sm1.trans sm3).trans sm6
    refine q _ _ (smA.trans (same_new nt _)) ?_
    simp only [plD]
    exact .tup (SqT.of (nl_new (smA.free nt) (by rw [upd_same, List.length_map]))) (.cons (.str _) (.cons (.int _) (.cons (Dp.same ((nl_base (Same.ls (sm1.trans sm3))).trans (nl_fresh nt _)) _ _ d6) .nil)))
  | lt i x b o =>
    unfold TmAt at ta
    obtain ⟨a, u1, u2, wo, rfl, ea, tx, tb, og⟩ := ta
    have ea' := sF _ _ ea
    refine ⟨_, rfl, a, _, 0, _, rfl, rfl, SqT.of ea', at0, ?_⟩
    refine ⟨_, rfl, by show 2 ≤ sizeLine; decide, fun tp ntp => ?_⟩
    refine ⟨tp, _, rfl, .inr (SqT.of upd_same), rfl, rfl, _, rfl, ?_⟩
    have sm1 : Same H (upd H tp (.tup [.str "int", .str "prim"])) := same_new ntp _
    generalize upd H tp (.tup [.str "int", .str "prim"]) = H1 at sm1
    have ea1 := sm1 _ _ ea'
    have he1 := sm1 _ _ he
    have sF1 := sF.trans sm1
    refine if_false_of (by decide +kernel) ?_
    refine ⟨_, rfl, rfl, _, rfl, ?_⟩
    refine if_false_of (str_ne (by decide +kernel)) ?_
    refine ⟨_, rfl, rfl, _, rfl, ?_⟩
    refine if_false_of (str_ne (by decide +kernel)) ?_
    refine ⟨_, rfl, rfl, _, rfl, ?_⟩
    refine if_false_of (str_ne (by decide +kernel)) ?_
    refine ⟨_, rfl, rfl, _, rfl, ?_⟩
    refine if_true_of str_eq ?_
    simp only [mok] at hm
    simp only [mht] at hht hlen
    simp only [msz] at hsz
    refine ⟨_, rfl, a, _, 2, _, rfl, rfl, SqT.of ea1, atI_nat (j := 2) rfl, _, rfl, Fh, x, u1, e, env, _, rfl, sF1, tx, he1, by omega, hm.2.1, by omega, by omega, fun H4 v4 sm4 d4 => ?_⟩
    refine ⟨_, rfl, a, _, 3, _, rfl, rfl, SqT.of (sm4 _ _ ea1), atI_nat (j := 3) rfl, _, rfl, _, rfl, a, _, 1, _, rfl, rfl, SqT.of (sm4 _ _ ea1), atI_nat (j := 1) rfl, by show 1 ≤ sizeLine; decide, fun b1 nb1 => ?_⟩
    have sb1 : Same H4 (upd H4 b1 (.lst [.int i])) := same_new nb1 _
    refine ⟨e, b1, _, _, rfl, rfl, sb1 _ _ (sm4 _ _ he1), upd_same, by rw [List.length_map]; show env.length + 1 ≤ sizeLine; exact small (by omega), fun e2 ne2 => ?_⟩
    have sm3 := sb1.trans (same_new ne2 (.lst (env.map V.int ++ [.int i])))
    have sm5 := sm4.trans sm3
    refine ⟨Fh, b, u2, e2, env ++ [i], _, rfl, sF1.trans sm5, tb, by rw [upd_same, List.map_append]; rfl, by rw [List.length_append]; show env.length + 1 + 10 * mht b ≤ 200; omega, hm.2.2.1, by omega, by omega, fun H6 v6 sm6 d6 => ?_⟩
    refine ⟨by show 3 ≤ sizeLine; decide, fun t nt => ?_⟩
    have smA := (sm1.trans sm5).trans sm6
    refine q _ _ (smA.trans (same_new nt _)) ?_
    simp only [plD]
    have g4 : Same (nl H1 H4) (nl H (upd H6 t (.tup [.str "let", v4, v6]))) := (nl_base (Same.ls sm1)).trans (nl_grow fun bb oo _ y => same_new nt _ _ _ (sm6 _ _ (sm3 _ _ y)))
    exact .tup (SqT.of (nl_new (smA.free nt) upd_same)) (.cons (.str _) (.cons (Dp.same g4 _ _ d4) (.cons (Dp.same ((nl_base (Same.ls (sm1.trans sm5))).trans (nl_fresh nt _)) _ _ d6) .nil)))
  | ite x y z o =>
    unfold TmAt at ta
    obtain ⟨a, u1, u2, u3, wo, rfl, ea, tx, ty, tz, og⟩ := ta
    have ea' := sF _ _ ea
    refine ⟨_, rfl, a, _, 0, _, rfl, rfl, SqT.of ea', at0, ?_⟩
    refine ⟨_, rfl, by show 2 ≤ sizeLine; decide, fun tp ntp => ?_⟩
    refine ⟨tp, _, rfl, .inr (SqT.of upd_same), rfl, rfl, _, rfl, ?_⟩
    have sm1 : Same H (upd H tp (.tup [.str "int", .str "prim"])) := same_new ntp _
    generalize upd H tp (.tup [.str "int", .str "prim"]) = H1 at sm1
    have ea1 := sm1 _ _ ea'
    have he1 := sm1 _ _ he
    have sF1 := sF.trans sm1
    refine if_false_of (by decide +kernel) ?_
    refine ⟨_, rfl, rfl, _, rfl, ?_⟩
    refine if_false_of (str_ne (by decide +kernel)) ?_
    refine ⟨_, rfl, rfl, _, rfl, ?_⟩
    refine if_false_of (str_ne (by decide +kernel)) ?_
    refine ⟨_, rfl, rfl, _, rfl, ?_⟩
    refine if_false_of (str_ne (by decide +kernel)) ?_
    refine ⟨_, rfl, rfl, _, rfl, ?_⟩
    refine if_false_of (str_ne (by decide +kernel)) ?_
    refine ⟨_, rfl, rfl, _, rfl, ?_⟩
    refine if_false_of (str_ne (by decide +kernel)) ?_
    refine ⟨_, rfl, rfl, _, rfl, ?_⟩
    refine if_false_of (str_ne (by decide +kernel)) ?_
    simp only [mok] at hm
    simp only [mht] at hht hlen
    simp only [msz] at hsz
    refine ⟨_, rfl, a, _, 1, _, rfl, rfl, SqT.of ea1, atI_nat (j := 1) rfl, _, rfl, Fh, x, u1, e, env, _, rfl, sF1, tx, he1, by omega, hm.1, by omega, by omega, fun H4 v4 sm4 d4 => ?_⟩
    refine ⟨_, rfl, a, _, 2, _, rfl, rfl, SqT.of (sm4 _ _ ea1), atI_nat (j := 2) rfl, _, rfl, Fh, y, u2, e, env, _, rfl, sF1.trans sm4, ty, sm4 _ _ he1, by omega, hm.2.1, by omega, by omega, fun H5 v5 sm5 d5 => ?_⟩
    refine ⟨_, rfl, a, _, 3, _, rfl, rfl, SqT.of ((sm4.trans sm5) _ _ ea1), atI_nat (j := 3) rfl, _, rfl, Fh, z, u3, e, env, _, rfl, (sF1.trans sm4).trans sm5, tz, sm5 _ _ (sm4 _ _ he1), by omega, hm.2.2.1, by omega, by omega, fun H6 v6 sm6 d6 => ?_⟩
    refine ⟨by show 4 ≤ sizeLine; decide, fun t nt => ?_⟩
    have smA := ((sm1.trans sm4).trans sm5).trans sm6
    refine q _ _ (smA.trans (same_new nt _)) ?_
    simp only [plD]
    have g4 : Same (nl H1 H4) (nl H (upd H6 t (.tup [.str "if", v4, v5, v6]))) := (nl_base (Same.ls sm1)).trans (nl_grow fun bb oo _ y => same_new nt _ _ _ (sm6 _ _ (sm5 _ _ y)))
    have g5 : Same (nl H4 H5) (nl H (upd H6 t (.tup [.str "if", v4, v5, v6]))) := (nl_base (Same.ls (sm1.trans sm4))).trans (nl_grow fun bb oo _ y => same_new nt _ _ _ (sm6 _ _ y))
    exact .tup (SqT.of (nl_new (smA.free nt) upd_same)) (.cons (.str _) (.cons (Dp.same g4 _ _ d4) (.cons (Dp.same g5 _ _ d5) (.cons (Dp.same ((nl_base (Same.ls ((sm1.trans sm4).trans sm5))).trans (nl_fresh nt _)) _ _ d6) .nil))))
  | app f0 xs o =>
    unfold TmAt at ta
    obtain ⟨a, u, l, vs, wo, rfl, ea, el, tf, txs, og⟩ := ta
    have ea' := sF _ _ ea
    refine ⟨_, rfl, a, _, 0, _, rfl, rfl, SqT.of ea', at0, ?_⟩
    refine ⟨_, rfl, by show 2 ≤ sizeLine; decide, fun tp ntp => ?_⟩
    refine ⟨tp, _, rfl, .inr (SqT.of upd_same), rfl, rfl, _, rfl, ?_⟩
    have sm1 : Same H (upd H tp (.tup [.str "int", .str "prim"])) := same_new ntp _
    generalize upd H tp (.tup [.str "int", .str "prim"]) = H1 at sm1
    have ea1 := sm1 _ _ ea'
    have he1 := sm1 _ _ he
    have sF1 := sF.trans sm1
    refine if_false_of (by decide +kernel) ?_
    refine ⟨_, rfl, rfl, _, rfl, ?_⟩
    refine if_false_of (str_ne (by decide +kernel)) ?_
    refine ⟨_, rfl, rfl, _, rfl, ?_⟩
    refine if_false_of (str_ne (by decide +kernel)) ?_
    refine ⟨_, rfl, rfl, _, rfl, ?_⟩
    refine if_false_of (str_ne (by decide +kernel)) ?_
    refine ⟨_, rfl, rfl, _, rfl, ?_⟩
    refine if_false_of (str_ne (by decide +kernel)) ?_
    refine ⟨_, rfl, rfl, _, rfl, ?_⟩
    refine if_true_of str_eq ?_
    simp only [mok] at hm
    simp only [mht] at hht hlen
    simp only [msz] at hsz
    have lvs := txs.len
    have lxs := len_mszs xs
    refine ⟨_, rfl, a, _, 1, _, rfl, rfl, SqT.of ea1, atI_nat (j := 1) rfl, _, rfl, Fh, f0, u, e, env, _, rfl, sF1, tf, he1, by omega, hm.1, by omega, by omega, fun H4 v4 sm4 d4 => ?_⟩
    have sF4 := sF1.trans sm4
    have sm14 := sm1.trans sm4
    refine ⟨_, rfl, a, _, 2, _, rfl, rfl, SqT.of (sm4 _ _ ea1), atI_nat (j := 2) rfl, l, rfl, ⟨vs, SqL.of (sF4 _ _ el)⟩, fun D hD => ?_⟩
    have hDH := sm14.free hD
    obtain ⟨HD, hHD⟩ : ∃ HD, HD = upd H4 D (.lst []) := ⟨_, rfl⟩
    have smD : Same H4 HD := by
      rw [hHD]
      exact same_new hD _
    have eHD : HD D = some (.lst []) := by
      rw [hHD]
      exact upd_same
    refine lc_list (K := K) (a := l) (xs := vs) (fun j H' => Same H4 H' ∧ Ls HD H' ∧ ∃ ws : List V, H' D = some (.lst ws) ∧ DpAll K (nl HD H') ws (plDs env (xs.take j)) ∧ ws.length = j ∧ j ≤ xs.length)
      ⟨same_new hD _, (show Ls HD (upd H4 D (.lst [])) from hHD ▸ Ls.refl _), [], upd_same, .nil, rfl, Nat.zero_le _⟩ (fun j H' _ h' => SqL.of (h'.1 _ _ (sF4 _ _ el))) ?_ ?_
    · rintro j v H' hv ⟨sm5, ls5, ws, eD, dw, hw, hj⟩
      refine ⟨rfl, yes_k ?_⟩
      obtain ⟨tt, ht, tv⟩ := txs.get hv
      have hj' : j < xs.length := (List.getElem?_eq_some_iff.mp ht).1
      have z1 := mhts_get ht
      have z2 := mszs_get ht
      refine ⟨_, rfl, _, rfl, Fh, tt, v, e, env, E0, rfl, sF4.trans sm5, tv, sm5 _ _ (sm4 _ _ he1), by omega, moks_get hm.2.1 ht, by omega, by omega, fun H6 v6 sm6 d6 => ?_⟩
      have eD6 := sm6 _ _ eD
      have sp : Same (nl HD H6) (nl HD (upd H6 D (.lst (ws ++ [v6])))) := nl_put eHD _
      refine ⟨ws, eD6, by rw [hw]; exact smallL (by omega), same_mut (sm5.trans sm6) hD _, (ls5.trans (Same.ls sm6)).put, ws ++ [v6], upd_same, ?_, by rw [List.length_append, hw]; rfl, hj'⟩
      rw [plDs_take ht]
      exact DpAll.snoc (Dp.same ((nl_base ls5).trans sp) _ _ d6) (DpAll.same ((nl_grow fun bb oo _ y => sm6 _ _ y).trans sp) _ _ dw)
    rintro H5 ⟨sm5, ls5, ws, eD, dw, hw, hj⟩
    rw [lvs, List.take_length] at dw
    refine ⟨by show 3 ≤ sizeLine; decide, fun t nt => ?_⟩
    have smA := sm14.trans sm5
    refine q _ _ (smA.trans (same_new nt _)) ?_
    simp only [plD]
    have g4 : Same (nl H1 H4) (nl H (upd H5 t (.tup [.str "app", v4, .ref D]))) := (nl_base (Same.ls sm1)).trans (nl_grow fun bb oo _ y => same_new nt _ _ _ (sm5 _ _ y))
    exact .tup (SqT.of (nl_new (smA.free nt) upd_same)) (.cons (.str _) (.cons (Dp.same g4 _ _ d4) (.cons (.lst (SqL.of (nl_new hDH (same_new nt _ _ _ eD))) (DpAll.same ((nl_base (Same.ls (sm14.trans smD))).trans (nl_fresh nt _)) _ _ dw)) .nil)))
  | pair x y o =>
    unfold TmAt at ta
    obtain ⟨a, u1, u2, wo, rfl, ea, tx, ty, og⟩ := ta
    simp only [mok] at hm
end
end Sg

namespace Sg
open PySem PySem.Spec PyProof.Rows L2
/-! ### terms as data: ==, repr -/
def ogD (o : Og) : PyData := .tuple [.int o.u, .tuple (o.rs.map PyData.int), .int o.h]
mutual
def tmD : Tm → PyData
  | .int n o => .tuple [.str "int", .int n, ogD o]
  | .prim s o => .tuple [.str "prim", .str s, ogD o]
  | .ref i o => .tuple [.str "ref", .int i, ogD o]
  | .fn ids b o => .tuple [.str "fn", .list (ids.map PyData.int), tmD b, ogD o]
  | .rc i ids b o => .tuple [.str "rec", .int i, .list (ids.map PyData.int), tmD b, ogD o]
  | .lt i x b o => .tuple [.str "let", .int i, tmD x, tmD b, ogD o]
  | .ite x y z o => .tuple [.str "if", tmD x, tmD y, tmD z, ogD o]
  | .app f xs o => .tuple [.str "app", tmD f, .list (tmDs xs), ogD o]
  | .pair x y o => .tuple [.str "pair", tmD x, tmD y, ogD o]
def tmDs : List Tm → List PyData
  | [] => []
  | t :: ts => tmD t :: tmDs ts
end
section
variable {K : PySem.W.Frag}
theorem dp_ints {F : Hp} : ∀ rs : List Int, DpAll K F (rs.map V.int) (rs.map PyData.int)
  | [] => .nil
  | r :: rs => .cons (.int r) (dp_ints rs)
theorem dp_og {F : Hp} {o : Og} {v : V} (h : OgAt F o v) : Dp K F v (ogD o) := by
  obtain ⟨a, b, rfl, h1, h2⟩ := h
  exact .tup (SqT.of h1) (.cons (.int _) (.cons (.tup (SqT.of h2) (dp_ints _)) (.cons (.int _) .nil)))
mutual
theorem dp_tm {F : Hp} : ∀ (t : Tm) (v : V), TmAt F t v → Dp K F v (tmD t)
  | .int n o, v, h => by
    unfold TmAt at h
    obtain ⟨a, w, rfl, h1, h2⟩ := h
    simp only [tmD]
    exact .tup (SqT.of h1) (.cons (.str _) (.cons (.int _) (.cons (dp_og h2) .nil)))
  | .prim s o, v, h => by
    unfold TmAt at h
    obtain ⟨a, w, rfl, h1, h2⟩ := h
    simp only [tmD]
    exact .tup (SqT.of h1) (.cons (.str _) (.cons (.str _) (.cons (dp_og h2) .nil)))
  | .ref i o, v, h => by
    unfold TmAt at h
    obtain ⟨a, w, rfl, h1, h2⟩ := h
    simp only [tmD]
    exact .tup (SqT.of h1) (.cons (.str _) (.cons (.int _) (.cons (dp_og h2) .nil)))
  | .fn ids b o, v, h => by
    unfold TmAt at h
    obtain ⟨a, l, u, w, rfl, h1, h2, h3, h4⟩ := h
    simp only [tmD]
    exact .tup (SqT.of h1) (.cons (.str _) (.cons (.lst (SqL.of h2) (dp_ints _)) (.cons (dp_tm b u h3) (.cons (dp_og h4) .nil))))
  | .rc i ids b o, v, h => by
    unfold TmAt at h
    obtain ⟨a, l, u, w, rfl, h1, h2, h3, h4⟩ := h
    simp only [tmD]
    exact .tup (SqT.of h1) (.cons (.str _) (.cons (.int _) (.cons (.lst (SqL.of h2) (dp_ints _)) (.cons (dp_tm b u h3) (.cons (dp_og h4) .nil)))))
  | .lt i x b o, v, h => by
    unfold TmAt at h
    obtain ⟨a, u1, u2, w, rfl, h1, h2, h3, h4⟩ := h
    simp only [tmD]
    exact .tup (SqT.of h1) (.cons (.str _) (.cons (.int _) (.cons (dp_tm x u1 h2) (.cons (dp_tm b u2 h3) (.cons (dp_og h4) .nil)))))
  | .ite x y z o, v, h => by
    unfold TmAt at h
    obtain ⟨a, u1, u2, u3, w, rfl, h1, h2, h3, h4, h5⟩ := h
    simp only [tmD]
    exact .tup (SqT.of h1) (.cons (.str _) (.cons (dp_tm x u1 h2) (.cons (dp_tm y u2 h3) (.cons (dp_tm z u3 h4) (.cons (dp_og h5) .nil)))))
  | .app f xs o, v, h => by
    unfold TmAt at h
    obtain ⟨a, u, l, vs, w, rfl, h1, h2, h3, h4, h5⟩ := h
    simp only [tmD]
    exact .tup (SqT.of h1) (.cons (.str _) (.cons (dp_tm f u h3) (.cons (.lst (SqL.of h2) (dp_tms xs vs h4)) (.cons (dp_og h5) .nil))))
  | .pair x y o, v, h => by
    unfold TmAt at h
    obtain ⟨a, u1, u2, w, rfl, h1, h2, h3, h4⟩ := h
    simp only [tmD]
    exact .tup (SqT.of h1) (.cons (.str _) (.cons (dp_tm x u1 h2) (.cons (dp_tm y u2 h3) (.cons (dp_og h4) .nil))))
theorem dp_tms {F : Hp} : ∀ (ts : List Tm) (vs : List V), TmsAt F ts vs → DpAll K F vs (tmDs ts)
  | [], vs, h => by
    unfold TmsAt at h
    subst h
    simp only [tmDs]
    exact .nil
  | t :: ts, vs, h => by
    unfold TmsAt at h
    obtain ⟨v, r, rfl, h2, h3⟩ := h
    simp only [tmDs]
    exact .cons (dp_tm t v h2) (dp_tms ts r h3)
end
end
theorem ints_can : ∀ rs : List Int, PyData.canLayAll0 (rs.map PyData.int) = true
  | [] => rfl
  | r :: rs => by
    simp only [List.map_cons, PyData.canLayAll0, PyData.canLay0, Bool.true_and]
    exact ints_can rs
theorem ints_depth : ∀ rs : List Int, PyData.depthAll (rs.map PyData.int) = 0
  | [] => rfl
  | r :: rs => by
    simp only [List.map_cons, PyData.depthAll, PyData.depth]
    rw [ints_depth rs]
    rfl
theorem og_can (o : Og) : PyData.canLay0 (ogD o) = true := by
  simp only [ogD, PyData.canLay0, PyData.canLayAll0, Bool.and_true, Bool.true_and]
  exact ints_can _
theorem og_depth (o : Og) : PyData.depth (ogD o) = 2 := by
  simp only [ogD, PyData.depth, PyData.depthAll]
  rw [ints_depth]
  rfl
theorem strOk_of {s : Str} (h : ∀ c ∈ s.cps.toList, c < 128) : PyData.strOk s = true := by
  show s.cps.all (· < 0x110000) = true
  rw [← Array.all_toList]
  exact List.all_eq_true.mpr fun c hc => decide_eq_true (Nat.lt_trans (h c hc) (by decide))
mutual
theorem tm_can : ∀ (env : List Int) (t : Tm), mok env t → PyData.canLay0 (tmD t) = true
  | env, .int n o, _ => by
    simp only [tmD, PyData.canLay0, PyData.canLayAll0, og_can, Bool.and_true]
    decide +kernel
  | env, .prim s o, h => by
    simp only [mok] at h
    simp only [tmD, PyData.canLay0, PyData.canLayAll0, og_can, strOk_of h.2.1, Bool.and_true]
    decide +kernel
  | env, .ref i o, _ => by
    simp only [tmD, PyData.canLay0, PyData.canLayAll0, og_can, Bool.and_true]
    decide +kernel
  | env, .fn ids b o, h => by
    simp only [mok] at h
    simp only [tmD, PyData.canLay0, PyData.canLayAll0, og_can, ints_can, tm_can _ b h.2.2.1, Bool.and_true]
    decide +kernel
  | env, .rc i ids b o, h => by
    simp only [mok] at h
    simp only [tmD, PyData.canLay0, PyData.canLayAll0, og_can, ints_can, tm_can _ b h.2.2.2.1, Bool.and_true]
    decide +kernel
  | env, .lt i x b o, h => by
    simp only [mok] at h
    simp only [tmD, PyData.canLay0, PyData.canLayAll0, og_can, tm_can _ x h.2.1, tm_can _ b h.2.2.1, Bool.and_true]
    decide +kernel
  | env, .ite x y z o, h => by
    simp only [mok] at h
    simp only [tmD, PyData.canLay0, PyData.canLayAll0, og_can, tm_can _ x h.1, tm_can _ y h.2.1, tm_can _ z h.2.2.1, Bool.and_true]
    decide +kernel
  | env, .app f xs o, h => by
    simp only [mok] at h
    simp only [tmD, PyData.canLay0, PyData.canLayAll0, og_can, tm_can _ f h.1, tms_can _ xs h.2.1, Bool.and_true]
    decide +kernel
  | env, .pair x y o, h => by simp only [mok] at h
theorem tms_can : ∀ (env : List Int) (ts : List Tm), moks env ts → PyData.canLayAll0 (tmDs ts) = true
  | _, [], _ => rfl
  | env, t :: ts, h => by
    simp only [moks] at h
    simp only [tmDs, PyData.canLayAll0, tm_can env t h.1, tms_can env ts h.2]
    rfl
end
mutual
theorem tm_depth : ∀ t : Tm, PyData.depth (tmD t) ≤ 2 * mht t + 3
  | .int n o => by
    simp only [tmD, PyData.depth, PyData.depthAll, og_depth, mht]
    omega
  | .prim s o => by
    simp only [tmD, PyData.depth, PyData.depthAll, og_depth, mht]
    omega
  | .ref i o => by
    simp only [tmD, PyData.depth, PyData.depthAll, og_depth, mht]
    omega
  | .fn ids b o => by
    have := tm_depth b
    simp only [tmD, PyData.depth, PyData.depthAll, og_depth, ints_depth, mht]
    omega
  | .rc i ids b o => by
    have := tm_depth b
    simp only [tmD, PyData.depth, PyData.depthAll, og_depth, ints_depth, mht]
    omega
  | .lt i x b o => by
    have := tm_depth x
    have := tm_depth b
    simp only [tmD, PyData.depth, PyData.depthAll, og_depth, mht]
    omega
  | .ite x y z o => by
    have := tm_depth x
    have := tm_depth y
    have := tm_depth z
    simp only [tmD, PyData.depth, PyData.depthAll, og_depth, mht]
    omega
  | .app f xs o => by
    have := tm_depth f
    have := tms_depth xs
    simp only [tmD, PyData.depth, PyData.depthAll, og_depth, mht]
    omega
  | .pair x y o => by
    have := tm_depth x
    have := tm_depth y
    simp only [tmD, PyData.depth, PyData.depthAll, og_depth, mht]
    omega
theorem tms_depth : ∀ ts : List Tm, PyData.depthAll (tmDs ts) ≤ 2 * mhts ts + 3
  | [] => by
    simp only [tmDs, PyData.depthAll]
    omega
  | t :: ts => by
    have := tm_depth t
    have := tms_depth ts
    simp only [tmDs, PyData.depthAll, mhts]
    omega
end
end Sg

namespace Sg
open PySem PySem.Spec PyProof.Rows L2
/-! ### how long a term is shown -/
theorem num_len {n : Int} (h : n.natAbs ≤ 999999999) : (Str.ofString (toString n)).length ≤ 10 := by
  have hl : (TL.numL n.natAbs).length ≤ 9 := TL.numL_len (by decide) (by omega)
  by_cases z : 0 ≤ n
  · have e : n = ((n.natAbs : Nat) : Int) := by omega
    have q : (Str.ofString (toString ((n.natAbs : Nat) : Int))).cps.toList = TL.numL n.natAbs := TL.tl_num n.natAbs
    rw [e]
    show (Str.ofString (toString ((n.natAbs : Nat) : Int))).cps.size ≤ 10
    rw [← Array.length_toList, q]
    omega
  · have hn : n < 0 := by omega
    rw [PyProof.Rows.len_text_neg hn]
    have e : (0 : Int) - n = ((n.natAbs : Nat) : Int) := by omega
    rw [e]
    have q : (Str.ofString (toString ((n.natAbs : Nat) : Int))).cps.toList = TL.numL n.natAbs := TL.tl_num n.natAbs
    show 1 + (Str.ofString (toString ((n.natAbs : Nat) : Int))).cps.size ≤ 10
    rw [← Array.length_toList, q]
    omega
theorem num_log {n : Int} (h : n.natAbs ≤ 999999999) : n.natAbs.log2 < 1920 := by
  by_cases z : n.natAbs = 0
  · rw [z]
    decide
  · have : n.natAbs.log2 < 30 := (Nat.log2_lt z (k := 30)).mpr (by omega)
    omega
theorem ints_show : ∀ rs : List Int, (∀ r ∈ rs, r.natAbs ≤ 999999999) → PyData.showableAll (rs.map PyData.int) = true ∧ PyData.hasDictAll (rs.map PyData.int) = false ∧ ((PyData.shownAll (rs.map PyData.int)).map (·.length)).sum + 2 * (PyData.shownAll (rs.map PyData.int)).length ≤ 12 * rs.length
  | [], _ => ⟨rfl, rfl, Nat.le_refl _⟩
  | r :: rs, h => by
    have q := ints_show rs fun x hx => h x (List.mem_cons_of_mem _ hx)
    have hr := h r List.mem_cons_self
    have := num_len hr
    simp only [List.map_cons, PyData.showableAll, PyData.hasDictAll, PyData.shownAll, PyData.showable, PyData.hasDict, PyData.shown, List.sum_cons, List.length_cons]
    refine ⟨by rw [decide_eq_true (num_log hr), q.1]; rfl, by rw [q.2.1]; rfl, ?_⟩
    omega
theorem og_show {o : Og} (h : OgOk o) : PyData.showable (ogD o) = true ∧ PyData.hasDict (ogD o) = false ∧ (PyData.shown (ogD o)).length ≤ 90 := by
  obtain ⟨h1, h2, h3, h4⟩ := h
  have q := ints_show o.rs fun r hr => by have := h3 r hr; omega
  have l1 := num_len (n := o.u) (by omega)
  have l2 := num_len (n := o.h) (by omega)
  have z1 := tupleText_len_le (PyData.shownAll (o.rs.map PyData.int))
  have z := tupleText_len_le [(toString o.u : Str), tupleText (PyData.shownAll (o.rs.map PyData.int)), (toString o.h : Str)]
  simp only [ogD, PyData.showable, PyData.showableAll, PyData.hasDict, PyData.hasDictAll, PyData.shown, PyData.shownAll]
  simp only [List.map_cons, List.map_nil, List.sum_cons, List.sum_nil, List.length_cons, List.length_nil] at z
  refine ⟨by rw [decide_eq_true (num_log (n := o.u) (by omega)), decide_eq_true (num_log (n := o.h) (by omega)), q.1]; rfl, by rw [q.2.1]; rfl, ?_⟩
  have := q.2.2
  omega
theorem ids_show {rs : List Int} (h : ∀ r ∈ rs, r.natAbs ≤ 100000) (hl : rs.length ≤ 4) : PyData.showableAll (rs.map PyData.int) = true ∧ PyData.hasDictAll (rs.map PyData.int) = false ∧ (listText (PyData.shownAll (rs.map PyData.int))).length ≤ 51 := by
  have q := ints_show rs fun r hr => by have := h r hr; omega
  have z := listText_len_le (PyData.shownAll (rs.map PyData.int))
  exact ⟨q.1, q.2.1, by have := q.2.2; omega⟩
mutual
theorem tm_show : ∀ (env : List Int) (t : Tm), mok env t → PyData.showable (tmD t) = true ∧ PyData.hasDict (tmD t) = false ∧ (PyData.shown (tmD t)).length + 2 ≤ 400 * msz t
  | env, .int n o, h => by
    simp only [mok] at h
    have g := og_show h.2
    have l := num_len h.1
    have e1 : (reprText "int").length = 5 := by decide +kernel
    have z := tupleText_len_le [reprText "int", (toString n : Str), PyData.shown (ogD o)]
    simp only [tmD, PyData.showable, PyData.showableAll, PyData.hasDict, PyData.hasDictAll, PyData.shown, PyData.shownAll, msz]
    simp only [List.map_cons, List.map_nil, List.sum_cons, List.sum_nil, List.length_cons, List.length_nil] at z
    refine ⟨by rw [decide_eq_true (num_log h.1), g.1]; rfl, by rw [g.2.1]; rfl, by omega⟩
  | env, .prim s o, h => by
    simp only [mok] at h
    have g := og_show h.2.2
    have l := StrLaws.reprText_len s (fun c hc => Nat.lt_trans (h.2.1 c hc) (by decide))
    have e1 : (reprText "prim").length = 6 := by decide +kernel
    have z := tupleText_len_le [reprText "prim", reprText s, PyData.shown (ogD o)]
    simp only [tmD, PyData.showable, PyData.showableAll, PyData.hasDict, PyData.hasDictAll, PyData.shown, PyData.shownAll, msz]
    simp only [List.map_cons, List.map_nil, List.sum_cons, List.sum_nil, List.length_cons, List.length_nil] at z
    refine ⟨by rw [g.1]; rfl, by rw [g.2.1]; rfl, by omega⟩
  | env, .ref i o, h => by
    simp only [mok] at h
    have g := og_show h.2.2
    have l := num_len (n := i) (by omega)
    have e1 : (reprText "ref").length = 5 := by decide +kernel
    have z := tupleText_len_le [reprText "ref", (toString i : Str), PyData.shown (ogD o)]
    simp only [tmD, PyData.showable, PyData.showableAll, PyData.hasDict, PyData.hasDictAll, PyData.shown, PyData.shownAll, msz]
    simp only [List.map_cons, List.map_nil, List.sum_cons, List.sum_nil, List.length_cons, List.length_nil] at z
    refine ⟨by rw [decide_eq_true (num_log (n := i) (by omega)), g.1]; rfl, by rw [g.2.1]; rfl, by omega⟩
  | env, .fn ids b o, h => by
    simp only [mok] at h
    have g := og_show h.2.2.2.1
    have l := ids_show h.2.1 h.1
    have qb := tm_show _ b h.2.2.1
    have e1 : (reprText "fn").length = 4 := by decide +kernel
    have z := tupleText_len_le [reprText "fn", listText (PyData.shownAll (ids.map PyData.int)), PyData.shown (tmD b), PyData.shown (ogD o)]
    simp only [tmD, PyData.showable, PyData.showableAll, PyData.hasDict, PyData.hasDictAll, PyData.shown, PyData.shownAll, msz]
    simp only [List.map_cons, List.map_nil, List.sum_cons, List.sum_nil, List.length_cons, List.length_nil] at z
    refine ⟨by rw [l.1, qb.1, g.1]; rfl, by rw [l.2.1, qb.2.1, g.2.1]; rfl, by omega⟩
  | env, .rc i ids b o, h => by
    simp only [mok] at h
    have g := og_show h.2.2.2.2.1
    have l := ids_show h.2.2.1 h.1
    have l2 := num_len (n := i) (by omega)
    have qb := tm_show _ b h.2.2.2.1
    have e1 : (reprText "rec").length = 5 := by decide +kernel
    have z := tupleText_len_le [reprText "rec", (toString i : Str), listText (PyData.shownAll (ids.map PyData.int)), PyData.shown (tmD b), PyData.shown (ogD o)]
    simp only [tmD, PyData.showable, PyData.showableAll, PyData.hasDict, PyData.hasDictAll, PyData.shown, PyData.shownAll, msz]
    simp only [List.map_cons, List.map_nil, List.sum_cons, List.sum_nil, List.length_cons, List.length_nil] at z
    refine ⟨by rw [decide_eq_true (num_log (n := i) (by omega)), l.1, qb.1, g.1]; rfl, by rw [l.2.1, qb.2.1, g.2.1]; rfl, by omega⟩
  | env, .lt i x b o, h => by
    simp only [mok] at h
    have g := og_show h.2.2.2
    have l2 := num_len (n := i) (by omega)
    have qx := tm_show _ x h.2.1
    have qb := tm_show _ b h.2.2.1
    have e1 : (reprText "let").length = 5 := by decide +kernel
    have z := tupleText_len_le [reprText "let", (toString i : Str), PyData.shown (tmD x), PyData.shown (tmD b), PyData.shown (ogD o)]
    simp only [tmD, PyData.showable, PyData.showableAll, PyData.hasDict, PyData.hasDictAll, PyData.shown, PyData.shownAll, msz]
    simp only [List.map_cons, List.map_nil, List.sum_cons, List.sum_nil, List.length_cons, List.length_nil] at z
    refine ⟨by rw [decide_eq_true (num_log (n := i) (by omega)), qx.1, qb.1, g.1]; rfl, by rw [qx.2.1, qb.2.1, g.2.1]; rfl, by omega⟩
  | env, .ite x y w o, h => by
    simp only [mok] at h
    have g := og_show h.2.2.2
    have qx := tm_show _ x h.1
    have qy := tm_show _ y h.2.1
    have qw := tm_show _ w h.2.2.1
    have e1 : (reprText "if").length = 4 := by decide +kernel
    have z := tupleText_len_le [reprText "if", PyData.shown (tmD x), PyData.shown (tmD y), PyData.shown (tmD w), PyData.shown (ogD o)]
    simp only [tmD, PyData.showable, PyData.showableAll, PyData.hasDict, PyData.hasDictAll, PyData.shown, PyData.shownAll, msz]
    simp only [List.map_cons, List.map_nil, List.sum_cons, List.sum_nil, List.length_cons, List.length_nil] at z
    refine ⟨by rw [qx.1, qy.1, qw.1, g.1]; rfl, by rw [qx.2.1, qy.2.1, qw.2.1, g.2.1]; rfl, by omega⟩
  | env, .app f xs o, h => by
    simp only [mok] at h
    have g := og_show h.2.2
    have qf := tm_show _ f h.1
    have qx := tms_show _ xs h.2.1
    have e1 : (reprText "app").length = 5 := by decide +kernel
    have z2 := listText_len_le (PyData.shownAll (tmDs xs))
    have z := tupleText_len_le [reprText "app", PyData.shown (tmD f), listText (PyData.shownAll (tmDs xs)), PyData.shown (ogD o)]
    simp only [tmD, PyData.showable, PyData.showableAll, PyData.hasDict, PyData.hasDictAll, PyData.shown, PyData.shownAll, msz]
    simp only [List.map_cons, List.map_nil, List.sum_cons, List.sum_nil, List.length_cons, List.length_nil] at z
    refine ⟨by rw [qf.1, qx.1, g.1]; rfl, by rw [qf.2.1, qx.2.1, g.2.1]; rfl, by omega⟩
  | env, .pair x y o, h => by simp only [mok] at h
theorem tms_show : ∀ (env : List Int) (ts : List Tm), moks env ts → PyData.showableAll (tmDs ts) = true ∧ PyData.hasDictAll (tmDs ts) = false ∧ ((PyData.shownAll (tmDs ts)).map (·.length)).sum + 2 * (PyData.shownAll (tmDs ts)).length ≤ 400 * mszs ts
  | _, [], _ => ⟨rfl, rfl, Nat.le_refl _⟩
  | env, t :: ts, h => by
    simp only [moks] at h
    have p := tm_show env t h.1
    have q := tms_show env ts h.2
    simp only [tmDs, PyData.showableAll, PyData.hasDictAll, PyData.shownAll, mszs, List.map_cons, List.sum_cons, List.length_cons]
    refine ⟨by rw [p.1, q.1]; rfl, by rw [p.2.1, q.2.1]; rfl, ?_⟩
    omega
end
end Sg

namespace Sg
open PySem PySem.Spec PyProof.Rows L2
/-! ### numbers anew: what a dict of numbers says, and how it goes with two lists of bound numbers -/
theorem rix_mem : ∀ {l : List Int} {i : Int} {k : Nat}, rix l i = some k → i ∈ l
  | [], i, k, h => by cases h
  | a :: r, i, k, h => by
    unfold rix at h
    by_cases z : a = i
    · rw [z]
      exact List.mem_cons_self
    · rw [if_neg z] at h
      cases e : rix r i with
      | none =>
        rw [e] at h
        cases h
      | some k' => exact List.mem_cons_of_mem _ (rix_mem e)
theorem rix_of_mem : ∀ {l : List Int} {i : Int}, i ∈ l → ∃ k, rix l i = some k
  | [], i, h => by cases h
  | a :: r, i, h => by
    unfold rix
    by_cases z : a = i
    · exact ⟨0, if_pos z⟩
    · rcases List.mem_cons.mp h with e | e
      · exact absurd e.symm z
      · obtain ⟨k, q⟩ := rix_of_mem e
        exact ⟨k + 1, by rw [if_neg z, q]; rfl⟩
def upM (m : Int → Option Int) (i j : Int) : Int → Option Int := fun x => if x = i then some j else m x
def Rel (env env' : List Int) (m : Int → Option Int) (c : Int) : Prop := (∀ i k, rix env.reverse i = some k → ∃ j, m i = some j ∧ rix env'.reverse j = some k) ∧ ∀ j ∈ env', 0 ≤ j ∧ j ≤ c
theorem Rel.nil (c : Int) (m : Int → Option Int) : Rel [] [] m c := ⟨fun i k h => (by cases h), fun j h => (by cases h)⟩
theorem Rel.up {env env' : List Int} {m : Int → Option Int} {c c' : Int} (r : Rel env env' m c) (h : c ≤ c') : Rel env env' m c' := ⟨r.1, fun j hj => ⟨(r.2 j hj).1, by have := (r.2 j hj).2; omega⟩⟩
theorem Rel.snoc {env env' : List Int} {m : Int → Option Int} {c : Int} {i j : Int} (r : Rel env env' m c) (h0 : 0 ≤ j) (h : c < j) : Rel (env ++ [i]) (env' ++ [j]) (upM m i j) j := by
  refine ⟨fun x k e => ?_, fun y hy => ?_⟩
  · rw [List.reverse_append] at e ⊢
    have e' : rix (i :: env.reverse) x = some k := e
    show ∃ y, upM m i j x = some y ∧ rix (j :: env'.reverse) y = some k
    unfold rix at e'
    by_cases z : i = x
    · rw [if_pos z] at e'
      refine ⟨j, by unfold upM; rw [if_pos z.symm], ?_⟩
      unfold rix
      rw [if_pos rfl]
      exact e'
    · rw [if_neg z] at e'
      cases q : rix env.reverse x with
      | none =>
        rw [q] at e'
        cases e'
      | some k' =>
        rw [q] at e'
        obtain ⟨y, h1, h2⟩ := r.1 x k' q
        have hm : y ∈ env' := List.mem_reverse.mp (rix_mem h2)
        have hy := (r.2 y hm).2
        refine ⟨y, by unfold upM; rw [if_neg (fun w => z w.symm)]; exact h1, ?_⟩
        unfold rix
        rw [if_neg (by omega), h2]
        exact e'
  · rcases List.mem_append.mp hy with e | e
    · have := r.2 y e
      exact ⟨this.1, by omega⟩
    · rw [List.mem_singleton.mp e]
      exact ⟨h0, Int.le_refl _⟩
theorem Rel.ref {env env' : List Int} {m : Int → Option Int} {c : Int} {i : Int} {o o' : Og} (r : Rel env env' m c) (h : i ∈ env) : ∃ j, m i = some j ∧ j ∈ env' ∧ plD env' (.ref j o') = plD env (.ref i o) := by
  obtain ⟨k, hk⟩ := rix_of_mem (List.mem_reverse.mpr h)
  obtain ⟨j, h1, h2⟩ := r.1 i k hk
  refine ⟨j, h1, List.mem_reverse.mp (rix_mem h2), ?_⟩
  simp only [plD, hk, h2]
/-- a dict of numbers -/
def DV (kvs : List (Key × V)) (m : Int → Option Int) : Prop := (∀ i : Int, valV kvs (Sum.inl i : Key) = (m i).map V.int) ∧ ∀ p ∈ kvs, ∃ i j : Int, p = ((Sum.inl i : Key), V.int j)
theorem DV.nil : DV [] fun _ => none := ⟨fun i => rfl, fun p h => by cases h⟩
theorem DV.put {kvs : List (Key × V)} {m : Int → Option Int} {i j : Int} (d : DV kvs m) : DV (putK kvs (Sum.inl i : Key) (.int j)) (upM m i j) := by
  refine ⟨fun x => ?_, fun p hp => ?_⟩
  · rw [valV_put]
    unfold upM
    by_cases z : x = i
    · rw [if_pos z, if_pos (by rw [z])]
      rfl
    · rw [if_neg z, if_neg (fun w => z (by injection w))]
      exact d.1 x
  · unfold putK at hp
    split at hp
    · obtain ⟨q, hq, e⟩ := List.mem_map.mp hp
      obtain ⟨a, b, rfl⟩ := d.2 q hq
      by_cases z : (Sum.inl a : Key) = Sum.inl i
      · rw [if_pos z] at e
        exact ⟨a, j, e.symm⟩
      · rw [if_neg z] at e
        exact ⟨a, b, e.symm⟩
    · rcases List.mem_append.mp hp with e | e
      · exact d.2 p e
      · exact ⟨i, j, List.mem_singleton.mp e⟩
theorem DV.has {kvs : List (Key × V)} {m : Int → Option Int} (d : DV kvs m) {i j : Int} (h : ((Sum.inl i : Key), V.int j) ∈ kvs) : ∃ x, m i = some x := by
  have q := valV_any (Sum.inl i : Key) kvs
  have a : (kvs.any fun kv => decide (kv.1 = (Sum.inl i : Key))) = true := List.any_eq_true.mpr ⟨_, h, decide_eq_true rfl⟩
  rw [a, d.1 i] at q
  cases e : m i with
  | none =>
    rw [e] at q
    cases q
  | some x => exact ⟨x, rfl⟩
/-- the copied part -/
def Cp (kvs : List (Key × V)) (m mi : Int → Option Int) (t : Nat) : Prop := ∀ x, (mi x = none ∨ mi x = m x) ∧ ((∃ y, ((Sum.inl x : Key), y) ∈ kvs.take t) → mi x = m x)
theorem Cp.nil {kvs : List (Key × V)} {m : Int → Option Int} : Cp kvs m (fun _ => none) 0 := fun x => ⟨.inl rfl, fun ⟨y, h⟩ => by
  rw [List.take_zero] at h
  cases h⟩
theorem Cp.step {kvs : List (Key × V)} {m mi : Int → Option Int} {t : Nat} {i j : Int} {v : V} (h : Cp kvs m mi t) (e : kvs[t]? = some ((Sum.inl i : Key), v)) (hm : m i = some j) : Cp kvs m (upM mi i j) (t + 1) := fun x => by
  unfold upM
  by_cases z : x = i
  · rw [if_pos z, z]
    exact ⟨.inr hm.symm, fun _ => hm.symm⟩
  · rw [if_neg z]
    refine ⟨(h x).1, fun ⟨y, hy⟩ => ?_⟩
    rw [List.take_add_one, e] at hy
    rcases List.mem_append.mp hy with w | w
    · exact (h x).2 ⟨y, w⟩
    · have w2 := List.mem_singleton.mp (show ((Sum.inl x : Key), y) ∈ [((Sum.inl i : Key), v)] from w)
      injection w2 with w3 _
      injection w3 with w4
      exact absurd w4 z
theorem Cp.all {kvs : List (Key × V)} {m mi : Int → Option Int} (d : DV kvs m) (h : Cp kvs m mi kvs.length) : mi = m := by
  funext x
  rcases (h x).1 with e | e
  · cases q : m x with
    | none => exact e
    | some j =>
      have a := valV_any (Sum.inl x : Key) kvs
      rw [d.1 x, q] at a
      have a' : (kvs.any fun kv => decide (kv.1 = (Sum.inl x : Key))) = true := a
      obtain ⟨p, hp, e2⟩ := List.any_eq_true.mp a'
      have e3 : p.1 = Sum.inl x := of_decide_eq_true e2
      have := (h x).2 ⟨p.2, by rw [List.take_length]; obtain ⟨p1, p2⟩ := p; exact e3 ▸ hp⟩
      rw [this]
      exact q
  · exact e
end Sg

namespace Sg
open PySem PySem.Spec PyProof.Rows L2
/-! ### _law_again -/
def rIxTK (K : PySem.W.Frag) : R2 := fun x y H Q => ∃ p xs i v, x = .ref p ∧ y = .int i ∧ SqT K H p xs ∧ atI xs i = some v ∧ Q v H
theorem ix_tupK {X : Cx} {K : PySem.W.Frag} (h : X.K = K) : IxR X (rIxTK K) := by
  subst h
  exact ix_tup
theorem plDs_app (env : List Int) : ∀ (a b : List Tm), plDs env (a ++ b) = plDs env a ++ plDs env b
  | [], b => by simp only [List.nil_append, plDs]
  | t :: a, b => by
    show plDs env (t :: (a ++ b)) = _
    simp only [plDs]
    rw [plDs_app env a b]
    rfl
def spAgain (n : Nat) : Sp := fun vs H Q _ => ∃ (p c cn nd : Addr) (F : Hp) (t : Tm) (v : V) (env env' : List Int) (m : Int → Option Int) (kvs : List (Key × V)) (c0 : Int), vs = [.ref p, v, .ref nd, .ref cn] ∧ Frz [p, c, cn] F H ∧ TmAt F t v ∧
  H nd = some (.dK kvs) ∧ DV kvs m ∧ H cn = some (.lst [.int c0]) ∧ cn ≠ p ∧ cn ≠ c ∧ St p c H ∧ mok env t ∧ Rel env env' m c0 ∧ 0 ≤ c0 ∧ c0 + 20 * (msz t : Nat) ≤ 100000 ∧ kvs.length + 10 * mht t ≤ 1000 ∧ msz t ≤ 1000 ∧ mht t < n ∧
  ∀ H' u w c1, Kb [p, c, cn] H H' → St p c H' → H' cn = some (.lst [.int c1]) → c0 ≤ c1 → c1 ≤ c0 + 20 * (msz t : Nat) → TmAt (nl H H') u w → plD env' u = plD env t → mok env' u → mht u = mht t → msz u = msz t → Q w H'
theorem scAgain : FnScope ["state", "t", "new", "count", "kind", "origin", "ids", "inner", "key", "number", "value", "rows", "k", "part"] ["state", "t", "new", "count"] (defScope sAgain) := ⟨rfl, rfl, rfl, by decide +kernel, rfl, by decide +kernel, by decide +kernel⟩
theorem again_none {f : Addr} {fd : FuncData} {P : Program} {w : World} {K : PySem.W.Frag} {mg : Str → Option Value} {base : Heap} {k : Nat} : FnOk P w K mg base CX0 k f fd ["state", "t", "new", "count"] (spAgain 0) := by
  have no : ∀ vs H Q E, ¬ spAgain 0 vs H Q E := fun vs H Q E h => by
    obtain ⟨p, c, cn, nd, F, t, v, env, env', m, kvs, c0, _, _, _, _, _, _, _, _, _, _, _, _, _, _, _, h1, _⟩ := h
    omega
  exact ⟨fun vs H Q E h => absurd h (no vs H Q E), fun A outer s H args us vs Q E _ _ _ _ h => absurd h (no vs H Q E)⟩
section
variable {P : Program} {w : World} {K : PySem.W.Frag} {mg : Str → Option Value} {base : Heap}
theorem ok_again {f fD fO : Addr} {fd fdD fdO : FuncData} {k n : Nat} (F : Fun K "_law_again" "_law_again" sAgain f fd)
    (G : FnOk P w K mg base CX0 k f fd ["state", "t", "new", "count"] (spAgain n)) (bF : Binds K fd ["state", "t", "new", "count"] []) (mF : mg "_law_again" = some (.ref f))
    (GD : FnOk P w K mg base CX0 k fD fdD ["state", "many"] spDraw) (bD : Binds K fdD ["state", "many"] []) (kD : PySem.W.keepIn K (.ref fD) = true) (mD : mg "_law_draw" = some (.ref fD))
    (GO : FnOk P w K mg base CX0 k fO fdO ["state"] spOrigin) (bO : Binds K fdO ["state"] []) (kO : PySem.W.keepIn K (.ref fO) = true) (mO : mg "_law_origin" = some (.ref fO))
    (mr : mg "range" = none) : FnOk P w K mg base CX0 (k + 1) f fd ["state", "t", "new", "count"] (spAgain (n + 1)) := by
  refine F.ok scAgain (fun vs H Q E h => ?_) (fun cdv A outer st H vs Q E hr h => ?_)
  · obtain ⟨p, c, cn, nd, F, t, v, env, env', m, kvs, c0, rfl, _⟩ := h
    rfl
  obtain ⟨p, c, cn, nd, Fh, tm, v, env, env', m, kvs, c0, rfl, fz, ta, hnd, dv, hcn, ncp, ncc, S0, hm, rel, hc0, hcb, hkl, hsz, hht, q⟩ := h
  have hu : (A.deeper (envOfC "_law_again" (defScope sAgain) st.heap.objs.size f cdv)).units + 1 < cLine := by
    have := hr.units
    omega
  refine ⟨_, pss_cons (ps_set (i := 4) scAgain.nd rfl (.inl rfl) (pe_ix ix_tup (pv 1) pe_int (fun _ _ => rfl)))
    (pss_cons (ps_set (i := 5) scAgain.nd rfl (.inl rfl) (pe_call GO hr (by rfl) mO kO bO .nil pass0 (pa_cons (pv 0) pa_nil)))
    (pss_cons (ps_if (pt_cmpR op_in_seq (pv 4) (pe_tup (pa_cons pe_str (pa_cons pe_str pa_nil))) rfl) (pss_one (ps_ret (pe_tup (pa_cons (pv 4) (pa_cons (pe_ix ix_tup (pv 1) pe_int (fun _ _ => rfl)) (pa_cons (pv 5) pa_nil)))))) pss_nil)
    (pss_cons (ps_if (pt_cmpR op_eq (pv 4) pe_str (nomark _)) (pss_one (ps_ret (pe_tup (pa_cons pe_str (pa_cons (pe_dget hu (pv 2) (pe_ix ix_tup (pv 1) pe_int (fun _ _ => rfl)) (fun _ _ => rfl)) (pa_cons (pv 5) pa_nil)))))) pss_nil)
    (pss_cons (ps_set (i := 6) scAgain.nd rfl (.inl rfl) (pe_lst pa_nil))
    (pss_cons (ps_if (pt_cmpR op_eq (pv 4) pe_str (nomark _)) (pss_one (ps_set (i := 6) scAgain.nd rfl (.inl rfl) (pe_ix ix_tup (pv 1) pe_int (fun _ _ => rfl)))) pss_nil)
    (pss_cons (ps_if (pt_cmpR op_eq (pv 4) pe_str (nomark _)) (pss_one (ps_set (i := 6) scAgain.nd rfl (.inl rfl) (pe_op op_cat (pe_lst (pa_cons (pe_ix ix_tup (pv 1) pe_int (fun _ _ => rfl)) pa_nil)) (pe_ix ix_tup (pv 1) pe_int (fun _ _ => rfl))))) pss_nil)
    (pss_cons (ps_if (pt_cmpR op_eq (pv 4) pe_str (nomark _)) (pss_one (ps_set (i := 6) scAgain.nd rfl (.inl rfl) (pe_lst (pa_cons (pe_ix ix_tup (pv 1) pe_int (fun _ _ => rfl)) pa_nil)))) pss_nil)
    (pss_cons (ps_set (i := 7) scAgain.nd rfl (.inr rfl) pe_dnewK)
    (pss_cons (ps_lock (ps_for PassesOwn.never rfl (pi_keys (pv 2)) (pg_name (i := 8) scAgain.nd rfl (.inl rfl)) (pss_one (ps_dput hu (pv 7) (pv 8) (pe_dget hu (pv 2) (pv 8) (fun _ _ => rfl)) (by rfl)))))
    (pss_cons (ps_for PassesOwn.never rfl (pi_list (pv 6)) (pg_name (i := 9) scAgain.nd rfl (.inl rfl)) (pss_cons (ps_asg (pe_op op_add (pe_op op_add (pe_ix ix_list (pv 3) pe_int (fun _ _ => rfl)) pe_int) (pe_call GD hr (by rfl) mD kD bD .nil pass0 (pa_cons (pv 0) (pa_cons pe_int pa_nil)))) (pg_sub (pv 3) pe_int set_list (fun _ => rfl))) (pss_one (ps_dput hu (pv 7) (pv 9) (pe_ix ix_list (pv 3) pe_int (fun _ _ => rfl)) (by rfl)))))
    (pss_cons (ps_if (pt_cmpR op_eq (pv 4) pe_str (nomark _)) (pss_one (ps_ret (pe_tup (pa_cons pe_str (pa_cons (pe_lc (own := [("k", 12)]) (g := gName 12) (tt := tYes) rfl scAgain.nd (pi_list (pe_ix ix_tup (pv 1) pe_int (fun _ _ => rfl))) (blkOk_by (N := ["state", "t", "new", "count", "kind", "origin", "ids", "inner", "key", "number", "value", "rows", "k", "part"]) (sc := defScope sAgain) (by decide +kernel)) (fun _ _ _ _ _ => pg_name (i := 12) scAgain.nd rfl (Or.inl rfl)) (fun _ _ _ _ _ => pts_nil) (fun _ _ _ _ _ => (pe_dget hu (pv 7) (pv 12) (fun _ _ => rfl)))) (pa_cons (pe_call G hr (by rfl) mF F.kp bF .nil pass0 (pa_cons (pv 0) (pa_cons (pe_ix ix_tup (pv 1) pe_int (fun _ _ => rfl)) (pa_cons (pv 7) (pa_cons (pv 3) pa_nil))))) (pa_cons (pv 5) pa_nil))))))) pss_nil)
    (pss_cons (ps_if (pt_cmpR op_eq (pv 4) pe_str (nomark _)) (pss_one (ps_ret (pe_tup (pa_cons pe_str (pa_cons (pe_dget hu (pv 7) (pe_ix ix_tup (pv 1) pe_int (fun _ _ => rfl)) (fun _ _ => rfl)) (pa_cons (pe_lc (own := [("k", 12)]) (g := gName 12) (tt := tYes) rfl scAgain.nd (pi_list (pe_ix ix_tup (pv 1) pe_int (fun _ _ => rfl))) (blkOk_by (N := ["state", "t", "new", "count", "kind", "origin", "ids", "inner", "key", "number", "value", "rows", "k", "part"]) (sc := defScope sAgain) (by decide +kernel)) (fun _ _ _ _ _ => pg_name (i := 12) scAgain.nd rfl (Or.inl rfl)) (fun _ _ _ _ _ => pts_nil) (fun _ _ _ _ _ => (pe_dget hu (pv 7) (pv 12) (fun _ _ => rfl)))) (pa_cons (pe_call G hr (by rfl) mF F.kp bF .nil pass0 (pa_cons (pv 0) (pa_cons (pe_ix ix_tup (pv 1) pe_int (fun _ _ => rfl)) (pa_cons (pv 7) (pa_cons (pv 3) pa_nil))))) (pa_cons (pv 5) pa_nil)))))))) pss_nil)
    (pss_cons (ps_if (pt_cmpR op_eq (pv 4) pe_str (nomark _)) (pss_cons (ps_set (i := 10) scAgain.nd rfl (.inl rfl) (pe_call G hr (by rfl) mF F.kp bF .nil pass0 (pa_cons (pv 0) (pa_cons (pe_ix ix_tup (pv 1) pe_int (fun _ _ => rfl)) (pa_cons (pv 2) (pa_cons (pv 3) pa_nil)))))) (pss_one (ps_ret (pe_tup (pa_cons pe_str (pa_cons (pe_dget hu (pv 7) (pe_ix ix_tup (pv 1) pe_int (fun _ _ => rfl)) (fun _ _ => rfl)) (pa_cons (pv 10) (pa_cons (pe_call G hr (by rfl) mF F.kp bF .nil pass0 (pa_cons (pv 0) (pa_cons (pe_ix ix_tup (pv 1) pe_int (fun _ _ => rfl)) (pa_cons (pv 7) (pa_cons (pv 3) pa_nil))))) (pa_cons (pv 5) pa_nil))))))))) pss_nil)
    (pss_cons (ps_if (pt_cmpR op_eq (pv 4) pe_str (nomark _)) (pss_cons (ps_setLc (i := 11) (own := [("k", 12)]) (g := gName 12) (tt := tYes) rfl scAgain.nd rfl rfl (sw_true rfl rfl (by decide) (by decide +kernel)) (pi_range2 (by rfl) mr (pa_cons pe_int (pa_cons pe_int pa_nil))) (blkOk_by (N := ["state", "t", "new", "count", "kind", "origin", "ids", "inner", "key", "number", "value", "rows", "k", "part"]) (sc := defScope sAgain) (by decide +kernel)) (fun _ _ _ _ _ => pg_name (i := 12) scAgain.nd rfl (Or.inl rfl)) (fun _ _ _ _ _ => pts_nil) (fun _ _ _ _ _ => (pe_call G hr (by rfl) mF F.kp bF .nil pass0 (pa_cons (pv 0) (pa_cons (pe_ix (ix_tupK (K := K) rfl) (pv 1) (pv 12) (fun _ _ => rfl)) (pa_cons (pv 2) (pa_cons (pv 3) pa_nil))))))) (pss_one (ps_ret (pe_tup (pa_cons pe_str (pa_cons (pe_ix ix_list (pv 11) pe_int (fun _ _ => rfl)) (pa_cons (pe_ix ix_list (pv 11) pe_int (fun _ _ => rfl)) (pa_cons (pe_ix ix_list (pv 11) pe_int (fun _ _ => rfl)) (pa_cons (pv 5) pa_nil))))))))) pss_nil)
    (pss_cons (ps_setLc (i := 11) (own := [("part", 13)]) (g := gName 13) (tt := tYes) rfl scAgain.nd rfl rfl (sw_true rfl rfl (by decide) (by decide +kernel)) (pi_list (pe_ix ix_tup (pv 1) pe_int (fun _ _ => rfl))) (blkOk_by (N := ["state", "t", "new", "count", "kind", "origin", "ids", "inner", "key", "number", "value", "rows", "k", "part"]) (sc := defScope sAgain) (by decide +kernel)) (fun _ _ _ _ _ => pg_name (i := 13) scAgain.nd rfl (Or.inl rfl)) (fun _ _ _ _ _ => pts_nil) (fun _ _ _ _ _ => (pe_call G hr (by rfl) mF F.kp bF .nil pass0 (pa_cons (pv 0) (pa_cons (pv 13) (pa_cons (pv 2) (pa_cons (pv 3) pa_nil))))))) (pss_one (ps_ret (pe_tup (pa_cons pe_str (pa_cons (pe_call G hr (by rfl) mF F.kp bF .nil pass0 (pa_cons (pv 0) (pa_cons (pe_ix ix_tup (pv 1) pe_int (fun _ _ => rfl)) (pa_cons (pv 2) (pa_cons (pv 3) pa_nil))))) (pa_cons (pv 11) (pa_cons (pv 5) pa_nil)))))))))))))))))))))), ?_⟩
  have lsp := S0.lsts
  have ndp : nd ≠ p := fun e => by
    obtain ⟨x, y⟩ := lsp.1
    rw [e, y] at hnd
    cases hnd
  have ndc : nd ≠ c := fun e => by
    obtain ⟨x, y⟩ := lsp.2
    rw [e, y] at hnd
    cases hnd
  have ndn : nd ≠ cn := fun e => by
    rw [e, hcn] at hnd
    cases hnd
  have lst3 : ∀ b ∈ [p, c, cn], ∃ xs, H b = some (.lst xs) := fun b hb => by
    rcases List.mem_cons.mp hb with e | e
    · rw [e]
      exact lsp.1
    · rcases List.mem_cons.mp e with e | e
      · rw [e]
        exact lsp.2
      · rw [List.mem_singleton.mp e]
        exact ⟨_, hcn⟩
  have sub2 : ∀ b ∈ [p, c], b ∈ [p, c, cn] := fun b hb => by
    rcases List.mem_cons.mp hb with e | e
    · rw [e]
      exact List.mem_cons_self
    · rw [List.mem_singleton.mp e]
      exact List.mem_cons_of_mem _ List.mem_cons_self
  have outN : ∀ {H' : Hp} {t : Addr} {z0 : Int}, St p c H' → H' cn = some (.lst [.int z0]) → H' t = none → t ∉ [p, c, cn] := fun {H' t z0} S e n => by
    have z := S.new n
    have y : t ≠ cn := fun w => by
      rw [w, e] at n
      cases n
    simp [z.1, z.2, y]
  cases tm with
  | int x o =>
    unfold TmAt at ta
    obtain ⟨a, wo, rfl, ea, og⟩ := ta
    have ea0 := fz.1 _ _ ea
    refine ⟨_, rfl, a, _, 0, _, rfl, rfl, SqT.of ea0, at0, ?_⟩
    refine ⟨_, rfl, p, c, rfl, S0, fun H1 o1 wo1 kp1 S1 og1 oo1 => ?_⟩
    have k1 : Kb [p, c, cn] H H1 := kp1.kb.wide sub2
    have fz1 := fz.up k1 fz.2
    have ea1 := fz1.1 _ _ ea
    have hcn1 := kp1 cn _ ncp ncc hcn
    have hnd1 := kp1 nd _ ndp ndc hnd
    refine ⟨_, rfl, by show 2 ≤ sizeLine; decide, fun tp ntp => ?_⟩
    refine ⟨tp, _, rfl, .inr (SqT.of upd_same), rfl, rfl, _, rfl, ?_⟩
    have sm1 : Same H1 (upd H1 tp (.tup [.str "int", .str "prim"])) := same_new ntp _
    generalize upd H1 tp (.tup [.str "int", .str "prim"]) = H2 at sm1
    have S2 := S1.same sm1
    have k2 := k1.trans (Same.kb (bs := [p, c, cn]) sm1)
    have fz2 := fz.up k2 fz.2
    have ea2 := sm1 _ _ ea1
    have hcn2 := sm1 _ _ hcn1
    have hnd2 := sm1 _ _ hnd1
    have og2 : OgAt (nl H H2) o1 wo1 := og1.same (nl_grow fun bb oo _ y => sm1 _ _ y)
    refine if_true_of (by decide +kernel) ?_
    simp only [mok] at hm
    refine ⟨_, rfl, _, rfl, a, _, 1, _, rfl, rfl, SqT.of ea2, atI_nat (j := 1) rfl, _, rfl, by show 3 ≤ sizeLine; decide, fun t nt => ?_⟩
    have tout := outN S2 hcn2 nt
    refine q _ (.int x o1) _ c0 (k2.trans (Same.kb (same_new nt _))) (S2.same (same_new nt _)) (same_new nt _ _ _ hcn2) (Int.le_refl _) (by omega) ?_ rfl ?_ rfl rfl
    · unfold TmAt
      exact ⟨t, wo1, rfl, nl_new (k2.free tout nt) upd_same, og2.same (nl_fresh nt _)⟩
    · simp only [mok]
      exact ⟨hm.1, oo1⟩
  | prim x o =>
    unfold TmAt at ta
    obtain ⟨a, wo, rfl, ea, og⟩ := ta
    have ea0 := fz.1 _ _ ea
    refine ⟨_, rfl, a, _, 0, _, rfl, rfl, SqT.of ea0, at0, ?_⟩
    refine ⟨_, rfl, p, c, rfl, S0, fun H1 o1 wo1 kp1 S1 og1 oo1 => ?_⟩
    have k1 : Kb [p, c, cn] H H1 := kp1.kb.wide sub2
    have fz1 := fz.up k1 fz.2
    have ea1 := fz1.1 _ _ ea
    have hcn1 := kp1 cn _ ncp ncc hcn
    have hnd1 := kp1 nd _ ndp ndc hnd
    refine ⟨_, rfl, by show 2 ≤ sizeLine; decide, fun tp ntp => ?_⟩
    refine ⟨tp, _, rfl, .inr (SqT.of upd_same), rfl, rfl, _, rfl, ?_⟩
    have sm1 : Same H1 (upd H1 tp (.tup [.str "int", .str "prim"])) := same_new ntp _
    generalize upd H1 tp (.tup [.str "int", .str "prim"]) = H2 at sm1
    have S2 := S1.same sm1
    have k2 := k1.trans (Same.kb (bs := [p, c, cn]) sm1)
    have fz2 := fz.up k2 fz.2
    have ea2 := sm1 _ _ ea1
    have hcn2 := sm1 _ _ hcn1
    have hnd2 := sm1 _ _ hnd1
    have og2 : OgAt (nl H H2) o1 wo1 := og1.same (nl_grow fun bb oo _ y => sm1 _ _ y)
    refine if_true_of (by decide +kernel) ?_
    simp only [mok] at hm
    refine ⟨_, rfl, _, rfl, a, _, 1, _, rfl, rfl, SqT.of ea2, atI_nat (j := 1) rfl, _, rfl, by show 3 ≤ sizeLine; decide, fun t nt => ?_⟩
    have tout := outN S2 hcn2 nt
    refine q _ (.prim x o1) _ c0 (k2.trans (Same.kb (same_new nt _))) (S2.same (same_new nt _)) (same_new nt _ _ _ hcn2) (Int.le_refl _) (by omega) ?_ rfl ?_ rfl rfl
    · unfold TmAt
      exact ⟨t, wo1, rfl, nl_new (k2.free tout nt) upd_same, og2.same (nl_fresh nt _)⟩
    · simp only [mok]
      exact ⟨hm.1, hm.2.1, oo1⟩
  | ref x o =>
    unfold TmAt at ta
    obtain ⟨a, wo, rfl, ea, og⟩ := ta
    have ea0 := fz.1 _ _ ea
    refine ⟨_, rfl, a, _, 0, _, rfl, rfl, SqT.of ea0, at0, ?_⟩
    refine ⟨_, rfl, p, c, rfl, S0, fun H1 o1 wo1 kp1 S1 og1 oo1 => ?_⟩
    have k1 : Kb [p, c, cn] H H1 := kp1.kb.wide sub2
    have fz1 := fz.up k1 fz.2
    have ea1 := fz1.1 _ _ ea
    have hcn1 := kp1 cn _ ncp ncc hcn
    have hnd1 := kp1 nd _ ndp ndc hnd
    refine ⟨_, rfl, by show 2 ≤ sizeLine; decide, fun tp ntp => ?_⟩
    refine ⟨tp, _, rfl, .inr (SqT.of upd_same), rfl, rfl, _, rfl, ?_⟩
    have sm1 : Same H1 (upd H1 tp (.tup [.str "int", .str "prim"])) := same_new ntp _
    generalize upd H1 tp (.tup [.str "int", .str "prim"]) = H2 at sm1
    have S2 := S1.same sm1
    have k2 := k1.trans (Same.kb (bs := [p, c, cn]) sm1)
    have fz2 := fz.up k2 fz.2
    have ea2 := sm1 _ _ ea1
    have hcn2 := sm1 _ _ hcn1
    have hnd2 := sm1 _ _ hnd1
    have og2 : OgAt (nl H H2) o1 wo1 := og1.same (nl_grow fun bb oo _ y => sm1 _ _ y)
    refine if_false_of (by decide +kernel) ?_
    refine ⟨_, rfl, rfl, _, rfl, ?_⟩
    refine if_true_of str_eq ?_
    simp only [mok] at hm
    obtain ⟨j, mj, hj, hp⟩ := rel.ref (o := o) (o' := o1) hm.1
    have jb := rel.2 j hj
    refine ⟨_, rfl, _, rfl, a, _, 1, _, rfl, rfl, SqT.of ea2, atI_nat (j := 1) rfl, nd, .int j, rfl, .inl ⟨kvs, Sum.inl x, .inl hnd2, rfl, by rw [dv.1 x, mj]; rfl⟩, _, rfl, by show 3 ≤ sizeLine; decide, fun t nt => ?_⟩
    have tout := outN S2 hcn2 nt
    have hcb' : c0 ≤ 100000 := by omega
    refine q _ (.ref j o1) _ c0 (k2.trans (Same.kb (same_new nt _))) (S2.same (same_new nt _)) (same_new nt _ _ _ hcn2) (Int.le_refl _) (by omega) ?_ hp ?_ rfl rfl
    · unfold TmAt
      exact ⟨t, wo1, rfl, nl_new (k2.free tout nt) upd_same, og2.same (nl_fresh nt _)⟩
    · simp only [mok]
      exact ⟨hj, by omega, oo1⟩
  | fn ids b o =>
    unfold TmAt at ta
    obtain ⟨a, l, u, wo, rfl, ea, el, tb, og⟩ := ta
    have ea0 := fz.1 _ _ ea
    refine ⟨_, rfl, a, _, 0, _, rfl, rfl, SqT.of ea0, at0, ?_⟩
    refine ⟨_, rfl, p, c, rfl, S0, fun H1 o1 wo1 kp1 S1 og1 oo1 => ?_⟩
    have k1 : Kb [p, c, cn] H H1 := kp1.kb.wide sub2
    have fz1 := fz.up k1 fz.2
    have ea1 := fz1.1 _ _ ea
    have hcn1 := kp1 cn _ ncp ncc hcn
    have hnd1 := kp1 nd _ ndp ndc hnd
    refine ⟨_, rfl, by show 2 ≤ sizeLine; decide, fun tp ntp => ?_⟩
    refine ⟨tp, _, rfl, .inr (SqT.of upd_same), rfl, rfl, _, rfl, ?_⟩
    have sm1 : Same H1 (upd H1 tp (.tup [.str "int", .str "prim"])) := same_new ntp _
    generalize upd H1 tp (.tup [.str "int", .str "prim"]) = H2 at sm1
    have S2 := S1.same sm1
    have k2 := k1.trans (Same.kb (bs := [p, c, cn]) sm1)
    have fz2 := fz.up k2 fz.2
    have ea2 := sm1 _ _ ea1
    have hcn2 := sm1 _ _ hcn1
    have hnd2 := sm1 _ _ hnd1
    have og2 : OgAt (nl H H2) o1 wo1 := og1.same (nl_grow fun bb oo _ y => sm1 _ _ y)
    refine if_false_of (by decide +kernel) ?_
    refine ⟨_, rfl, rfl, _, rfl, ?_⟩
    refine if_false_of (str_ne (by decide +kernel)) ?_
    refine ⟨Nat.zero_le _, fun li0 nli0 => ?_⟩
    have sm2 : Same H2 (upd H2 li0 (.lst [])) := same_new nli0 _
    have eli0 : (upd H2 li0 (.lst [])) li0 = some (.lst (([] : List Int).map V.int)) := upd_same
    generalize upd H2 li0 (.lst []) = H2b at sm2 eli0
    have k2b := k2.trans (Same.kb (bs := [p, c, cn]) sm2)
    have S2b := S2.same sm2
    refine ⟨_, rfl, rfl, _, rfl, ?_⟩
    refine if_true_of str_eq ?_
    refine ⟨_, rfl, a, _, 1, _, rfl, rfl, SqT.of (sm2 _ _ ea2), atI_nat (j := 1) rfl, ?_⟩
    refine ⟨_, rfl, rfl, _, rfl, ?_⟩
    refine if_false_of (str_ne (by decide +kernel)) ?_
    refine ⟨_, rfl, rfl, _, rfl, ?_⟩
    refine if_false_of (str_ne (by decide +kernel)) ?_
    obtain ⟨Hc, eHc⟩ : ∃ Hc, Hc = H2b := ⟨_, rfl⟩
    rw [← eHc]
    have smc : Same H2b Hc := by
      rw [eHc]
      exact Same.refl _
    have Sc := S2b.same smc
    have kc := k2b.trans (Same.kb (bs := [p, c, cn]) smc)
    have hcnc := smc _ _ (sm2 _ _ hcn2)
    have hndc := smc _ _ (sm2 _ _ hnd2)
    have ogc : OgAt (nl H Hc) o1 wo1 := og2.same (nl_grow fun bb oo _ y => smc _ _ (sm2 _ _ y))
    simp only [mok] at hm
    simp only [mht] at hht hkl q
    simp only [msz] at hsz hcb q
    have ndI : ids.Nodup := hm.2.2.2.2
    have eli := (fz.up kc fz.2).1 _ _ el
    have lip : l ≠ p := fun e => by
      rw [e, fz.2 p (by simp)] at el
      cases el
    have lic : l ≠ c := fun e => by
      rw [e, fz.2 c (by simp)] at el
      cases el
    have lin : l ≠ cn := fun e => by
      rw [e, fz.2 cn (by simp)] at el
      cases el
    obtain ⟨li, eli'⟩ : ∃ li, li = l := ⟨_, rfl⟩
    rw [← eli'] at eli lip lic lin ⊢
    obtain ⟨kind, ekind⟩ : ∃ kind, kind = V.str "fn" := ⟨_, rfl⟩
    rw [← ekind]
    refine fun inn ninn => ?_
    have sm3 : Same Hc (upd Hc inn (.dK [])) := same_new ninn _
    have einn : (upd Hc inn (.dK [])) inn = some (.dK []) := upd_same
    generalize upd Hc inn (.dK []) = H3 at sm3 einn
    have innd : inn ≠ nd := fun e => by
      rw [e, hndc] at ninn
      cases ninn
    have iout := outN Sc hcnc ninn
    have inH : H inn = none := kc.free iout ninn
    have S3 := Sc.same sm3
    refine ⟨nd, .dK kvs, sm3 _ _ hndc, trivial, fun od => ?_⟩
    refine ⟨_, rfl, nd, od, rfl, .inl ⟨kvs, upd_same, ?_⟩⟩
    refine for_it (walk_keys (d := nd) (o := od) (kvs := kvs)) (fun i σ H' => ∃ (y8 : Option V) (kI : List (Key × V)) (mi : Int → Option Int), σ = [some (.ref p), some (.ref a), some (.ref nd), some (.ref cn), some kind, some wo1, some (.ref li), some (.ref inn), y8, none, none, none, none, none] ∧ Kb [inn] (upd H3 nd (.frz od (.dK kvs))) H' ∧ H' inn = some (.dK kI) ∧ DV kI mi ∧ Cp kvs m mi i ∧ kI.length ≤ i)
      ⟨none, [], _, rfl, Kb.refl _ _, by rw [upd_ne innd]; exact einn, DV.nil, Cp.nil, Nat.zero_le _⟩ (fun i σ H' _ ⟨_, _, _, _, kb, _⟩ => kb nd _ (by simp [Ne.symm innd]) upd_same) ?_ ?_
    · rintro i x σ H' H'' hi ⟨y8, kI, mi, rfl, kb, eI, dI, cp, lI⟩ ⟨rfl, kk, vv, hkv, rfl⟩
      obtain ⟨i0, j0, ep⟩ := dv.2 _ (List.mem_of_getElem? hkv)
      obtain ⟨j1, hj1⟩ := dv.has (ep ▸ List.mem_of_getElem? hkv)
      injection ep with ek ev
      subst ek ev
      refine ⟨_, rfl, _, rfl, nd, .int j1, rfl, .inl ⟨kvs, Sum.inl i0, .inr ⟨od, kb nd _ (by simp [Ne.symm innd]) upd_same⟩, rfl, by rw [dv.1 i0, hj1]; rfl⟩, _, rfl, _, rfl, inn, _, rfl, DPut.k (k := (Sum.inl i0 : Key)) eI (smallL (by omega)), ?_⟩
      refine ⟨_, _, _, rfl, kb.put List.mem_cons_self _, upd_same, dI.put, cp.step hkv hj1, by have := length_putK kI (Sum.inl i0 : Key) (.int j1); omega⟩
    rintro σ Hx ⟨y8, kI, mi, rfl, kbx, eI, dI, cp, lI⟩
    rw [cp.all dv] at dI
    refine ⟨kbx nd _ (by simp [Ne.symm innd]) upd_same, ?_⟩
    have k34 : Kb [inn] H3 (upd Hx nd (.dK kvs)) := fun b o n y => by
      by_cases z : b = nd
      · rw [z, upd_same]
        rw [z, sm3 _ _ hndc] at y
        exact y
      · rw [upd_ne z]
        exact kbx b o n (by rw [upd_ne z]; exact y)
    have eI4 : (upd Hx nd (.dK kvs)) inn = some (.dK kI) := by
      rw [upd_ne innd]
      exact eI
    generalize upd Hx nd (.dK kvs) = H4 at k34 eI4
    have kc4 : Kb [inn] Hc H4 := fun b o n y => k34 b o n (sm3 _ _ y)
    have k4 : Kb [p, c, cn] H H4 := fun b o n y => kc4 b o (fun z => by rw [List.mem_singleton.mp z, inH] at y; cases y) (kc b o n y)
    have inp : p ≠ inn := fun e => iout (by simp [e])
    have inc : c ≠ inn := fun e => iout (by simp [e])
    have inn' : cn ≠ inn := fun e => iout (by simp [e])
    have S4 : St p c H4 := Sc.kb kc4 (by simp [inp]) (by simp [inc])
    have hcn4 := kc4 cn _ (by simp [inn']) hcnc
    have hnd4 := kc4 nd _ (by simp [Ne.symm innd]) hndc
    have lii : li ≠ inn := fun e => by
      rw [e, ninn] at eli
      cases eli
    have eli4 := kc4 li _ (by simp [lii]) eli
    refine ⟨_, rfl, li, rfl, ⟨_, SqL.of eli4⟩, ?_⟩
    refine for_list (K := K) (a := li) (xs := (ids).map V.int) (fun i σ H' => ∃ (y9 : Option V) (kJ : List (Key × V)) (mJ : Int → Option Int) (cc : Int) (js : List Int), σ = [some (.ref p), some (.ref a), some (.ref nd), some (.ref cn), some kind, some wo1, some (.ref li), some (.ref inn), y8, y9, none, none, none, none] ∧ Kb [p, c, cn, inn] H4 H' ∧ St p c H' ∧ H' cn = some (.lst [.int cc]) ∧ H' inn = some (.dK kJ) ∧ DV kJ mJ ∧ Rel (env ++ (ids).take i) (env' ++ js) mJ cc ∧ js.length = i ∧ c0 ≤ cc ∧ cc ≤ c0 + 3 * (i : Int) ∧ kJ.length ≤ kvs.length + i ∧ js.Nodup ∧ (∀ j ∈ js, c0 < j ∧ j ≤ cc) ∧ (∀ (t : Nat) (x : Int), ((ids).take i)[t]? = some x → ∃ j, js[t]? = some j ∧ mJ x = some j))
      ⟨none, kI, m, c0, [], rfl, Kb.refl _ _, S4, hcn4, eI4, dI, by rw [List.take_zero, List.append_nil, List.append_nil]; exact rel, rfl, Int.le_refl _, by omega, by omega, List.nodup_nil, (fun j hj => by cases hj), fun t x hx => by rw [List.take_zero] at hx; simp at hx⟩ (fun i σ H' _ ⟨_, _, _, _, _, _, kb, _⟩ => SqL.of (kb li _ (by simp [lip, lic, lin, lii]) eli4)) ?_ ?_
    · rintro i xv σ H' hx ⟨y9, kJ, mJ, cc, js, rfl, kb, Sx, ecn, eJ, dJ, rJ, hl, b1, b2, b3, nd9, rg9, all9⟩
      obtain ⟨x, hx', rfl⟩ := get_map hx
      have hil : i < (ids).length := (List.getElem?_eq_some_iff.mp hx').1
      refine ⟨_, rfl, cn, _, 0, _, rfl, rfl, SqL.of ecn, at0, _, _, rfl, rfl, _, rfl, p, c, 3, rfl, by decide, by decide, Sx, fun H6 r6 kp6 S6 a6 b6 => ?_⟩
      have ecn6 := kp6 cn _ ncp ncc ecn
      have eJ6 := kp6 inn _ (Ne.symm inp) (Ne.symm inc) eJ
      refine ⟨_, _, rfl, rfl, _, rfl, cn, _, 0, 0, rfl, rfl, ecn6, rfl, ?_⟩
      have ecn7 : (upd H6 cn (.lst [.int (cc + 1 + r6)])) cn = some (.lst [.int (cc + 1 + r6)]) := upd_same
      have eJ7 : (upd H6 cn (.lst [.int (cc + 1 + r6)])) inn = some (.dK kJ) := by
        rw [upd_ne (Ne.symm inn')]
        exact eJ6
      have S7 : St p c (upd H6 cn (.lst [.int (cc + 1 + r6)])) := S6.put ncp ncc _
      have kb7 : Kb [p, c, cn, inn] H4 (upd H6 cn (.lst [.int (cc + 1 + r6)])) := (kb.trans (kp6.kb.wide fun b hb => by
        rcases List.mem_cons.mp hb with e | e
        · simp [e]
        · simp [List.mem_singleton.mp e])).put (by simp) _
      refine ⟨_, rfl, cn, _, 0, _, rfl, rfl, SqL.of ecn7, at0, _, rfl, _, rfl, inn, _, rfl, DPut.k (k := (Sum.inl x : Key)) eJ7 (smallL (by omega)), ?_⟩
      have tk1 : (ids).take (i + 1) = (ids).take i ++ [x] := by rw [List.take_add_one, hx']; rfl
      have r7 := rJ.snoc (i := x) (j := cc + 1 + r6) (by omega) (by omega)
      refine ⟨_, _, upM mJ x (cc + 1 + r6), cc + 1 + r6, js ++ [cc + 1 + r6], rfl, kb7.put (by simp) _, S7.put (Ne.symm inp) (Ne.symm inc) _, by rw [upd_ne inn']; exact ecn7, upd_same, dJ.put, by rw [tk1, ← List.append_assoc, ← List.append_assoc]; exact r7, by rw [List.length_append, hl]; rfl, by omega, by omega, by have := length_putK kJ (Sum.inl x : Key) (.int (cc + 1 + r6)); omega, ?_, ?_, ?_⟩
      · refine List.nodup_append.mpr ⟨nd9, List.pairwise_singleton _ _, fun u hu w hw z => ?_⟩
        rw [List.mem_singleton.mp hw] at z
        have := rg9 u hu
        omega
      · intro j hj
        rcases List.mem_append.mp hj with e | e
        · have := rg9 j e
          omega
        · rw [List.mem_singleton.mp e]
          omega
      · intro t y hy
        rw [tk1] at hy
        have lt : ((ids).take i).length = i := by rw [List.length_take]; omega
        by_cases z : t < i
        · rw [List.getElem?_append_left (by omega)] at hy
          obtain ⟨j, h1, h2⟩ := all9 t y hy
          refine ⟨j, by rw [List.getElem?_append_left (by omega)]; exact h1, ?_⟩
          unfold upM
          rw [if_neg (fun e => ?_)]
          · exact h2
          · have ht : (ids)[t]? = some y := by
              rw [List.getElem?_take_of_lt z] at hy
              exact hy
            rw [e] at ht
            have := (List.getElem?_inj (by have := (List.getElem?_eq_some_iff.mp ht).1; omega) ndI).mp (ht.trans hx'.symm)
            omega
        · have ht : t = i := by
            have := (List.getElem?_eq_some_iff.mp hy).1
            rw [List.length_append, lt] at this
            have h1 : ([x] : List Int).length = 1 := rfl
            omega
          rw [ht, List.getElem?_append_right (by omega), lt, Nat.sub_self] at hy
          cases hy
          refine ⟨cc + 1 + r6, by rw [ht, List.getElem?_append_right (by omega), hl, Nat.sub_self]; rfl, ?_⟩
          unfold upM
          rw [if_pos rfl]
    rintro σ H5 ⟨y9, kJ, mJ, cc, js, rfl, kb5, S5, ecn5, eJ5, dJ, rJ, hlj, b1, b2, b3, nd9, rg9, all9⟩
    rw [List.length_map] at hlj b2 b3 rJ all9
    rw [List.take_length] at rJ all9
    have k5 : Kb [p, c, cn] H H5 := fun b o n y => kb5 b o (fun z => by
      rcases List.mem_cons.mp z with e | e
      · exact n (by simp [e])
      · rcases List.mem_cons.mp e with e | e
        · exact n (by simp [e])
        · rcases List.mem_cons.mp e with e | e
          · exact n (by simp [e])
          · rw [List.mem_singleton.mp e, inH] at y
            cases y) (k4 b o n y)
    have hnd5 := kb5 nd _ (by simp [ndp, ndc, ndn, Ne.symm innd]) hnd4
    have fz5 := fz.up k5 fz.2
    have ea5 := fz5.1 _ _ ea
    have og5 : OgAt (nl H H5) o1 wo1 := ogc.same (nl_grow fun bb oo n y => kb5 _ _ (fun z => by
      rcases List.mem_cons.mp z with e | e
      · obtain ⟨xs, e2⟩ := lst3 p (by simp)
        exact n xs (by rw [e]; exact e2)
      · rcases List.mem_cons.mp e with e | e
        · obtain ⟨xs, e2⟩ := lst3 c (by simp)
          exact n xs (by rw [e]; exact e2)
        · rcases List.mem_cons.mp e with e | e
          · exact n _ (by rw [e]; exact hcn)
          · rw [List.mem_singleton.mp e, ninn] at y
            cases y) (kc4 _ _ (fun z => by rw [List.mem_singleton.mp z, ninn] at y; cases y) y))
    rw [ekind]
    refine ⟨_, rfl, rfl, _, rfl, ?_⟩
    refine if_true_of str_eq ?_
    have el5 := fz5.1 _ _ el
    have hjl : js.length = ids.length := hlj
    have gk : ∀ {A B : Hp}, Kb [p, c, cn] A B → Same (nl H A) (nl H B) := fun {A B} kk => Kb.nl lst3 kk
    refine ⟨_, rfl, a, _, 1, _, rfl, rfl, SqT.of ea5, atI_nat (j := 1) rfl, l, rfl, ⟨_, SqL.of el5⟩, fun D hD => ?_⟩
    have inD : inn ≠ D := fun e => by
      rw [← e, eJ5] at hD
      cases hD
    have HD0 : H D = none := k5.free (outN S5 ecn5 hD) hD
    refine lc_list (K := K) (a := l) (xs := ids.map V.int) (fun i H' => Same H5 H' ∧ H' D = some (.lst ((js.take i).map V.int))) ⟨same_new hD _, upd_same⟩ (fun i H' _ h' => SqL.of (h'.1 _ _ el5)) ?_ ?_
    · rintro i xv H' hx ⟨sm, eD⟩
      refine ⟨rfl, yes_k ?_⟩
      obtain ⟨x0, hx0, rfl⟩ := get_map hx
      obtain ⟨j, hj, mj⟩ := all9 i x0 hx0
      refine ⟨_, rfl, _, rfl, inn, .int j, rfl, .inl ⟨kJ, Sum.inl x0, .inl (sm _ _ eJ5), rfl, by rw [dJ.1 x0, mj]; rfl⟩, _, eD, by rw [List.length_map, List.length_take]; exact smallL (by omega), same_mut sm hD _, by rw [upd_same, take_map _ hj]⟩
    rintro H6 ⟨sm6, eD6⟩
    rw [List.length_map, ← hjl, List.take_length] at eD6
    have k6 := k5.trans (Same.kb (bs := [p, c, cn]) sm6)
    have S6 := S5.same sm6
    have ecn6 := sm6 _ _ ecn5
    have eJ6 := sm6 _ _ eJ5
    have ea6 := sm6 _ _ ea5
    have og6 : OgAt (nl H H6) o1 wo1 := og5.same (nl_grow fun bb oo _ y => sm6 _ _ y)
    refine ⟨_, rfl, _, rfl, a, _, 2, _, rfl, rfl, SqT.of ea6, atI_nat (j := 2) rfl, _, rfl, _, rfl, p, c, cn, inn, Fh, b, u, env ++ ids, env' ++ js, mJ, kJ, cc, rfl, fz.up k6 fz.2, tb, eJ6, dJ, ecn6, ncp, ncc, S6, hm.2.2.1, rJ, by omega, by omega, by omega, by omega, by omega, fun H7 u7 w7 c7 kb7 S7 hcn7 d1 d2 t7 p7 m7 h7 z7 => ?_⟩
    refine ⟨_, rfl, by show 4 ≤ sizeLine; decide, fun t nt => ?_⟩
    have tout := outN S7 hcn7 nt
    have k7 := k6.trans kb7
    refine q _ (.fn js u7 o1) _ c7 (k7.trans (Same.kb (same_new nt _))) (S7.same (same_new nt _)) (same_new nt _ _ _ hcn7) (by omega) (by omega) ?_ ?_ ?_ ?_ ?_
    · unfold TmAt
      refine ⟨t, D, w7, wo1, rfl, nl_new (k7.free tout nt) upd_same, nl_new HD0 (same_new nt _ _ _ (kb7 D _ (outN S5 ecn5 hD) eD6)), TmAt.same ((nl_base (k6.ls fun bb hb => ?_)).trans (nl_fresh nt _)) _ _ t7, og6.same ((gk kb7).trans (nl_fresh nt _))⟩
      rcases List.mem_cons.mp hb with e | e
      · rw [e]
        exact S6.lsts.1
      · rcases List.mem_cons.mp e with e | e
        · rw [e]
          exact S6.lsts.2
        · rw [List.mem_singleton.mp e]
          exact ⟨_, ecn6⟩
    · simp only [plD, p7, hjl]
    · simp only [mok]
      exact ⟨by omega, fun j hj => by have := rg9 j hj; omega, m7, oo1, nd9⟩
    · simp only [mht, h7]
    · simp only [msz, z7]
  | rc i9 ids b o =>
    unfold TmAt at ta
    obtain ⟨a, l, u, wo, rfl, ea, el, tb, og⟩ := ta
    have ea0 := fz.1 _ _ ea
    refine ⟨_, rfl, a, _, 0, _, rfl, rfl, SqT.of ea0, at0, ?_⟩
    refine ⟨_, rfl, p, c, rfl, S0, fun H1 o1 wo1 kp1 S1 og1 oo1 => ?_⟩
    have k1 : Kb [p, c, cn] H H1 := kp1.kb.wide sub2
    have fz1 := fz.up k1 fz.2
    have ea1 := fz1.1 _ _ ea
    have hcn1 := kp1 cn _ ncp ncc hcn
    have hnd1 := kp1 nd _ ndp ndc hnd
    refine ⟨_, rfl, by show 2 ≤ sizeLine; decide, fun tp ntp => ?_⟩
    refine ⟨tp, _, rfl, .inr (SqT.of upd_same), rfl, rfl, _, rfl, ?_⟩
    have sm1 : Same H1 (upd H1 tp (.tup [.str "int", .str "prim"])) := same_new ntp _
    generalize upd H1 tp (.tup [.str "int", .str "prim"]) = H2 at sm1
    have S2 := S1.same sm1
    have k2 := k1.trans (Same.kb (bs := [p, c, cn]) sm1)
    have fz2 := fz.up k2 fz.2
    have ea2 := sm1 _ _ ea1
    have hcn2 := sm1 _ _ hcn1
    have hnd2 := sm1 _ _ hnd1
    have og2 : OgAt (nl H H2) o1 wo1 := og1.same (nl_grow fun bb oo _ y => sm1 _ _ y)
    refine if_false_of (by decide +kernel) ?_
    refine ⟨_, rfl, rfl, _, rfl, ?_⟩
    refine if_false_of (str_ne (by decide +kernel)) ?_
    refine ⟨Nat.zero_le _, fun li0 nli0 => ?_⟩
    have sm2 : Same H2 (upd H2 li0 (.lst [])) := same_new nli0 _
    have eli0 : (upd H2 li0 (.lst [])) li0 = some (.lst (([] : List Int).map V.int)) := upd_same
    generalize upd H2 li0 (.lst []) = H2b at sm2 eli0
    have k2b := k2.trans (Same.kb (bs := [p, c, cn]) sm2)
    have S2b := S2.same sm2
    refine ⟨_, rfl, rfl, _, rfl, ?_⟩
    refine if_false_of (str_ne (by decide +kernel)) ?_
    refine ⟨_, rfl, rfl, _, rfl, ?_⟩
    refine if_true_of str_eq ?_
    refine ⟨_, rfl, a, _, 1, _, rfl, rfl, SqT.of (sm2 _ _ ea2), atI_nat (j := 1) rfl, by show 1 ≤ sizeLine; decide, fun b1 nb1 => ?_⟩
    have sb1 : Same H2b (upd H2b b1 (.lst [.int i9])) := same_new nb1 _
    simp only [mok] at hm
    refine ⟨_, rfl, a, _, 2, _, rfl, rfl, SqT.of (sb1 _ _ (sm2 _ _ ea2)), atI_nat (j := 2) rfl, b1, l, _, _, rfl, rfl, upd_same, sb1 _ _ (sm2 _ _ (fz2.1 _ _ el)), by rw [List.length_map]; show 1 + ids.length ≤ sizeLine; exact small (by omega), fun li nli => ?_⟩
    refine ⟨_, rfl, rfl, _, rfl, ?_⟩
    refine if_false_of (str_ne (by decide +kernel)) ?_
    obtain ⟨Hc, eHc⟩ : ∃ Hc, Hc = upd (upd H2b b1 (.lst [.int i9])) li (.lst ([.int i9] ++ ids.map V.int)) := ⟨_, rfl⟩
    rw [← eHc]
    have smc : Same H2b Hc := by
      rw [eHc]
      exact sb1.trans (same_new nli _)
    have Sc := S2b.same smc
    have kc := k2b.trans (Same.kb (bs := [p, c, cn]) smc)
    have hcnc := smc _ _ (sm2 _ _ hcn2)
    have hndc := smc _ _ (sm2 _ _ hnd2)
    have ogc : OgAt (nl H Hc) o1 wo1 := og2.same (nl_grow fun bb oo _ y => smc _ _ (sm2 _ _ y))
    simp only [mht] at hht hkl q
    simp only [msz] at hsz hcb q
    have ndI : (i9 :: ids).Nodup := hm.2.2.2.2.2
    have idl9 : (i9 :: ids).length = ids.length + 1 := rfl
    have eli : Hc li = some (.lst ((i9 :: ids).map V.int)) := by
      rw [eHc]
      exact upd_same
    have lio := outN (S2b.same sb1) (sb1 _ _ (sm2 _ _ hcn2)) nli
    have lip : li ≠ p := fun e => lio (by simp [e])
    have lic : li ≠ c := fun e => lio (by simp [e])
    have lin : li ≠ cn := fun e => lio (by simp [e])
    obtain ⟨kind, ekind⟩ : ∃ kind, kind = V.str "rec" := ⟨_, rfl⟩
    rw [← ekind]
    refine fun inn ninn => ?_
    have sm3 : Same Hc (upd Hc inn (.dK [])) := same_new ninn _
    have einn : (upd Hc inn (.dK [])) inn = some (.dK []) := upd_same
    generalize upd Hc inn (.dK []) = H3 at sm3 einn
    have innd : inn ≠ nd := fun e => by
      rw [e, hndc] at ninn
      cases ninn
    have iout := outN Sc hcnc ninn
    have inH : H inn = none := kc.free iout ninn
    have S3 := Sc.same sm3
    refine ⟨nd, .dK kvs, sm3 _ _ hndc, trivial, fun od => ?_⟩
    refine ⟨_, rfl, nd, od, rfl, .inl ⟨kvs, upd_same, ?_⟩⟩
    refine for_it (walk_keys (d := nd) (o := od) (kvs := kvs)) (fun i σ H' => ∃ (y8 : Option V) (kI : List (Key × V)) (mi : Int → Option Int), σ = [some (.ref p), some (.ref a), some (.ref nd), some (.ref cn), some kind, some wo1, some (.ref li), some (.ref inn), y8, none, none, none, none, none] ∧ Kb [inn] (upd H3 nd (.frz od (.dK kvs))) H' ∧ H' inn = some (.dK kI) ∧ DV kI mi ∧ Cp kvs m mi i ∧ kI.length ≤ i)
      ⟨none, [], _, rfl, Kb.refl _ _, by rw [upd_ne innd]; exact einn, DV.nil, Cp.nil, Nat.zero_le _⟩ (fun i σ H' _ ⟨_, _, _, _, kb, _⟩ => kb nd _ (by simp [Ne.symm innd]) upd_same) ?_ ?_
    · rintro i x σ H' H'' hi ⟨y8, kI, mi, rfl, kb, eI, dI, cp, lI⟩ ⟨rfl, kk, vv, hkv, rfl⟩
      obtain ⟨i0, j0, ep⟩ := dv.2 _ (List.mem_of_getElem? hkv)
      obtain ⟨j1, hj1⟩ := dv.has (ep ▸ List.mem_of_getElem? hkv)
      injection ep with ek ev
      subst ek ev
      refine ⟨_, rfl, _, rfl, nd, .int j1, rfl, .inl ⟨kvs, Sum.inl i0, .inr ⟨od, kb nd _ (by simp [Ne.symm innd]) upd_same⟩, rfl, by rw [dv.1 i0, hj1]; rfl⟩, _, rfl, _, rfl, inn, _, rfl, DPut.k (k := (Sum.inl i0 : Key)) eI (smallL (by omega)), ?_⟩
      refine ⟨_, _, _, rfl, kb.put List.mem_cons_self _, upd_same, dI.put, cp.step hkv hj1, by have := length_putK kI (Sum.inl i0 : Key) (.int j1); omega⟩
    rintro σ Hx ⟨y8, kI, mi, rfl, kbx, eI, dI, cp, lI⟩
    rw [cp.all dv] at dI
    refine ⟨kbx nd _ (by simp [Ne.symm innd]) upd_same, ?_⟩
    have k34 : Kb [inn] H3 (upd Hx nd (.dK kvs)) := fun b o n y => by
      by_cases z : b = nd
      · rw [z, upd_same]
        rw [z, sm3 _ _ hndc] at y
        exact y
      · rw [upd_ne z]
        exact kbx b o n (by rw [upd_ne z]; exact y)
    have eI4 : (upd Hx nd (.dK kvs)) inn = some (.dK kI) := by
      rw [upd_ne innd]
      exact eI
    generalize upd Hx nd (.dK kvs) = H4 at k34 eI4
    have kc4 : Kb [inn] Hc H4 := fun b o n y => k34 b o n (sm3 _ _ y)
    have k4 : Kb [p, c, cn] H H4 := fun b o n y => kc4 b o (fun z => by rw [List.mem_singleton.mp z, inH] at y; cases y) (kc b o n y)
    have inp : p ≠ inn := fun e => iout (by simp [e])
    have inc : c ≠ inn := fun e => iout (by simp [e])
    have inn' : cn ≠ inn := fun e => iout (by simp [e])
    have S4 : St p c H4 := Sc.kb kc4 (by simp [inp]) (by simp [inc])
    have hcn4 := kc4 cn _ (by simp [inn']) hcnc
    have hnd4 := kc4 nd _ (by simp [Ne.symm innd]) hndc
    have lii : li ≠ inn := fun e => by
      rw [e, ninn] at eli
      cases eli
    have eli4 := kc4 li _ (by simp [lii]) eli
    refine ⟨_, rfl, li, rfl, ⟨_, SqL.of eli4⟩, ?_⟩
    refine for_list (K := K) (a := li) (xs := ((i9 :: ids)).map V.int) (fun i σ H' => ∃ (y9 : Option V) (kJ : List (Key × V)) (mJ : Int → Option Int) (cc : Int) (js : List Int), σ = [some (.ref p), some (.ref a), some (.ref nd), some (.ref cn), some kind, some wo1, some (.ref li), some (.ref inn), y8, y9, none, none, none, none] ∧ Kb [p, c, cn, inn] H4 H' ∧ St p c H' ∧ H' cn = some (.lst [.int cc]) ∧ H' inn = some (.dK kJ) ∧ DV kJ mJ ∧ Rel (env ++ ((i9 :: ids)).take i) (env' ++ js) mJ cc ∧ js.length = i ∧ c0 ≤ cc ∧ cc ≤ c0 + 3 * (i : Int) ∧ kJ.length ≤ kvs.length + i ∧ js.Nodup ∧ (∀ j ∈ js, c0 < j ∧ j ≤ cc) ∧ (∀ (t : Nat) (x : Int), (((i9 :: ids)).take i)[t]? = some x → ∃ j, js[t]? = some j ∧ mJ x = some j))
      ⟨none, kI, m, c0, [], rfl, Kb.refl _ _, S4, hcn4, eI4, dI, by rw [List.take_zero, List.append_nil, List.append_nil]; exact rel, rfl, Int.le_refl _, by omega, by omega, List.nodup_nil, (fun j hj => by cases hj), fun t x hx => by rw [List.take_zero] at hx; simp at hx⟩ (fun i σ H' _ ⟨_, _, _, _, _, _, kb, _⟩ => SqL.of (kb li _ (by simp [lip, lic, lin, lii]) eli4)) ?_ ?_
    · rintro i xv σ H' hx ⟨y9, kJ, mJ, cc, js, rfl, kb, Sx, ecn, eJ, dJ, rJ, hl, b1, b2, b3, nd9, rg9, all9⟩
      obtain ⟨x, hx', rfl⟩ := get_map hx
      have hil : i < ((i9 :: ids)).length := (List.getElem?_eq_some_iff.mp hx').1
      refine ⟨_, rfl, cn, _, 0, _, rfl, rfl, SqL.of ecn, at0, _, _, rfl, rfl, _, rfl, p, c, 3, rfl, by decide, by decide, Sx, fun H6 r6 kp6 S6 a6 b6 => ?_⟩
      have ecn6 := kp6 cn _ ncp ncc ecn
      have eJ6 := kp6 inn _ (Ne.symm inp) (Ne.symm inc) eJ
      refine ⟨_, _, rfl, rfl, _, rfl, cn, _, 0, 0, rfl, rfl, ecn6, rfl, ?_⟩
      have ecn7 : (upd H6 cn (.lst [.int (cc + 1 + r6)])) cn = some (.lst [.int (cc + 1 + r6)]) := upd_same
      have eJ7 : (upd H6 cn (.lst [.int (cc + 1 + r6)])) inn = some (.dK kJ) := by
        rw [upd_ne (Ne.symm inn')]
        exact eJ6
      have S7 : St p c (upd H6 cn (.lst [.int (cc + 1 + r6)])) := S6.put ncp ncc _
      have kb7 : Kb [p, c, cn, inn] H4 (upd H6 cn (.lst [.int (cc + 1 + r6)])) := (kb.trans (kp6.kb.wide fun b hb => by
        rcases List.mem_cons.mp hb with e | e
        · simp [e]
        · simp [List.mem_singleton.mp e])).put (by simp) _
      refine ⟨_, rfl, cn, _, 0, _, rfl, rfl, SqL.of ecn7, at0, _, rfl, _, rfl, inn, _, rfl, DPut.k (k := (Sum.inl x : Key)) eJ7 (smallL (by omega)), ?_⟩
      have tk1 : ((i9 :: ids)).take (i + 1) = ((i9 :: ids)).take i ++ [x] := by rw [List.take_add_one, hx']; rfl
      have r7 := rJ.snoc (i := x) (j := cc + 1 + r6) (by omega) (by omega)
      refine ⟨_, _, upM mJ x (cc + 1 + r6), cc + 1 + r6, js ++ [cc + 1 + r6], rfl, kb7.put (by simp) _, S7.put (Ne.symm inp) (Ne.symm inc) _, by rw [upd_ne inn']; exact ecn7, upd_same, dJ.put, by rw [tk1, ← List.append_assoc, ← List.append_assoc]; exact r7, by rw [List.length_append, hl]; rfl, by omega, by omega, by have := length_putK kJ (Sum.inl x : Key) (.int (cc + 1 + r6)); omega, ?_, ?_, ?_⟩
      · refine List.nodup_append.mpr ⟨nd9, List.pairwise_singleton _ _, fun u hu w hw z => ?_⟩
        rw [List.mem_singleton.mp hw] at z
        have := rg9 u hu
        omega
      · intro j hj
        rcases List.mem_append.mp hj with e | e
        · have := rg9 j e
          omega
        · rw [List.mem_singleton.mp e]
          omega
      · intro t y hy
        rw [tk1] at hy
        have lt : (((i9 :: ids)).take i).length = i := by rw [List.length_take]; omega
        by_cases z : t < i
        · rw [List.getElem?_append_left (by omega)] at hy
          obtain ⟨j, h1, h2⟩ := all9 t y hy
          refine ⟨j, by rw [List.getElem?_append_left (by omega)]; exact h1, ?_⟩
          unfold upM
          rw [if_neg (fun e => ?_)]
          · exact h2
          · have ht : ((i9 :: ids))[t]? = some y := by
              rw [List.getElem?_take_of_lt z] at hy
              exact hy
            rw [e] at ht
            have := (List.getElem?_inj (by have := (List.getElem?_eq_some_iff.mp ht).1; omega) ndI).mp (ht.trans hx'.symm)
            omega
        · have ht : t = i := by
            have := (List.getElem?_eq_some_iff.mp hy).1
            rw [List.length_append, lt] at this
            have h1 : ([x] : List Int).length = 1 := rfl
            omega
          rw [ht, List.getElem?_append_right (by omega), lt, Nat.sub_self] at hy
          cases hy
          refine ⟨cc + 1 + r6, by rw [ht, List.getElem?_append_right (by omega), hl, Nat.sub_self]; rfl, ?_⟩
          unfold upM
          rw [if_pos rfl]
    rintro σ H5 ⟨y9, kJ, mJ, cc, js, rfl, kb5, S5, ecn5, eJ5, dJ, rJ, hlj, b1, b2, b3, nd9, rg9, all9⟩
    rw [List.length_map] at hlj b2 b3 rJ all9
    rw [List.take_length] at rJ all9
    have k5 : Kb [p, c, cn] H H5 := fun b o n y => kb5 b o (fun z => by
      rcases List.mem_cons.mp z with e | e
      · exact n (by simp [e])
      · rcases List.mem_cons.mp e with e | e
        · exact n (by simp [e])
        · rcases List.mem_cons.mp e with e | e
          · exact n (by simp [e])
          · rw [List.mem_singleton.mp e, inH] at y
            cases y) (k4 b o n y)
    have hnd5 := kb5 nd _ (by simp [ndp, ndc, ndn, Ne.symm innd]) hnd4
    have fz5 := fz.up k5 fz.2
    have ea5 := fz5.1 _ _ ea
    have og5 : OgAt (nl H H5) o1 wo1 := ogc.same (nl_grow fun bb oo n y => kb5 _ _ (fun z => by
      rcases List.mem_cons.mp z with e | e
      · obtain ⟨xs, e2⟩ := lst3 p (by simp)
        exact n xs (by rw [e]; exact e2)
      · rcases List.mem_cons.mp e with e | e
        · obtain ⟨xs, e2⟩ := lst3 c (by simp)
          exact n xs (by rw [e]; exact e2)
        · rcases List.mem_cons.mp e with e | e
          · exact n _ (by rw [e]; exact hcn)
          · rw [List.mem_singleton.mp e, ninn] at y
            cases y) (kc4 _ _ (fun z => by rw [List.mem_singleton.mp z, ninn] at y; cases y) y))
    rw [ekind]
    refine ⟨_, rfl, rfl, _, rfl, ?_⟩
    refine if_false_of (str_ne (by decide +kernel)) ?_
    refine ⟨_, rfl, rfl, _, rfl, ?_⟩
    refine if_true_of str_eq ?_
    have el5 := fz5.1 _ _ el
    obtain ⟨j0, hj0, mj0⟩ := all9 0 i9 rfl
    obtain ⟨jt, rfl⟩ : ∃ jt, js = j0 :: jt := by
      cases js with
      | nil => cases hj0
      | cons a b =>
        cases hj0
        exact ⟨b, rfl⟩
    have hjl : jt.length = ids.length := by simpa using hlj
    have all9' : ∀ (t : Nat) (x : Int), ids[t]? = some x → ∃ j, jt[t]? = some j ∧ mJ x = some j := fun t x h => all9 (t + 1) x h
    have gk : ∀ {A B : Hp}, Kb [p, c, cn] A B → Same (nl H A) (nl H B) := fun {A B} kk => Kb.nl lst3 kk
    refine ⟨_, rfl, _, rfl, a, _, 1, _, rfl, rfl, SqT.of ea5, atI_nat (j := 1) rfl, inn, .int j0, rfl, .inl ⟨kJ, Sum.inl i9, .inl eJ5, rfl, by rw [dJ.1 i9, mj0]; rfl⟩, ?_⟩
    refine ⟨_, rfl, a, _, 2, _, rfl, rfl, SqT.of ea5, atI_nat (j := 2) rfl, l, rfl, ⟨_, SqL.of el5⟩, fun D hD => ?_⟩
    have inD : inn ≠ D := fun e => by
      rw [← e, eJ5] at hD
      cases hD
    have HD0 : H D = none := k5.free (outN S5 ecn5 hD) hD
    refine lc_list (K := K) (a := l) (xs := ids.map V.int) (fun i H' => Same H5 H' ∧ H' D = some (.lst ((jt.take i).map V.int))) ⟨same_new hD _, upd_same⟩ (fun i H' _ h' => SqL.of (h'.1 _ _ el5)) ?_ ?_
    · rintro i xv H' hx ⟨sm, eD⟩
      refine ⟨rfl, yes_k ?_⟩
      obtain ⟨x0, hx0, rfl⟩ := get_map hx
      obtain ⟨j, hj, mj⟩ := all9' i x0 hx0
      refine ⟨_, rfl, _, rfl, inn, .int j, rfl, .inl ⟨kJ, Sum.inl x0, .inl (sm _ _ eJ5), rfl, by rw [dJ.1 x0, mj]; rfl⟩, _, eD, by rw [List.length_map, List.length_take]; exact smallL (by omega), same_mut sm hD _, by rw [upd_same, take_map _ hj]⟩
    rintro H6 ⟨sm6, eD6⟩
    rw [List.length_map, ← hjl, List.take_length] at eD6
    have k6 := k5.trans (Same.kb (bs := [p, c, cn]) sm6)
    have S6 := S5.same sm6
    have ecn6 := sm6 _ _ ecn5
    have eJ6 := sm6 _ _ eJ5
    have ea6 := sm6 _ _ ea5
    have og6 : OgAt (nl H H6) o1 wo1 := og5.same (nl_grow fun bb oo _ y => sm6 _ _ y)
    have rJ' : Rel (env ++ [i9] ++ ids) (env' ++ [j0] ++ jt) mJ cc := by
      rw [List.append_assoc, List.append_assoc]
      exact rJ
    refine ⟨_, rfl, _, rfl, a, _, 3, _, rfl, rfl, SqT.of ea6, atI_nat (j := 3) rfl, _, rfl, _, rfl, p, c, cn, inn, Fh, b, u, env ++ [i9] ++ ids, env' ++ [j0] ++ jt, mJ, kJ, cc, rfl, fz.up k6 fz.2, tb, eJ6, dJ, ecn6, ncp, ncc, S6, hm.2.2.2.1, rJ', by omega, by omega, by omega, by omega, by omega, fun H7 u7 w7 c7 kb7 S7 hcn7 d1 d2 t7 p7 m7 h7 z7 => ?_⟩
    refine ⟨_, rfl, by show 5 ≤ sizeLine; decide, fun t nt => ?_⟩
    have tout := outN S7 hcn7 nt
    have k7 := k6.trans kb7
    have rg0 := rg9 j0 List.mem_cons_self
    refine q _ (.rc j0 jt u7 o1) _ c7 (k7.trans (Same.kb (same_new nt _))) (S7.same (same_new nt _)) (same_new nt _ _ _ hcn7) (by omega) (by omega) ?_ ?_ ?_ ?_ ?_
    · unfold TmAt
      refine ⟨t, D, w7, wo1, rfl, nl_new (k7.free tout nt) upd_same, nl_new HD0 (same_new nt _ _ _ (kb7 D _ (outN S5 ecn5 hD) eD6)), TmAt.same ((nl_base (k6.ls fun bb hb => ?_)).trans (nl_fresh nt _)) _ _ t7, og6.same ((gk kb7).trans (nl_fresh nt _))⟩
      rcases List.mem_cons.mp hb with e | e
      · rw [e]
        exact S6.lsts.1
      · rcases List.mem_cons.mp e with e | e
        · rw [e]
          exact S6.lsts.2
        · rw [List.mem_singleton.mp e]
          exact ⟨_, ecn6⟩
    · simp only [plD, p7, hjl]
    · simp only [mok]
      exact ⟨by omega, by omega, fun j hj => by have := rg9 j (List.mem_cons_of_mem _ hj); omega, m7, oo1, nd9⟩
    · simp only [mht, h7]
    · simp only [msz, z7]
  | lt i9 x b o =>
    unfold TmAt at ta
    obtain ⟨a, u1, u2, wo, rfl, ea, tx, tb, og⟩ := ta
    have ea0 := fz.1 _ _ ea
    refine ⟨_, rfl, a, _, 0, _, rfl, rfl, SqT.of ea0, at0, ?_⟩
    refine ⟨_, rfl, p, c, rfl, S0, fun H1 o1 wo1 kp1 S1 og1 oo1 => ?_⟩
    have k1 : Kb [p, c, cn] H H1 := kp1.kb.wide sub2
    have fz1 := fz.up k1 fz.2
    have ea1 := fz1.1 _ _ ea
    have hcn1 := kp1 cn _ ncp ncc hcn
    have hnd1 := kp1 nd _ ndp ndc hnd
    refine ⟨_, rfl, by show 2 ≤ sizeLine; decide, fun tp ntp => ?_⟩
    refine ⟨tp, _, rfl, .inr (SqT.of upd_same), rfl, rfl, _, rfl, ?_⟩
    have sm1 : Same H1 (upd H1 tp (.tup [.str "int", .str "prim"])) := same_new ntp _
    generalize upd H1 tp (.tup [.str "int", .str "prim"]) = H2 at sm1
    have S2 := S1.same sm1
    have k2 := k1.trans (Same.kb (bs := [p, c, cn]) sm1)
    have fz2 := fz.up k2 fz.2
    have ea2 := sm1 _ _ ea1
    have hcn2 := sm1 _ _ hcn1
    have hnd2 := sm1 _ _ hnd1
    have og2 : OgAt (nl H H2) o1 wo1 := og1.same (nl_grow fun bb oo _ y => sm1 _ _ y)
    refine if_false_of (by decide +kernel) ?_
    refine ⟨_, rfl, rfl, _, rfl, ?_⟩
    refine if_false_of (str_ne (by decide +kernel)) ?_
    refine ⟨Nat.zero_le _, fun li0 nli0 => ?_⟩
    have sm2 : Same H2 (upd H2 li0 (.lst [])) := same_new nli0 _
    have eli0 : (upd H2 li0 (.lst [])) li0 = some (.lst (([] : List Int).map V.int)) := upd_same
    generalize upd H2 li0 (.lst []) = H2b at sm2 eli0
    have k2b := k2.trans (Same.kb (bs := [p, c, cn]) sm2)
    have S2b := S2.same sm2
    refine ⟨_, rfl, rfl, _, rfl, ?_⟩
    refine if_false_of (str_ne (by decide +kernel)) ?_
    refine ⟨_, rfl, rfl, _, rfl, ?_⟩
    refine if_false_of (str_ne (by decide +kernel)) ?_
    refine ⟨_, rfl, rfl, _, rfl, ?_⟩
    refine if_true_of str_eq ?_
    refine ⟨_, rfl, a, _, 1, _, rfl, rfl, SqT.of (sm2 _ _ ea2), atI_nat (j := 1) rfl, by show 1 ≤ sizeLine; decide, fun li nli => ?_⟩
    obtain ⟨Hc, eHc⟩ : ∃ Hc, Hc = upd H2b li (.lst [.int i9]) := ⟨_, rfl⟩
    rw [← eHc]
    have smc : Same H2b Hc := by
      rw [eHc]
      exact same_new nli _
    have Sc := S2b.same smc
    have kc := k2b.trans (Same.kb (bs := [p, c, cn]) smc)
    have hcnc := smc _ _ (sm2 _ _ hcn2)
    have hndc := smc _ _ (sm2 _ _ hnd2)
    have ogc : OgAt (nl H Hc) o1 wo1 := og2.same (nl_grow fun bb oo _ y => smc _ _ (sm2 _ _ y))
    simp only [mok] at hm
    simp only [mht] at hht hkl q
    simp only [msz] at hsz hcb q
    have ndI : ([i9] : List Int).Nodup := List.pairwise_singleton _ _
    have idl9 : ([i9] : List Int).length = 1 := rfl
    have eli : Hc li = some (.lst (([i9] : List Int).map V.int)) := by
      rw [eHc]
      exact upd_same
    have lio := outN S2b (sm2 _ _ hcn2) nli
    have lip : li ≠ p := fun e => lio (by simp [e])
    have lic : li ≠ c := fun e => lio (by simp [e])
    have lin : li ≠ cn := fun e => lio (by simp [e])
    obtain ⟨kind, ekind⟩ : ∃ kind, kind = V.str "let" := ⟨_, rfl⟩
    rw [← ekind]
    refine fun inn ninn => ?_
    have sm3 : Same Hc (upd Hc inn (.dK [])) := same_new ninn _
    have einn : (upd Hc inn (.dK [])) inn = some (.dK []) := upd_same
    generalize upd Hc inn (.dK []) = H3 at sm3 einn
    have innd : inn ≠ nd := fun e => by
      rw [e, hndc] at ninn
      cases ninn
    have iout := outN Sc hcnc ninn
    have inH : H inn = none := kc.free iout ninn
    have S3 := Sc.same sm3
    refine ⟨nd, .dK kvs, sm3 _ _ hndc, trivial, fun od => ?_⟩
    refine ⟨_, rfl, nd, od, rfl, .inl ⟨kvs, upd_same, ?_⟩⟩
    refine for_it (walk_keys (d := nd) (o := od) (kvs := kvs)) (fun i σ H' => ∃ (y8 : Option V) (kI : List (Key × V)) (mi : Int → Option Int), σ = [some (.ref p), some (.ref a), some (.ref nd), some (.ref cn), some kind, some wo1, some (.ref li), some (.ref inn), y8, none, none, none, none, none] ∧ Kb [inn] (upd H3 nd (.frz od (.dK kvs))) H' ∧ H' inn = some (.dK kI) ∧ DV kI mi ∧ Cp kvs m mi i ∧ kI.length ≤ i)
      ⟨none, [], _, rfl, Kb.refl _ _, by rw [upd_ne innd]; exact einn, DV.nil, Cp.nil, Nat.zero_le _⟩ (fun i σ H' _ ⟨_, _, _, _, kb, _⟩ => kb nd _ (by simp [Ne.symm innd]) upd_same) ?_ ?_
    · rintro i x σ H' H'' hi ⟨y8, kI, mi, rfl, kb, eI, dI, cp, lI⟩ ⟨rfl, kk, vv, hkv, rfl⟩
      obtain ⟨i0, j0, ep⟩ := dv.2 _ (List.mem_of_getElem? hkv)
      obtain ⟨j1, hj1⟩ := dv.has (ep ▸ List.mem_of_getElem? hkv)
      injection ep with ek ev
      subst ek ev
      refine ⟨_, rfl, _, rfl, nd, .int j1, rfl, .inl ⟨kvs, Sum.inl i0, .inr ⟨od, kb nd _ (by simp [Ne.symm innd]) upd_same⟩, rfl, by rw [dv.1 i0, hj1]; rfl⟩, _, rfl, _, rfl, inn, _, rfl, DPut.k (k := (Sum.inl i0 : Key)) eI (smallL (by omega)), ?_⟩
      refine ⟨_, _, _, rfl, kb.put List.mem_cons_self _, upd_same, dI.put, cp.step hkv hj1, by have := length_putK kI (Sum.inl i0 : Key) (.int j1); omega⟩
    rintro σ Hx ⟨y8, kI, mi, rfl, kbx, eI, dI, cp, lI⟩
    rw [cp.all dv] at dI
    refine ⟨kbx nd _ (by simp [Ne.symm innd]) upd_same, ?_⟩
    have k34 : Kb [inn] H3 (upd Hx nd (.dK kvs)) := fun b o n y => by
      by_cases z : b = nd
      · rw [z, upd_same]
        rw [z, sm3 _ _ hndc] at y
        exact y
      · rw [upd_ne z]
        exact kbx b o n (by rw [upd_ne z]; exact y)
    have eI4 : (upd Hx nd (.dK kvs)) inn = some (.dK kI) := by
      rw [upd_ne innd]
      exact eI
    generalize upd Hx nd (.dK kvs) = H4 at k34 eI4
    have kc4 : Kb [inn] Hc H4 := fun b o n y => k34 b o n (sm3 _ _ y)
    have k4 : Kb [p, c, cn] H H4 := fun b o n y => kc4 b o (fun z => by rw [List.mem_singleton.mp z, inH] at y; cases y) (kc b o n y)
    have inp : p ≠ inn := fun e => iout (by simp [e])
    have inc : c ≠ inn := fun e => iout (by simp [e])
    have inn' : cn ≠ inn := fun e => iout (by simp [e])
    have S4 : St p c H4 := Sc.kb kc4 (by simp [inp]) (by simp [inc])
    have hcn4 := kc4 cn _ (by simp [inn']) hcnc
    have hnd4 := kc4 nd _ (by simp [Ne.symm innd]) hndc
    have lii : li ≠ inn := fun e => by
      rw [e, ninn] at eli
      cases eli
    have eli4 := kc4 li _ (by simp [lii]) eli
    refine ⟨_, rfl, li, rfl, ⟨_, SqL.of eli4⟩, ?_⟩
    refine for_list (K := K) (a := li) (xs := (([i9] : List Int)).map V.int) (fun i σ H' => ∃ (y9 : Option V) (kJ : List (Key × V)) (mJ : Int → Option Int) (cc : Int) (js : List Int), σ = [some (.ref p), some (.ref a), some (.ref nd), some (.ref cn), some kind, some wo1, some (.ref li), some (.ref inn), y8, y9, none, none, none, none] ∧ Kb [p, c, cn, inn] H4 H' ∧ St p c H' ∧ H' cn = some (.lst [.int cc]) ∧ H' inn = some (.dK kJ) ∧ DV kJ mJ ∧ Rel (env ++ (([i9] : List Int)).take i) (env' ++ js) mJ cc ∧ js.length = i ∧ c0 ≤ cc ∧ cc ≤ c0 + 3 * (i : Int) ∧ kJ.length ≤ kvs.length + i ∧ js.Nodup ∧ (∀ j ∈ js, c0 < j ∧ j ≤ cc) ∧ (∀ (t : Nat) (x : Int), ((([i9] : List Int)).take i)[t]? = some x → ∃ j, js[t]? = some j ∧ mJ x = some j))
      ⟨none, kI, m, c0, [], rfl, Kb.refl _ _, S4, hcn4, eI4, dI, by rw [List.take_zero, List.append_nil, List.append_nil]; exact rel, rfl, Int.le_refl _, by omega, by omega, List.nodup_nil, (fun j hj => by cases hj), fun t x hx => by rw [List.take_zero] at hx; simp at hx⟩ (fun i σ H' _ ⟨_, _, _, _, _, _, kb, _⟩ => SqL.of (kb li _ (by simp [lip, lic, lin, lii]) eli4)) ?_ ?_
    · rintro i xv σ H' hx ⟨y9, kJ, mJ, cc, js, rfl, kb, Sx, ecn, eJ, dJ, rJ, hl, b1, b2, b3, nd9, rg9, all9⟩
      obtain ⟨x, hx', rfl⟩ := get_map hx
      have hil : i < (([i9] : List Int)).length := (List.getElem?_eq_some_iff.mp hx').1
      refine ⟨_, rfl, cn, _, 0, _, rfl, rfl, SqL.of ecn, at0, _, _, rfl, rfl, _, rfl, p, c, 3, rfl, by decide, by decide, Sx, fun H6 r6 kp6 S6 a6 b6 => ?_⟩
      have ecn6 := kp6 cn _ ncp ncc ecn
      have eJ6 := kp6 inn _ (Ne.symm inp) (Ne.symm inc) eJ
      refine ⟨_, _, rfl, rfl, _, rfl, cn, _, 0, 0, rfl, rfl, ecn6, rfl, ?_⟩
      have ecn7 : (upd H6 cn (.lst [.int (cc + 1 + r6)])) cn = some (.lst [.int (cc + 1 + r6)]) := upd_same
      have eJ7 : (upd H6 cn (.lst [.int (cc + 1 + r6)])) inn = some (.dK kJ) := by
        rw [upd_ne (Ne.symm inn')]
        exact eJ6
      have S7 : St p c (upd H6 cn (.lst [.int (cc + 1 + r6)])) := S6.put ncp ncc _
      have kb7 : Kb [p, c, cn, inn] H4 (upd H6 cn (.lst [.int (cc + 1 + r6)])) := (kb.trans (kp6.kb.wide fun b hb => by
        rcases List.mem_cons.mp hb with e | e
        · simp [e]
        · simp [List.mem_singleton.mp e])).put (by simp) _
      refine ⟨_, rfl, cn, _, 0, _, rfl, rfl, SqL.of ecn7, at0, _, rfl, _, rfl, inn, _, rfl, DPut.k (k := (Sum.inl x : Key)) eJ7 (smallL (by omega)), ?_⟩
      have tk1 : (([i9] : List Int)).take (i + 1) = (([i9] : List Int)).take i ++ [x] := by rw [List.take_add_one, hx']; rfl
      have r7 := rJ.snoc (i := x) (j := cc + 1 + r6) (by omega) (by omega)
      refine ⟨_, _, upM mJ x (cc + 1 + r6), cc + 1 + r6, js ++ [cc + 1 + r6], rfl, kb7.put (by simp) _, S7.put (Ne.symm inp) (Ne.symm inc) _, by rw [upd_ne inn']; exact ecn7, upd_same, dJ.put, by rw [tk1, ← List.append_assoc, ← List.append_assoc]; exact r7, by rw [List.length_append, hl]; rfl, by omega, by omega, by have := length_putK kJ (Sum.inl x : Key) (.int (cc + 1 + r6)); omega, ?_, ?_, ?_⟩
      · refine List.nodup_append.mpr ⟨nd9, List.pairwise_singleton _ _, fun u hu w hw z => ?_⟩
        rw [List.mem_singleton.mp hw] at z
        have := rg9 u hu
        omega
      · intro j hj
        rcases List.mem_append.mp hj with e | e
        · have := rg9 j e
          omega
        · rw [List.mem_singleton.mp e]
          omega
      · intro t y hy
        rw [tk1] at hy
        have lt : ((([i9] : List Int)).take i).length = i := by rw [List.length_take]; omega
        by_cases z : t < i
        · rw [List.getElem?_append_left (by omega)] at hy
          obtain ⟨j, h1, h2⟩ := all9 t y hy
          refine ⟨j, by rw [List.getElem?_append_left (by omega)]; exact h1, ?_⟩
          unfold upM
          rw [if_neg (fun e => ?_)]
          · exact h2
          · have ht : (([i9] : List Int))[t]? = some y := by
              rw [List.getElem?_take_of_lt z] at hy
              exact hy
            rw [e] at ht
            have := (List.getElem?_inj (by have := (List.getElem?_eq_some_iff.mp ht).1; omega) ndI).mp (ht.trans hx'.symm)
            omega
        · have ht : t = i := by
            have := (List.getElem?_eq_some_iff.mp hy).1
            rw [List.length_append, lt] at this
            have h1 : ([x] : List Int).length = 1 := rfl
            omega
          rw [ht, List.getElem?_append_right (by omega), lt, Nat.sub_self] at hy
          cases hy
          refine ⟨cc + 1 + r6, by rw [ht, List.getElem?_append_right (by omega), hl, Nat.sub_self]; rfl, ?_⟩
          unfold upM
          rw [if_pos rfl]
    rintro σ H5 ⟨y9, kJ, mJ, cc, js, rfl, kb5, S5, ecn5, eJ5, dJ, rJ, hlj, b1, b2, b3, nd9, rg9, all9⟩
    rw [List.length_map] at hlj b2 b3 rJ all9
    rw [List.take_length] at rJ all9
    have k5 : Kb [p, c, cn] H H5 := fun b o n y => kb5 b o (fun z => by
      rcases List.mem_cons.mp z with e | e
      · exact n (by simp [e])
      · rcases List.mem_cons.mp e with e | e
        · exact n (by simp [e])
        · rcases List.mem_cons.mp e with e | e
          · exact n (by simp [e])
          · rw [List.mem_singleton.mp e, inH] at y
            cases y) (k4 b o n y)
    have hnd5 := kb5 nd _ (by simp [ndp, ndc, ndn, Ne.symm innd]) hnd4
    have fz5 := fz.up k5 fz.2
    have ea5 := fz5.1 _ _ ea
    have og5 : OgAt (nl H H5) o1 wo1 := ogc.same (nl_grow fun bb oo n y => kb5 _ _ (fun z => by
      rcases List.mem_cons.mp z with e | e
      · obtain ⟨xs, e2⟩ := lst3 p (by simp)
        exact n xs (by rw [e]; exact e2)
      · rcases List.mem_cons.mp e with e | e
        · obtain ⟨xs, e2⟩ := lst3 c (by simp)
          exact n xs (by rw [e]; exact e2)
        · rcases List.mem_cons.mp e with e | e
          · exact n _ (by rw [e]; exact hcn)
          · rw [List.mem_singleton.mp e, ninn] at y
            cases y) (kc4 _ _ (fun z => by rw [List.mem_singleton.mp z, ninn] at y; cases y) y))
    rw [ekind]
    refine ⟨_, rfl, rfl, _, rfl, ?_⟩
    refine if_false_of (str_ne (by decide +kernel)) ?_
    refine ⟨_, rfl, rfl, _, rfl, ?_⟩
    refine if_false_of (str_ne (by decide +kernel)) ?_
    refine ⟨_, rfl, rfl, _, rfl, ?_⟩
    refine if_true_of str_eq ?_
    have gk : ∀ {A B : Hp}, Kb [p, c, cn] A B → Same (nl H A) (nl H B) := fun {A B} kk => Kb.nl lst3 kk
    have lsK : ∀ {A : Hp} {z0 : Int}, Kb [p, c, cn] H A → St p c A → A cn = some (.lst [.int z0]) → Ls H A := fun {A z0} kk SS ee => kk.ls fun bb hb => by
      rcases List.mem_cons.mp hb with e | e
      · rw [e]
        exact SS.lsts.1
      · rcases List.mem_cons.mp e with e | e
        · rw [e]
          exact SS.lsts.2
        · rw [List.mem_singleton.mp e]
          exact ⟨_, ee⟩
    obtain ⟨j0, hj0, mj0⟩ := all9 0 i9 rfl
    have ejs : js = [j0] := by
      match js, hlj, hj0 with
      | [a0], _, hj0 =>
        cases hj0
        rfl
    rw [ejs] at rJ
    have rg0 := rg9 j0 (by rw [ejs]; exact List.mem_cons_self)
    refine ⟨_, rfl, _, rfl, a, _, 2, _, rfl, rfl, SqT.of ea5, atI_nat (j := 2) rfl, _, rfl, _, rfl, p, c, cn, nd, Fh, x, u1, env, env', m, kvs, cc, rfl, fz5, tx, hnd5, dv, ecn5, ncp, ncc, S5, hm.2.1, rel.up b1, by omega, by omega, by omega, by omega, by omega, fun H6 x6 w6 c6 kb6 S6 hcn6 d1 d2 t6 p6 m6 h6 z6 => ?_⟩
    have k6 := k5.trans kb6
    have fz6 := fz.up k6 fz.2
    have ea6 := fz6.1 _ _ ea
    have eJ6 := kb6 inn _ (fun z => iout (by simpa using z)) eJ5
    refine ⟨_, rfl, _, rfl, a, _, 1, _, rfl, rfl, SqT.of ea6, atI_nat (j := 1) rfl, inn, .int j0, rfl, .inl ⟨kJ, Sum.inl i9, .inl eJ6, rfl, by rw [dJ.1 i9, mj0]; rfl⟩, _, rfl, _, rfl, _, rfl, a, _, 3, _, rfl, rfl, SqT.of ea6, atI_nat (j := 3) rfl, _, rfl, _, rfl, p, c, cn, inn, Fh, b, u2, env ++ [i9], env' ++ [j0], mJ, kJ, c6, rfl, fz6, tb, eJ6, dJ, hcn6, ncp, ncc, S6, hm.2.2.1, rJ.up d1, by omega, by omega, by omega, by omega, by omega, fun H7 u7 w7 c7 kb7 S7 hcn7 f1 f2 t7 p7 m7 h7 z7 => ?_⟩
    refine ⟨_, rfl, by show 5 ≤ sizeLine; decide, fun t nt => ?_⟩
    have tout := outN S7 hcn7 nt
    have k7 := k6.trans kb7
    refine q _ (.lt j0 x6 u7 o1) _ c7 (k7.trans (Same.kb (same_new nt _))) (S7.same (same_new nt _)) (same_new nt _ _ _ hcn7) (by omega) (by omega) ?_ ?_ ?_ ?_ ?_
    · unfold TmAt
      exact ⟨t, w6, w7, wo1, rfl, nl_new (k7.free tout nt) upd_same, TmAt.same (((nl_base (lsK k5 S5 ecn5)).trans (gk kb7)).trans (nl_fresh nt _)) _ _ t6, TmAt.same ((nl_base (lsK k6 S6 hcn6)).trans (nl_fresh nt _)) _ _ t7, og5.same (((gk kb6).trans (gk kb7)).trans (nl_fresh nt _))⟩
    · simp only [plD, p6, p7]
    · simp only [mok]
      exact ⟨by omega, m6, m7, oo1⟩
    · simp only [mht, h6, h7]
    · simp only [msz, z6, z7]
  | ite xa ya za o =>
    unfold TmAt at ta
    obtain ⟨a, u1, u2, u3, wo, rfl, ea, tx, ty, tz, og⟩ := ta
    have ea0 := fz.1 _ _ ea
    refine ⟨_, rfl, a, _, 0, _, rfl, rfl, SqT.of ea0, at0, ?_⟩
    refine ⟨_, rfl, p, c, rfl, S0, fun H1 o1 wo1 kp1 S1 og1 oo1 => ?_⟩
    have k1 : Kb [p, c, cn] H H1 := kp1.kb.wide sub2
    have fz1 := fz.up k1 fz.2
    have ea1 := fz1.1 _ _ ea
    have hcn1 := kp1 cn _ ncp ncc hcn
    have hnd1 := kp1 nd _ ndp ndc hnd
    refine ⟨_, rfl, by show 2 ≤ sizeLine; decide, fun tp ntp => ?_⟩
    refine ⟨tp, _, rfl, .inr (SqT.of upd_same), rfl, rfl, _, rfl, ?_⟩
    have sm1 : Same H1 (upd H1 tp (.tup [.str "int", .str "prim"])) := same_new ntp _
    generalize upd H1 tp (.tup [.str "int", .str "prim"]) = H2 at sm1
    have S2 := S1.same sm1
    have k2 := k1.trans (Same.kb (bs := [p, c, cn]) sm1)
    have fz2 := fz.up k2 fz.2
    have ea2 := sm1 _ _ ea1
    have hcn2 := sm1 _ _ hcn1
    have hnd2 := sm1 _ _ hnd1
    have og2 : OgAt (nl H H2) o1 wo1 := og1.same (nl_grow fun bb oo _ y => sm1 _ _ y)
    refine if_false_of (by decide +kernel) ?_
    refine ⟨_, rfl, rfl, _, rfl, ?_⟩
    refine if_false_of (str_ne (by decide +kernel)) ?_
    refine ⟨Nat.zero_le _, fun li0 nli0 => ?_⟩
    have sm2 : Same H2 (upd H2 li0 (.lst [])) := same_new nli0 _
    have eli0 : (upd H2 li0 (.lst [])) li0 = some (.lst (([] : List Int).map V.int)) := upd_same
    generalize upd H2 li0 (.lst []) = H2b at sm2 eli0
    have k2b := k2.trans (Same.kb (bs := [p, c, cn]) sm2)
    have S2b := S2.same sm2
    refine ⟨_, rfl, rfl, _, rfl, ?_⟩
    refine if_false_of (str_ne (by decide +kernel)) ?_
    refine ⟨_, rfl, rfl, _, rfl, ?_⟩
    refine if_false_of (str_ne (by decide +kernel)) ?_
    refine ⟨_, rfl, rfl, _, rfl, ?_⟩
    refine if_false_of (str_ne (by decide +kernel)) ?_
    obtain ⟨Hc, eHc⟩ : ∃ Hc, Hc = H2b := ⟨_, rfl⟩
    rw [← eHc]
    have smc : Same H2b Hc := by
      rw [eHc]
      exact Same.refl _
    have Sc := S2b.same smc
    have kc := k2b.trans (Same.kb (bs := [p, c, cn]) smc)
    have hcnc := smc _ _ (sm2 _ _ hcn2)
    have hndc := smc _ _ (sm2 _ _ hnd2)
    have ogc : OgAt (nl H Hc) o1 wo1 := og2.same (nl_grow fun bb oo _ y => smc _ _ (sm2 _ _ y))
    have ndI : ([] : List Int).Nodup := List.nodup_nil
    have i0 : ([] : List Int).length = 0 := rfl
    have eli := smc _ _ eli0
    have lio := outN S2 hcn2 nli0
    have lip : li0 ≠ p := fun e => lio (by simp [e])
    have lic : li0 ≠ c := fun e => lio (by simp [e])
    have lin : li0 ≠ cn := fun e => lio (by simp [e])
    obtain ⟨li, eli'⟩ : ∃ li, li = li0 := ⟨_, rfl⟩
    rw [← eli'] at eli lip lic lin ⊢
    simp only [mok] at hm
    simp only [mht] at hht hkl q
    simp only [msz] at hsz hcb q
    obtain ⟨kind, ekind⟩ : ∃ kind, kind = V.str "if" := ⟨_, rfl⟩
    rw [← ekind]
    refine fun inn ninn => ?_
    have sm3 : Same Hc (upd Hc inn (.dK [])) := same_new ninn _
    have einn : (upd Hc inn (.dK [])) inn = some (.dK []) := upd_same
    generalize upd Hc inn (.dK []) = H3 at sm3 einn
    have innd : inn ≠ nd := fun e => by
      rw [e, hndc] at ninn
      cases ninn
    have iout := outN Sc hcnc ninn
    have inH : H inn = none := kc.free iout ninn
    have S3 := Sc.same sm3
    refine ⟨nd, .dK kvs, sm3 _ _ hndc, trivial, fun od => ?_⟩
    refine ⟨_, rfl, nd, od, rfl, .inl ⟨kvs, upd_same, ?_⟩⟩
    refine for_it (walk_keys (d := nd) (o := od) (kvs := kvs)) (fun i σ H' => ∃ (y8 : Option V) (kI : List (Key × V)) (mi : Int → Option Int), σ = [some (.ref p), some (.ref a), some (.ref nd), some (.ref cn), some kind, some wo1, some (.ref li), some (.ref inn), y8, none, none, none, none, none] ∧ Kb [inn] (upd H3 nd (.frz od (.dK kvs))) H' ∧ H' inn = some (.dK kI) ∧ DV kI mi ∧ Cp kvs m mi i ∧ kI.length ≤ i)
      ⟨none, [], _, rfl, Kb.refl _ _, by rw [upd_ne innd]; exact einn, DV.nil, Cp.nil, Nat.zero_le _⟩ (fun i σ H' _ ⟨_, _, _, _, kb, _⟩ => kb nd _ (by simp [Ne.symm innd]) upd_same) ?_ ?_
    · rintro i x σ H' H'' hi ⟨y8, kI, mi, rfl, kb, eI, dI, cp, lI⟩ ⟨rfl, kk, vv, hkv, rfl⟩
      obtain ⟨i0, j0, ep⟩ := dv.2 _ (List.mem_of_getElem? hkv)
      obtain ⟨j1, hj1⟩ := dv.has (ep ▸ List.mem_of_getElem? hkv)
      injection ep with ek ev
      subst ek ev
      refine ⟨_, rfl, _, rfl, nd, .int j1, rfl, .inl ⟨kvs, Sum.inl i0, .inr ⟨od, kb nd _ (by simp [Ne.symm innd]) upd_same⟩, rfl, by rw [dv.1 i0, hj1]; rfl⟩, _, rfl, _, rfl, inn, _, rfl, DPut.k (k := (Sum.inl i0 : Key)) eI (smallL (by omega)), ?_⟩
      refine ⟨_, _, _, rfl, kb.put List.mem_cons_self _, upd_same, dI.put, cp.step hkv hj1, by have := length_putK kI (Sum.inl i0 : Key) (.int j1); omega⟩
    rintro σ Hx ⟨y8, kI, mi, rfl, kbx, eI, dI, cp, lI⟩
    rw [cp.all dv] at dI
    refine ⟨kbx nd _ (by simp [Ne.symm innd]) upd_same, ?_⟩
    have k34 : Kb [inn] H3 (upd Hx nd (.dK kvs)) := fun b o n y => by
      by_cases z : b = nd
      · rw [z, upd_same]
        rw [z, sm3 _ _ hndc] at y
        exact y
      · rw [upd_ne z]
        exact kbx b o n (by rw [upd_ne z]; exact y)
    have eI4 : (upd Hx nd (.dK kvs)) inn = some (.dK kI) := by
      rw [upd_ne innd]
      exact eI
    generalize upd Hx nd (.dK kvs) = H4 at k34 eI4
    have kc4 : Kb [inn] Hc H4 := fun b o n y => k34 b o n (sm3 _ _ y)
    have k4 : Kb [p, c, cn] H H4 := fun b o n y => kc4 b o (fun z => by rw [List.mem_singleton.mp z, inH] at y; cases y) (kc b o n y)
    have inp : p ≠ inn := fun e => iout (by simp [e])
    have inc : c ≠ inn := fun e => iout (by simp [e])
    have inn' : cn ≠ inn := fun e => iout (by simp [e])
    have S4 : St p c H4 := Sc.kb kc4 (by simp [inp]) (by simp [inc])
    have hcn4 := kc4 cn _ (by simp [inn']) hcnc
    have hnd4 := kc4 nd _ (by simp [Ne.symm innd]) hndc
    have lii : li ≠ inn := fun e => by
      rw [e, ninn] at eli
      cases eli
    have eli4 := kc4 li _ (by simp [lii]) eli
    refine ⟨_, rfl, li, rfl, ⟨_, SqL.of eli4⟩, ?_⟩
    refine for_list (K := K) (a := li) (xs := (([] : List Int)).map V.int) (fun i σ H' => ∃ (y9 : Option V) (kJ : List (Key × V)) (mJ : Int → Option Int) (cc : Int) (js : List Int), σ = [some (.ref p), some (.ref a), some (.ref nd), some (.ref cn), some kind, some wo1, some (.ref li), some (.ref inn), y8, y9, none, none, none, none] ∧ Kb [p, c, cn, inn] H4 H' ∧ St p c H' ∧ H' cn = some (.lst [.int cc]) ∧ H' inn = some (.dK kJ) ∧ DV kJ mJ ∧ Rel (env ++ (([] : List Int)).take i) (env' ++ js) mJ cc ∧ js.length = i ∧ c0 ≤ cc ∧ cc ≤ c0 + 3 * (i : Int) ∧ kJ.length ≤ kvs.length + i ∧ js.Nodup ∧ (∀ j ∈ js, c0 < j ∧ j ≤ cc) ∧ (∀ (t : Nat) (x : Int), ((([] : List Int)).take i)[t]? = some x → ∃ j, js[t]? = some j ∧ mJ x = some j))
      ⟨none, kI, m, c0, [], rfl, Kb.refl _ _, S4, hcn4, eI4, dI, by rw [List.take_zero, List.append_nil, List.append_nil]; exact rel, rfl, Int.le_refl _, by omega, by omega, List.nodup_nil, (fun j hj => by cases hj), fun t x hx => by rw [List.take_zero] at hx; simp at hx⟩ (fun i σ H' _ ⟨_, _, _, _, _, _, kb, _⟩ => SqL.of (kb li _ (by simp [lip, lic, lin, lii]) eli4)) ?_ ?_
    · rintro i xv σ H' hx ⟨y9, kJ, mJ, cc, js, rfl, kb, Sx, ecn, eJ, dJ, rJ, hl, b1, b2, b3, nd9, rg9, all9⟩
      obtain ⟨x, hx', rfl⟩ := get_map hx
      have hil : i < (([] : List Int)).length := (List.getElem?_eq_some_iff.mp hx').1
      refine ⟨_, rfl, cn, _, 0, _, rfl, rfl, SqL.of ecn, at0, _, _, rfl, rfl, _, rfl, p, c, 3, rfl, by decide, by decide, Sx, fun H6 r6 kp6 S6 a6 b6 => ?_⟩
      have ecn6 := kp6 cn _ ncp ncc ecn
      have eJ6 := kp6 inn _ (Ne.symm inp) (Ne.symm inc) eJ
      refine ⟨_, _, rfl, rfl, _, rfl, cn, _, 0, 0, rfl, rfl, ecn6, rfl, ?_⟩
      have ecn7 : (upd H6 cn (.lst [.int (cc + 1 + r6)])) cn = some (.lst [.int (cc + 1 + r6)]) := upd_same
      have eJ7 : (upd H6 cn (.lst [.int (cc + 1 + r6)])) inn = some (.dK kJ) := by
        rw [upd_ne (Ne.symm inn')]
        exact eJ6
      have S7 : St p c (upd H6 cn (.lst [.int (cc + 1 + r6)])) := S6.put ncp ncc _
      have kb7 : Kb [p, c, cn, inn] H4 (upd H6 cn (.lst [.int (cc + 1 + r6)])) := (kb.trans (kp6.kb.wide fun b hb => by
        rcases List.mem_cons.mp hb with e | e
        · simp [e]
        · simp [List.mem_singleton.mp e])).put (by simp) _
      refine ⟨_, rfl, cn, _, 0, _, rfl, rfl, SqL.of ecn7, at0, _, rfl, _, rfl, inn, _, rfl, DPut.k (k := (Sum.inl x : Key)) eJ7 (smallL (by omega)), ?_⟩
      have tk1 : (([] : List Int)).take (i + 1) = (([] : List Int)).take i ++ [x] := by rw [List.take_add_one, hx']; rfl
      have r7 := rJ.snoc (i := x) (j := cc + 1 + r6) (by omega) (by omega)
      refine ⟨_, _, upM mJ x (cc + 1 + r6), cc + 1 + r6, js ++ [cc + 1 + r6], rfl, kb7.put (by simp) _, S7.put (Ne.symm inp) (Ne.symm inc) _, by rw [upd_ne inn']; exact ecn7, upd_same, dJ.put, by rw [tk1, ← List.append_assoc, ← List.append_assoc]; exact r7, by rw [List.length_append, hl]; rfl, by omega, by omega, by have := length_putK kJ (Sum.inl x : Key) (.int (cc + 1 + r6)); omega, ?_, ?_, ?_⟩
      · refine List.nodup_append.mpr ⟨nd9, List.pairwise_singleton _ _, fun u hu w hw z => ?_⟩
        rw [List.mem_singleton.mp hw] at z
        have := rg9 u hu
        omega
      · intro j hj
        rcases List.mem_append.mp hj with e | e
        · have := rg9 j e
          omega
        · rw [List.mem_singleton.mp e]
          omega
      · intro t y hy
        rw [tk1] at hy
        have lt : ((([] : List Int)).take i).length = i := by rw [List.length_take]; omega
        by_cases z : t < i
        · rw [List.getElem?_append_left (by omega)] at hy
          obtain ⟨j, h1, h2⟩ := all9 t y hy
          refine ⟨j, by rw [List.getElem?_append_left (by omega)]; exact h1, ?_⟩
          unfold upM
          rw [if_neg (fun e => ?_)]
          · exact h2
          · have ht : (([] : List Int))[t]? = some y := by
              rw [List.getElem?_take_of_lt z] at hy
              exact hy
            rw [e] at ht
            have := (List.getElem?_inj (by have := (List.getElem?_eq_some_iff.mp ht).1; omega) ndI).mp (ht.trans hx'.symm)
            omega
        · have ht : t = i := by
            have := (List.getElem?_eq_some_iff.mp hy).1
            rw [List.length_append, lt] at this
            have h1 : ([x] : List Int).length = 1 := rfl
            omega
          rw [ht, List.getElem?_append_right (by omega), lt, Nat.sub_self] at hy
          cases hy
          refine ⟨cc + 1 + r6, by rw [ht, List.getElem?_append_right (by omega), hl, Nat.sub_self]; rfl, ?_⟩
          unfold upM
          rw [if_pos rfl]
    rintro σ H5 ⟨y9, kJ, mJ, cc, js, rfl, kb5, S5, ecn5, eJ5, dJ, rJ, hlj, b1, b2, b3, nd9, rg9, all9⟩
    rw [List.length_map] at hlj b2 b3 rJ all9
    rw [List.take_length] at rJ all9
    have k5 : Kb [p, c, cn] H H5 := fun b o n y => kb5 b o (fun z => by
      rcases List.mem_cons.mp z with e | e
      · exact n (by simp [e])
      · rcases List.mem_cons.mp e with e | e
        · exact n (by simp [e])
        · rcases List.mem_cons.mp e with e | e
          · exact n (by simp [e])
          · rw [List.mem_singleton.mp e, inH] at y
            cases y) (k4 b o n y)
    have hnd5 := kb5 nd _ (by simp [ndp, ndc, ndn, Ne.symm innd]) hnd4
    have fz5 := fz.up k5 fz.2
    have ea5 := fz5.1 _ _ ea
    have og5 : OgAt (nl H H5) o1 wo1 := ogc.same (nl_grow fun bb oo n y => kb5 _ _ (fun z => by
      rcases List.mem_cons.mp z with e | e
      · obtain ⟨xs, e2⟩ := lst3 p (by simp)
        exact n xs (by rw [e]; exact e2)
      · rcases List.mem_cons.mp e with e | e
        · obtain ⟨xs, e2⟩ := lst3 c (by simp)
          exact n xs (by rw [e]; exact e2)
        · rcases List.mem_cons.mp e with e | e
          · exact n _ (by rw [e]; exact hcn)
          · rw [List.mem_singleton.mp e, ninn] at y
            cases y) (kc4 _ _ (fun z => by rw [List.mem_singleton.mp z, ninn] at y; cases y) y))
    rw [ekind]
    refine ⟨_, rfl, rfl, _, rfl, ?_⟩
    refine if_false_of (str_ne (by decide +kernel)) ?_
    refine ⟨_, rfl, rfl, _, rfl, ?_⟩
    refine if_false_of (str_ne (by decide +kernel)) ?_
    refine ⟨_, rfl, rfl, _, rfl, ?_⟩
    refine if_false_of (str_ne (by decide +kernel)) ?_
    refine ⟨_, rfl, rfl, _, rfl, ?_⟩
    refine if_true_of str_eq ?_
    have gk : ∀ {A B : Hp}, Kb [p, c, cn] A B → Same (nl H A) (nl H B) := fun {A B} kk => Kb.nl lst3 kk
    have lsK : ∀ {A : Hp} {z0 : Int}, Kb [p, c, cn] H A → St p c A → A cn = some (.lst [.int z0]) → Ls H A := fun {A z0} kk SS ee => kk.ls fun bb hb => by
      rcases List.mem_cons.mp hb with e | e
      · rw [e]
        exact SS.lsts.1
      · rcases List.mem_cons.mp e with e | e
        · rw [e]
          exact SS.lsts.2
        · rw [List.mem_singleton.mp e]
          exact ⟨_, ee⟩
    refine ⟨1, 4, rfl, by decide, fun D hD => ?_⟩
    have nD := S5.new hD
    have Dout := outN S5 ecn5 hD
    have HD0 : H D = none := k5.free Dout hD
    obtain ⟨HD, hHD⟩ : ∃ HD, HD = upd H5 D (.lst []) := ⟨_, rfl⟩
    have smD : Same H5 HD := by
      rw [hHD]
      exact same_new hD _
    have eHD : HD D = some (.lst []) := by
      rw [hHD]
      exact upd_same
    have SD := S5.same smD
    have ecnD := smD _ _ ecn5
    have lst3D : ∀ b ∈ [p, c, cn], ∃ xs, HD b = some (.lst xs) := fun b hb => by
      rcases List.mem_cons.mp hb with e | e
      · rw [e]
        exact SD.lsts.1
      · rcases List.mem_cons.mp e with e | e
        · rw [e]
          exact SD.lsts.2
        · rw [List.mem_singleton.mp e]
          exact ⟨_, ecnD⟩
    have lsHD : Ls H HD := (lsK k5 S5 ecn5).trans (Same.ls smD)
    have Dn : cn ≠ D := fun e => Dout (by simp [e])
    refine lc_range (lo := 1) (n := 3) (fun i H' => Kb [p, c, cn] H5 H' ∧ St p c H' ∧ Ls HD H' ∧ ∃ (us : List Tm) (ws : List V) (c6 : Int), H' cn = some (.lst [.int c6]) ∧ H' D = some (.lst ws) ∧ TmsAt (nl HD H') us ws ∧ us.length = i ∧ i ≤ ([xa, ya, za]).length ∧ plDs env' us = plDs env (([xa, ya, za]).take i) ∧ moks env' us ∧ mhts us = mhts (([xa, ya, za]).take i) ∧ mszs us = mszs (([xa, ya, za]).take i) ∧ cc ≤ c6 ∧ c6 ≤ cc + 20 * (mszs (([xa, ya, za]).take i) : Nat))
      ⟨Same.kb (same_new hD _), S5.same (same_new hD _), (show Ls HD (upd H5 D (.lst [])) from hHD ▸ Ls.refl _), [], [], cc, same_new hD _ _ _ ecn5, upd_same, TmsAt.nil, rfl, Nat.zero_le _, rfl, trivial, rfl, rfl, Int.le_refl _, by show cc ≤ cc + 20 * ((0 : Nat) : Int); omega⟩ ?_ ?_
    · rintro i H' hi ⟨kb6, S6, ls6, us, ws, c6, hcn6, eD6, tu, hl6, hi6, pu, mu, hu6, zu, g1, g2⟩
      refine ⟨rfl, yes_k ?_⟩
      obtain ⟨tt, v, ht, tv, mt, hat⟩ : ∃ (tt : Tm) (v : V), ([xa, ya, za] : List Tm)[i]? = some tt ∧ TmAt Fh tt v ∧ mok env tt ∧ atI [V.str "if", u1, u2, u3, wo] (1 + (i : Int)) = some v := by
        match i, hi with
        | 0, _ => exact ⟨xa, u1, rfl, tx, hm.1, rfl⟩
        | 1, _ => exact ⟨ya, u2, rfl, ty, hm.2.1, rfl⟩
        | 2, _ => exact ⟨za, u3, rfl, tz, hm.2.2.1, rfl⟩
      have msz3 : mszs [xa, ya, za] = msz xa + msz ya + msz za := by
        simp only [mszs]
        omega
      have mht3 : mhts [xa, ya, za] = max (mht xa) (max (mht ya) (mht za)) := by
        simp only [mhts]
        omega
      have hit : i < ([xa, ya, za]).length := (List.getElem?_eq_some_iff.mp ht).1
      have z1 := mhts_get ht
      have z2 := mszs_get ht
      have z3 : mszs (([xa, ya, za]).take (i + 1)) = mszs (([xa, ya, za]).take i) + msz tt := by
        rw [List.take_add_one, ht, mszs_app]
        simp only [Option.toList, mszs]
        omega
      have z4 : mhts (([xa, ya, za]).take (i + 1)) = max (mhts (([xa, ya, za]).take i)) (mht tt) := by
        rw [List.take_add_one, ht, mhts_app]
        simp only [Option.toList, mhts]
        omega
      have z5 : mszs (([xa, ya, za]).take (i + 1)) ≤ mszs ([xa, ya, za]) := by
        have e := congrArg mszs (List.take_append_drop (i + 1) ([xa, ya, za]))
        rw [mszs_app] at e
        omega
      have k56 := k5.trans kb6
      have fz6 := fz.up k56 fz.2
      have hnd6 := kb6 nd _ (by simp [ndp, ndc, ndn]) hnd5
      refine ⟨_, rfl, _, rfl, _, rfl, a, _, 1 + (i : Int), v, rfl, rfl, SqT.of (fz6.1 _ _ ea), hat, _, rfl, _, rfl, p, c, cn, nd, Fh, tt, v, env, env', m, kvs, c6, rfl, fz6, tv, hnd6, dv, hcn6, ncp, ncc, S6, mt, rel.up (by omega), by omega, by omega, by omega, by omega, by omega, fun H8 u8 w8 c8 kb8 S8 hcn8 e1 e2 t8 p8 m8 h8 z8 => ?_⟩
      have eD8 := kb8 D _ Dout eD6
      have sp : Same (nl HD H8) (nl HD (upd H8 D (.lst (ws ++ [w8])))) := nl_put eHD _
      have H5D : H5 D = none := hD
      have ls68 : Ls H' H8 := kb8.ls fun bb hb => by
        rcases List.mem_cons.mp hb with e | e
        · rw [e]
          exact S8.lsts.1
        · rcases List.mem_cons.mp e with e | e
          · rw [e]
            exact S8.lsts.2
          · rw [List.mem_singleton.mp e]
            exact ⟨_, hcn8⟩
      refine ⟨ws, eD8, by rw [tu.len, hl6]; exact smallL (by have := len_mszs ([xa, ya, za]); omega), (kb6.trans kb8).new H5D _, S8.put nD.1 nD.2 _, (ls6.trans ls68).put, us ++ [u8], ws ++ [w8], c8, by rw [upd_ne Dn]; exact hcn8, upd_same, ?_, by rw [List.length_append, hl6]; rfl, hit, ?_, moks_app _ _ _ mu ⟨m8, trivial⟩, ?_, ?_, by omega, by omega⟩
      · exact TmsAt.snoc (TmAt.same ((nl_base ls6).trans sp) _ _ t8) (TmsAt.same ((Kb.nl lst3D kb8).trans sp) _ _ tu)
      · rw [plDs_take ht, plDs_app, pu]
        simp only [plDs, p8]
      · rw [mhts_app, z4, hu6]
        simp only [mhts]
        omega
      · rw [mszs_app, z3, zu]
        simp only [mszs]
        omega
    rintro H6 ⟨kb6, S6, ls6, us, ws, c6, hcn6, eD6, tu, hl6, hi6, pu, mu, hu6, zu, g1, g2⟩
    have et3 : ([xa, ya, za] : List Tm).take 3 = [xa, ya, za] := rfl
    rw [et3] at pu hu6 zu g2
    match us, ws, hl6, tu, pu, mu, hu6, zu, eD6 with
    | [x1, x2, x3], ws, hl6, tu, pu, mu, hu6, zu, eD6 =>
      unfold TmsAt at tu
      obtain ⟨v1, r1, rfl, t1, tu⟩ := tu
      unfold TmsAt at tu
      obtain ⟨v2, r2, rfl, t2, tu⟩ := tu
      unfold TmsAt at tu
      obtain ⟨v3, r3, rfl, t3, tu⟩ := tu
      unfold TmsAt at tu
      subst tu
      refine ⟨_, rfl, D, _, 0, v1, rfl, rfl, SqL.of eD6, atI_nat (j := 0) rfl, _, rfl, D, _, 1, v2, rfl, rfl, SqL.of eD6, atI_nat (j := 1) rfl, _, rfl, D, _, 2, v3, rfl, rfl, SqL.of eD6, atI_nat (j := 2) rfl, _, rfl, by show 5 ≤ sizeLine; decide, fun t nt => ?_⟩
      have k6 := k5.trans kb6
      have tout := outN S6 hcn6 nt
      simp only [moks] at mu
      simp only [mhts] at hu6
      simp only [mszs] at zu g2
      simp only [plDs, List.cons.injEq, and_true] at pu
      have sm : Same (nl HD H6) (nl H (upd H6 t (.tup [.str "if", v1, v2, v3, wo1]))) := (nl_base lsHD).trans (nl_fresh nt _)
      refine q _ (.ite x1 x2 x3 o1) _ c6 (k6.trans (Same.kb (same_new nt _))) (S6.same (same_new nt _)) (same_new nt _ _ _ hcn6) (by omega) (by omega) ?_ ?_ ?_ ?_ ?_
      · unfold TmAt
        exact ⟨t, v1, v2, v3, wo1, rfl, nl_new (k6.free tout nt) upd_same, TmAt.same sm _ _ t1, TmAt.same sm _ _ t2, TmAt.same sm _ _ t3, og5.same ((gk kb6).trans (nl_fresh nt _))⟩
      · simp only [plD, pu.1, pu.2.1, pu.2.2]
      · simp only [mok]
        exact ⟨mu.1, mu.2.1, mu.2.2.1, oo1⟩
      · show 1 + max (mht x1) (max (mht x2) (mht x3)) = 1 + max (mht xa) (max (mht ya) (mht za))
        omega
      · show 1 + msz x1 + msz x2 + msz x3 = 1 + msz xa + msz ya + msz za
        omega
  | app f0 xs o =>
    unfold TmAt at ta
    obtain ⟨a, u, l, vs, wo, rfl, ea, el, tf, txs, og⟩ := ta
    have ea0 := fz.1 _ _ ea
    refine ⟨_, rfl, a, _, 0, _, rfl, rfl, SqT.of ea0, at0, ?_⟩
    refine ⟨_, rfl, p, c, rfl, S0, fun H1 o1 wo1 kp1 S1 og1 oo1 => ?_⟩
    have k1 : Kb [p, c, cn] H H1 := kp1.kb.wide sub2
    have fz1 := fz.up k1 fz.2
    have ea1 := fz1.1 _ _ ea
    have hcn1 := kp1 cn _ ncp ncc hcn
    have hnd1 := kp1 nd _ ndp ndc hnd
    refine ⟨_, rfl, by show 2 ≤ sizeLine; decide, fun tp ntp => ?_⟩
    refine ⟨tp, _, rfl, .inr (SqT.of upd_same), rfl, rfl, _, rfl, ?_⟩
    have sm1 : Same H1 (upd H1 tp (.tup [.str "int", .str "prim"])) := same_new ntp _
    generalize upd H1 tp (.tup [.str "int", .str "prim"]) = H2 at sm1
    have S2 := S1.same sm1
    have k2 := k1.trans (Same.kb (bs := [p, c, cn]) sm1)
    have fz2 := fz.up k2 fz.2
    have ea2 := sm1 _ _ ea1
    have hcn2 := sm1 _ _ hcn1
    have hnd2 := sm1 _ _ hnd1
    have og2 : OgAt (nl H H2) o1 wo1 := og1.same (nl_grow fun bb oo _ y => sm1 _ _ y)
    refine if_false_of (by decide +kernel) ?_
    refine ⟨_, rfl, rfl, _, rfl, ?_⟩
    refine if_false_of (str_ne (by decide +kernel)) ?_
    refine ⟨Nat.zero_le _, fun li0 nli0 => ?_⟩
    have sm2 : Same H2 (upd H2 li0 (.lst [])) := same_new nli0 _
    have eli0 : (upd H2 li0 (.lst [])) li0 = some (.lst (([] : List Int).map V.int)) := upd_same
    generalize upd H2 li0 (.lst []) = H2b at sm2 eli0
    have k2b := k2.trans (Same.kb (bs := [p, c, cn]) sm2)
    have S2b := S2.same sm2
    refine ⟨_, rfl, rfl, _, rfl, ?_⟩
    refine if_false_of (str_ne (by decide +kernel)) ?_
    refine ⟨_, rfl, rfl, _, rfl, ?_⟩
    refine if_false_of (str_ne (by decide +kernel)) ?_
    refine ⟨_, rfl, rfl, _, rfl, ?_⟩
    refine if_false_of (str_ne (by decide +kernel)) ?_
    obtain ⟨Hc, eHc⟩ : ∃ Hc, Hc = H2b := ⟨_, rfl⟩
    rw [← eHc]
    have smc : Same H2b Hc := by
      rw [eHc]
      exact Same.refl _
    have Sc := S2b.same smc
    have kc := k2b.trans (Same.kb (bs := [p, c, cn]) smc)
    have hcnc := smc _ _ (sm2 _ _ hcn2)
    have hndc := smc _ _ (sm2 _ _ hnd2)
    have ogc : OgAt (nl H Hc) o1 wo1 := og2.same (nl_grow fun bb oo _ y => smc _ _ (sm2 _ _ y))
    have ndI : ([] : List Int).Nodup := List.nodup_nil
    have i0 : ([] : List Int).length = 0 := rfl
    have eli := smc _ _ eli0
    have lio := outN S2 hcn2 nli0
    have lip : li0 ≠ p := fun e => lio (by simp [e])
    have lic : li0 ≠ c := fun e => lio (by simp [e])
    have lin : li0 ≠ cn := fun e => lio (by simp [e])
    obtain ⟨li, eli'⟩ : ∃ li, li = li0 := ⟨_, rfl⟩
    rw [← eli'] at eli lip lic lin ⊢
    simp only [mok] at hm
    simp only [mht] at hht hkl q
    simp only [msz] at hsz hcb q
    obtain ⟨kind, ekind⟩ : ∃ kind, kind = V.str "app" := ⟨_, rfl⟩
    rw [← ekind]
    refine fun inn ninn => ?_
    have sm3 : Same Hc (upd Hc inn (.dK [])) := same_new ninn _
    have einn : (upd Hc inn (.dK [])) inn = some (.dK []) := upd_same
    generalize upd Hc inn (.dK []) = H3 at sm3 einn
    have innd : inn ≠ nd := fun e => by
      rw [e, hndc] at ninn
      cases ninn
    have iout := outN Sc hcnc ninn
    have inH : H inn = none := kc.free iout ninn
    have S3 := Sc.same sm3
    refine ⟨nd, .dK kvs, sm3 _ _ hndc, trivial, fun od => ?_⟩
    refine ⟨_, rfl, nd, od, rfl, .inl ⟨kvs, upd_same, ?_⟩⟩
    refine for_it (walk_keys (d := nd) (o := od) (kvs := kvs)) (fun i σ H' => ∃ (y8 : Option V) (kI : List (Key × V)) (mi : Int → Option Int), σ = [some (.ref p), some (.ref a), some (.ref nd), some (.ref cn), some kind, some wo1, some (.ref li), some (.ref inn), y8, none, none, none, none, none] ∧ Kb [inn] (upd H3 nd (.frz od (.dK kvs))) H' ∧ H' inn = some (.dK kI) ∧ DV kI mi ∧ Cp kvs m mi i ∧ kI.length ≤ i)
      ⟨none, [], _, rfl, Kb.refl _ _, by rw [upd_ne innd]; exact einn, DV.nil, Cp.nil, Nat.zero_le _⟩ (fun i σ H' _ ⟨_, _, _, _, kb, _⟩ => kb nd _ (by simp [Ne.symm innd]) upd_same) ?_ ?_
    · rintro i x σ H' H'' hi ⟨y8, kI, mi, rfl, kb, eI, dI, cp, lI⟩ ⟨rfl, kk, vv, hkv, rfl⟩
      obtain ⟨i0, j0, ep⟩ := dv.2 _ (List.mem_of_getElem? hkv)
      obtain ⟨j1, hj1⟩ := dv.has (ep ▸ List.mem_of_getElem? hkv)
      injection ep with ek ev
      subst ek ev
      refine ⟨_, rfl, _, rfl, nd, .int j1, rfl, .inl ⟨kvs, Sum.inl i0, .inr ⟨od, kb nd _ (by simp [Ne.symm innd]) upd_same⟩, rfl, by rw [dv.1 i0, hj1]; rfl⟩, _, rfl, _, rfl, inn, _, rfl, DPut.k (k := (Sum.inl i0 : Key)) eI (smallL (by omega)), ?_⟩
      refine ⟨_, _, _, rfl, kb.put List.mem_cons_self _, upd_same, dI.put, cp.step hkv hj1, by have := length_putK kI (Sum.inl i0 : Key) (.int j1); omega⟩
    rintro σ Hx ⟨y8, kI, mi, rfl, kbx, eI, dI, cp, lI⟩
    rw [cp.all dv] at dI
    refine ⟨kbx nd _ (by simp [Ne.symm innd]) upd_same, ?_⟩
    have k34 : Kb [inn] H3 (upd Hx nd (.dK kvs)) := fun b o n y => by
      by_cases z : b = nd
      · rw [z, upd_same]
        rw [z, sm3 _ _ hndc] at y
        exact y
      · rw [upd_ne z]
        exact kbx b o n (by rw [upd_ne z]; exact y)
    have eI4 : (upd Hx nd (.dK kvs)) inn = some (.dK kI) := by
      rw [upd_ne innd]
      exact eI
    generalize upd Hx nd (.dK kvs) = H4 at k34 eI4
    have kc4 : Kb [inn] Hc H4 := fun b o n y => k34 b o n (sm3 _ _ y)
    have k4 : Kb [p, c, cn] H H4 := fun b o n y => kc4 b o (fun z => by rw [List.mem_singleton.mp z, inH] at y; cases y) (kc b o n y)
    have inp : p ≠ inn := fun e => iout (by simp [e])
    have inc : c ≠ inn := fun e => iout (by simp [e])
    have inn' : cn ≠ inn := fun e => iout (by simp [e])
    have S4 : St p c H4 := Sc.kb kc4 (by simp [inp]) (by simp [inc])
    have hcn4 := kc4 cn _ (by simp [inn']) hcnc
    have hnd4 := kc4 nd _ (by simp [Ne.symm innd]) hndc
    have lii : li ≠ inn := fun e => by
      rw [e, ninn] at eli
      cases eli
    have eli4 := kc4 li _ (by simp [lii]) eli
    refine ⟨_, rfl, li, rfl, ⟨_, SqL.of eli4⟩, ?_⟩
    refine for_list (K := K) (a := li) (xs := (([] : List Int)).map V.int) (fun i σ H' => ∃ (y9 : Option V) (kJ : List (Key × V)) (mJ : Int → Option Int) (cc : Int) (js : List Int), σ = [some (.ref p), some (.ref a), some (.ref nd), some (.ref cn), some kind, some wo1, some (.ref li), some (.ref inn), y8, y9, none, none, none, none] ∧ Kb [p, c, cn, inn] H4 H' ∧ St p c H' ∧ H' cn = some (.lst [.int cc]) ∧ H' inn = some (.dK kJ) ∧ DV kJ mJ ∧ Rel (env ++ (([] : List Int)).take i) (env' ++ js) mJ cc ∧ js.length = i ∧ c0 ≤ cc ∧ cc ≤ c0 + 3 * (i : Int) ∧ kJ.length ≤ kvs.length + i ∧ js.Nodup ∧ (∀ j ∈ js, c0 < j ∧ j ≤ cc) ∧ (∀ (t : Nat) (x : Int), ((([] : List Int)).take i)[t]? = some x → ∃ j, js[t]? = some j ∧ mJ x = some j))
      ⟨none, kI, m, c0, [], rfl, Kb.refl _ _, S4, hcn4, eI4, dI, by rw [List.take_zero, List.append_nil, List.append_nil]; exact rel, rfl, Int.le_refl _, by omega, by omega, List.nodup_nil, (fun j hj => by cases hj), fun t x hx => by rw [List.take_zero] at hx; simp at hx⟩ (fun i σ H' _ ⟨_, _, _, _, _, _, kb, _⟩ => SqL.of (kb li _ (by simp [lip, lic, lin, lii]) eli4)) ?_ ?_
    · rintro i xv σ H' hx ⟨y9, kJ, mJ, cc, js, rfl, kb, Sx, ecn, eJ, dJ, rJ, hl, b1, b2, b3, nd9, rg9, all9⟩
      obtain ⟨x, hx', rfl⟩ := get_map hx
      have hil : i < (([] : List Int)).length := (List.getElem?_eq_some_iff.mp hx').1
      refine ⟨_, rfl, cn, _, 0, _, rfl, rfl, SqL.of ecn, at0, _, _, rfl, rfl, _, rfl, p, c, 3, rfl, by decide, by decide, Sx, fun H6 r6 kp6 S6 a6 b6 => ?_⟩
      have ecn6 := kp6 cn _ ncp ncc ecn
      have eJ6 := kp6 inn _ (Ne.symm inp) (Ne.symm inc) eJ
      refine ⟨_, _, rfl, rfl, _, rfl, cn, _, 0, 0, rfl, rfl, ecn6, rfl, ?_⟩
      have ecn7 : (upd H6 cn (.lst [.int (cc + 1 + r6)])) cn = some (.lst [.int (cc + 1 + r6)]) := upd_same
      have eJ7 : (upd H6 cn (.lst [.int (cc + 1 + r6)])) inn = some (.dK kJ) := by
        rw [upd_ne (Ne.symm inn')]
        exact eJ6
      have S7 : St p c (upd H6 cn (.lst [.int (cc + 1 + r6)])) := S6.put ncp ncc _
      have kb7 : Kb [p, c, cn, inn] H4 (upd H6 cn (.lst [.int (cc + 1 + r6)])) := (kb.trans (kp6.kb.wide fun b hb => by
        rcases List.mem_cons.mp hb with e | e
        · simp [e]
        · simp [List.mem_singleton.mp e])).put (by simp) _
      refine ⟨_, rfl, cn, _, 0, _, rfl, rfl, SqL.of ecn7, at0, _, rfl, _, rfl, inn, _, rfl, DPut.k (k := (Sum.inl x : Key)) eJ7 (smallL (by omega)), ?_⟩
      have tk1 : (([] : List Int)).take (i + 1) = (([] : List Int)).take i ++ [x] := by rw [List.take_add_one, hx']; rfl
      have r7 := rJ.snoc (i := x) (j := cc + 1 + r6) (by omega) (by omega)
      refine ⟨_, _, upM mJ x (cc + 1 + r6), cc + 1 + r6, js ++ [cc + 1 + r6], rfl, kb7.put (by simp) _, S7.put (Ne.symm inp) (Ne.symm inc) _, by rw [upd_ne inn']; exact ecn7, upd_same, dJ.put, by rw [tk1, ← List.append_assoc, ← List.append_assoc]; exact r7, by rw [List.length_append, hl]; rfl, by omega, by omega, by have := length_putK kJ (Sum.inl x : Key) (.int (cc + 1 + r6)); omega, ?_, ?_, ?_⟩
      · refine List.nodup_append.mpr ⟨nd9, List.pairwise_singleton _ _, fun u hu w hw z => ?_⟩
        rw [List.mem_singleton.mp hw] at z
        have := rg9 u hu
        omega
      · intro j hj
        rcases List.mem_append.mp hj with e | e
        · have := rg9 j e
          omega
        · rw [List.mem_singleton.mp e]
          omega
      · intro t y hy
        rw [tk1] at hy
        have lt : ((([] : List Int)).take i).length = i := by rw [List.length_take]; omega
        by_cases z : t < i
        · rw [List.getElem?_append_left (by omega)] at hy
          obtain ⟨j, h1, h2⟩ := all9 t y hy
          refine ⟨j, by rw [List.getElem?_append_left (by omega)]; exact h1, ?_⟩
          unfold upM
          rw [if_neg (fun e => ?_)]
          · exact h2
          · have ht : (([] : List Int))[t]? = some y := by
              rw [List.getElem?_take_of_lt z] at hy
              exact hy
            rw [e] at ht
            have := (List.getElem?_inj (by have := (List.getElem?_eq_some_iff.mp ht).1; omega) ndI).mp (ht.trans hx'.symm)
            omega
        · have ht : t = i := by
            have := (List.getElem?_eq_some_iff.mp hy).1
            rw [List.length_append, lt] at this
            have h1 : ([x] : List Int).length = 1 := rfl
            omega
          rw [ht, List.getElem?_append_right (by omega), lt, Nat.sub_self] at hy
          cases hy
          refine ⟨cc + 1 + r6, by rw [ht, List.getElem?_append_right (by omega), hl, Nat.sub_self]; rfl, ?_⟩
          unfold upM
          rw [if_pos rfl]
    rintro σ H5 ⟨y9, kJ, mJ, cc, js, rfl, kb5, S5, ecn5, eJ5, dJ, rJ, hlj, b1, b2, b3, nd9, rg9, all9⟩
    rw [List.length_map] at hlj b2 b3 rJ all9
    rw [List.take_length] at rJ all9
    have k5 : Kb [p, c, cn] H H5 := fun b o n y => kb5 b o (fun z => by
      rcases List.mem_cons.mp z with e | e
      · exact n (by simp [e])
      · rcases List.mem_cons.mp e with e | e
        · exact n (by simp [e])
        · rcases List.mem_cons.mp e with e | e
          · exact n (by simp [e])
          · rw [List.mem_singleton.mp e, inH] at y
            cases y) (k4 b o n y)
    have hnd5 := kb5 nd _ (by simp [ndp, ndc, ndn, Ne.symm innd]) hnd4
    have fz5 := fz.up k5 fz.2
    have ea5 := fz5.1 _ _ ea
    have og5 : OgAt (nl H H5) o1 wo1 := ogc.same (nl_grow fun bb oo n y => kb5 _ _ (fun z => by
      rcases List.mem_cons.mp z with e | e
      · obtain ⟨xs, e2⟩ := lst3 p (by simp)
        exact n xs (by rw [e]; exact e2)
      · rcases List.mem_cons.mp e with e | e
        · obtain ⟨xs, e2⟩ := lst3 c (by simp)
          exact n xs (by rw [e]; exact e2)
        · rcases List.mem_cons.mp e with e | e
          · exact n _ (by rw [e]; exact hcn)
          · rw [List.mem_singleton.mp e, ninn] at y
            cases y) (kc4 _ _ (fun z => by rw [List.mem_singleton.mp z, ninn] at y; cases y) y))
    rw [ekind]
    refine ⟨_, rfl, rfl, _, rfl, ?_⟩
    refine if_false_of (str_ne (by decide +kernel)) ?_
    refine ⟨_, rfl, rfl, _, rfl, ?_⟩
    refine if_false_of (str_ne (by decide +kernel)) ?_
    refine ⟨_, rfl, rfl, _, rfl, ?_⟩
    refine if_false_of (str_ne (by decide +kernel)) ?_
    refine ⟨_, rfl, rfl, _, rfl, ?_⟩
    refine if_false_of (str_ne (by decide +kernel)) ?_
    have gk : ∀ {A B : Hp}, Kb [p, c, cn] A B → Same (nl H A) (nl H B) := fun {A B} kk => Kb.nl lst3 kk
    have lsK : ∀ {A : Hp} {z0 : Int}, Kb [p, c, cn] H A → St p c A → A cn = some (.lst [.int z0]) → Ls H A := fun {A z0} kk SS ee => kk.ls fun bb hb => by
      rcases List.mem_cons.mp hb with e | e
      · rw [e]
        exact SS.lsts.1
      · rcases List.mem_cons.mp e with e | e
        · rw [e]
          exact SS.lsts.2
        · rw [List.mem_singleton.mp e]
          exact ⟨_, ee⟩
    have el5 := fz5.1 _ _ el
    have lvs := txs.len
    refine ⟨_, rfl, a, _, 2, _, rfl, rfl, SqT.of ea5, atI_nat (j := 2) rfl, l, rfl, ⟨vs, SqL.of el5⟩, fun D hD => ?_⟩
    have nD := S5.new hD
    have Dout := outN S5 ecn5 hD
    have HD0 : H D = none := k5.free Dout hD
    obtain ⟨HD, hHD⟩ : ∃ HD, HD = upd H5 D (.lst []) := ⟨_, rfl⟩
    have smD : Same H5 HD := by
      rw [hHD]
      exact same_new hD _
    have eHD : HD D = some (.lst []) := by
      rw [hHD]
      exact upd_same
    have SD := S5.same smD
    have ecnD := smD _ _ ecn5
    have lst3D : ∀ b ∈ [p, c, cn], ∃ xs, HD b = some (.lst xs) := fun b hb => by
      rcases List.mem_cons.mp hb with e | e
      · rw [e]
        exact SD.lsts.1
      · rcases List.mem_cons.mp e with e | e
        · rw [e]
          exact SD.lsts.2
        · rw [List.mem_singleton.mp e]
          exact ⟨_, ecnD⟩
    have lsHD : Ls H HD := (lsK k5 S5 ecn5).trans (Same.ls smD)
    have Dn : cn ≠ D := fun e => Dout (by simp [e])
    refine lc_list (K := K) (a := l) (xs := vs) (fun i H' => Kb [p, c, cn] H5 H' ∧ St p c H' ∧ Ls HD H' ∧ ∃ (us : List Tm) (ws : List V) (c6 : Int), H' cn = some (.lst [.int c6]) ∧ H' D = some (.lst ws) ∧ TmsAt (nl HD H') us ws ∧ us.length = i ∧ i ≤ (xs).length ∧ plDs env' us = plDs env ((xs).take i) ∧ moks env' us ∧ mhts us = mhts ((xs).take i) ∧ mszs us = mszs ((xs).take i) ∧ cc ≤ c6 ∧ c6 ≤ cc + 20 * (mszs ((xs).take i) : Nat))
      ⟨Same.kb (same_new hD _), S5.same (same_new hD _), (show Ls HD (upd H5 D (.lst [])) from hHD ▸ Ls.refl _), [], [], cc, same_new hD _ _ _ ecn5, upd_same, TmsAt.nil, rfl, Nat.zero_le _, rfl, trivial, rfl, rfl, Int.le_refl _, by show cc ≤ cc + 20 * ((0 : Nat) : Int); omega⟩ (fun i H' _ h' => SqL.of ((fz.up (k5.trans h'.1) fz.2).1 _ _ el)) ?_ ?_
    · rintro i v H' hv ⟨kb6, S6, ls6, us, ws, c6, hcn6, eD6, tu, hl6, hi6, pu, mu, hu6, zu, g1, g2⟩
      refine ⟨rfl, yes_k ?_⟩
      obtain ⟨tt, ht, tv⟩ := txs.get hv
      have mt := moks_get hm.2.1 ht
      have hit : i < (xs).length := (List.getElem?_eq_some_iff.mp ht).1
      have z1 := mhts_get ht
      have z2 := mszs_get ht
      have z3 : mszs ((xs).take (i + 1)) = mszs ((xs).take i) + msz tt := by
        rw [List.take_add_one, ht, mszs_app]
        simp only [Option.toList, mszs]
        omega
      have z4 : mhts ((xs).take (i + 1)) = max (mhts ((xs).take i)) (mht tt) := by
        rw [List.take_add_one, ht, mhts_app]
        simp only [Option.toList, mhts]
        omega
      have z5 : mszs ((xs).take (i + 1)) ≤ mszs (xs) := by
        have e := congrArg mszs (List.take_append_drop (i + 1) (xs))
        rw [mszs_app] at e
        omega
      have k56 := k5.trans kb6
      have fz6 := fz.up k56 fz.2
      have hnd6 := kb6 nd _ (by simp [ndp, ndc, ndn]) hnd5
      refine ⟨_, rfl, _, rfl, _, rfl, _, rfl, p, c, cn, nd, Fh, tt, v, env, env', m, kvs, c6, rfl, fz6, tv, hnd6, dv, hcn6, ncp, ncc, S6, mt, rel.up (by omega), by omega, by omega, by omega, by omega, by omega, fun H8 u8 w8 c8 kb8 S8 hcn8 e1 e2 t8 p8 m8 h8 z8 => ?_⟩
      have eD8 := kb8 D _ Dout eD6
      have sp : Same (nl HD H8) (nl HD (upd H8 D (.lst (ws ++ [w8])))) := nl_put eHD _
      have H5D : H5 D = none := hD
      have ls68 : Ls H' H8 := kb8.ls fun bb hb => by
        rcases List.mem_cons.mp hb with e | e
        · rw [e]
          exact S8.lsts.1
        · rcases List.mem_cons.mp e with e | e
          · rw [e]
            exact S8.lsts.2
          · rw [List.mem_singleton.mp e]
            exact ⟨_, hcn8⟩
      refine ⟨ws, eD8, by rw [tu.len, hl6]; exact smallL (by have := len_mszs (xs); omega), (kb6.trans kb8).new H5D _, S8.put nD.1 nD.2 _, (ls6.trans ls68).put, us ++ [u8], ws ++ [w8], c8, by rw [upd_ne Dn]; exact hcn8, upd_same, ?_, by rw [List.length_append, hl6]; rfl, hit, ?_, moks_app _ _ _ mu ⟨m8, trivial⟩, ?_, ?_, by omega, by omega⟩
      · exact TmsAt.snoc (TmAt.same ((nl_base ls6).trans sp) _ _ t8) (TmsAt.same ((Kb.nl lst3D kb8).trans sp) _ _ tu)
      · rw [plDs_take ht, plDs_app, pu]
        simp only [plDs, p8]
      · rw [mhts_app, z4, hu6]
        simp only [mhts]
        omega
      · rw [mszs_app, z3, zu]
        simp only [mszs]
        omega
    rintro H6 ⟨kb6, S6, ls6, us, ws, c6, hcn6, eD6, tu, hl6, hi6, pu, mu, hu6, zu, g1, g2⟩
    rw [lvs, List.take_length] at pu hu6 zu g2
    have k6 := k5.trans kb6
    have fz6 := fz.up k6 fz.2
    have hnd6 := kb6 nd _ (by simp [ndp, ndc, ndn]) hnd5
    refine ⟨_, rfl, _, rfl, a, _, 1, _, rfl, rfl, SqT.of (fz6.1 _ _ ea), atI_nat (j := 1) rfl, _, rfl, _, rfl, p, c, cn, nd, Fh, f0, u, env, env', m, kvs, c6, rfl, fz6, tf, hnd6, dv, hcn6, ncp, ncc, S6, hm.1, rel.up (by omega), by omega, by omega, by omega, by omega, by omega, fun H7 u7 w7 c7 kb7 S7 hcn7 f1 f2 t7 p7 m7 h7 z7 => ?_⟩
    refine ⟨_, rfl, _, rfl, by show 4 ≤ sizeLine; decide, fun t nt => ?_⟩
    have tout := outN S7 hcn7 nt
    have k7 := k6.trans kb7
    refine q _ (.app u7 us o1) _ c7 (k7.trans (Same.kb (same_new nt _))) (S7.same (same_new nt _)) (same_new nt _ _ _ hcn7) (by omega) (by omega) ?_ ?_ ?_ ?_ ?_
    · unfold TmAt
      exact ⟨t, w7, D, ws, wo1, rfl, nl_new (k7.free tout nt) upd_same, nl_new HD0 (same_new nt _ _ _ (kb7 D _ Dout eD6)), TmAt.same ((nl_base (lsK k6 S6 hcn6)).trans (nl_fresh nt _)) _ _ t7, TmsAt.same (((Kb.nl lst3D kb7).trans (nl_base lsHD)).trans (nl_fresh nt _)) _ _ tu, og5.same (((gk kb6).trans (gk kb7)).trans (nl_fresh nt _))⟩
    · simp only [plD, pu, p7]
    · simp only [mok]
      exact ⟨m7, mu, oo1⟩
    · simp only [mht, h7, hu6]
    · simp only [msz, z7, zu]
  | pair x y o =>
    unfold TmAt at ta
    obtain ⟨a, u1, u2, wo, rfl, ea, tx, ty, og⟩ := ta
    simp only [mok] at hm
end
end Sg

namespace Sg
open PySem PySem.Spec PyProof.Rows L2
/-! ### the law k03, from the promise of alike -/
mutual
theorem pl_can : ∀ (env E : List Int) (t : Tm), mok E t → PyData.canLay0 (plD env t) = true
  | env, E, .int n o, _ => by
    simp only [plD, PyData.canLay0, PyData.canLayAll0, Bool.and_true]
    decide +kernel
  | env, E, .prim s o, h => by
    simp only [mok] at h
    simp only [plD, PyData.canLay0, PyData.canLayAll0, strOk_of h.2.1, Bool.and_true]
    decide +kernel
  | env, E, .ref i o, _ => by
    simp only [plD]
    split
    · simp only [PyData.canLay0, PyData.canLayAll0, Bool.and_true]
      decide +kernel
    · simp only [PyData.canLay0, PyData.canLayAll0, Bool.and_true]
      decide +kernel
  | env, E, .fn ids b o, h => by
    simp only [mok] at h
    simp only [plD, PyData.canLay0, PyData.canLayAll0, pl_can _ _ b h.2.2.1, Bool.and_true]
    decide +kernel
  | env, E, .rc i ids b o, h => by
    simp only [mok] at h
    simp only [plD, PyData.canLay0, PyData.canLayAll0, pl_can _ _ b h.2.2.2.1, Bool.and_true]
    decide +kernel
  | env, E, .lt i x b o, h => by
    simp only [mok] at h
    simp only [plD, PyData.canLay0, PyData.canLayAll0, pl_can _ _ x h.2.1, pl_can _ _ b h.2.2.1, Bool.and_true]
    decide +kernel
  | env, E, .ite x y z o, h => by
    simp only [mok] at h
    simp only [plD, PyData.canLay0, PyData.canLayAll0, pl_can _ _ x h.1, pl_can _ _ y h.2.1, pl_can _ _ z h.2.2.1, Bool.and_true]
    decide +kernel
  | env, E, .app f xs o, h => by
    simp only [mok] at h
    simp only [plD, PyData.canLay0, PyData.canLayAll0, pl_can _ _ f h.1, pls_can _ _ xs h.2.1, Bool.and_true]
    decide +kernel
  | env, E, .pair x y o, h => by simp only [mok] at h
theorem pls_can : ∀ (env E : List Int) (ts : List Tm), moks E ts → PyData.canLayAll0 (plDs env ts) = true
  | _, _, [], _ => rfl
  | env, E, t :: ts, h => by
    simp only [moks] at h
    simp only [plDs, PyData.canLayAll0, pl_can env E t h.1, pls_can env E ts h.2]
    rfl
end
mutual
theorem pl_depth : ∀ (env : List Int) (t : Tm), PyData.depth (plD env t) ≤ 2 * mht t + 1
  | env, .int n o => by
    simp only [plD, PyData.depth, PyData.depthAll, mht]
    omega
  | env, .prim s o => by
    simp only [plD, PyData.depth, PyData.depthAll, mht]
    omega
  | env, .ref i o => by
    simp only [plD]
    split
    · simp only [PyData.depth, PyData.depthAll, mht]
      omega
    · simp only [PyData.depth, PyData.depthAll, mht]
      omega
  | env, .fn ids b o => by
    have := pl_depth (env ++ ids) b
    simp only [plD, PyData.depth, PyData.depthAll, mht]
    omega
  | env, .rc i ids b o => by
    have := pl_depth (env ++ [i] ++ ids) b
    simp only [plD, PyData.depth, PyData.depthAll, mht]
    omega
  | env, .lt i x b o => by
    have := pl_depth env x
    have := pl_depth (env ++ [i]) b
    simp only [plD, PyData.depth, PyData.depthAll, mht]
    omega
  | env, .ite x y z o => by
    have := pl_depth env x
    have := pl_depth env y
    have := pl_depth env z
    simp only [plD, PyData.depth, PyData.depthAll, mht]
    omega
  | env, .app f xs o => by
    have := pl_depth env f
    have := pls_depth env xs
    simp only [plD, PyData.depth, PyData.depthAll, mht]
    omega
  | env, .pair x y o => by
    have := pl_depth env x
    have := pl_depth env y
    simp only [plD, PyData.depth, PyData.depthAll, mht]
    omega
theorem pls_depth : ∀ (env : List Int) (ts : List Tm), PyData.depthAll (plDs env ts) ≤ 2 * mhts ts + 1
  | _, [] => by
    simp only [plDs, PyData.depthAll]
    omega
  | env, t :: ts => by
    have := pl_depth env t
    have := pls_depth env ts
    simp only [plDs, PyData.depthAll, mhts]
    omega
end
theorem pl_shaped {t : Tm} (h : mok [] t) (hh : mht t ≤ 4) : SeqAt.shaped (plD [] t) = true := by
  unfold SeqAt.shaped
  have z := pl_depth [] t
  rw [pl_can [] [] t h, decide_eq_true (by omega)]
  rfl
/-- what alike says of two closed terms -/
def spAlike : Sp := fun vs H Q _ => ∃ (F : Hp) (t1 t2 : Tm) (v1 v2 : V), vs = [v1, v2] ∧ Same F H ∧ TmAt F t1 v1 ∧ TmAt F t2 v2 ∧ mok [] t1 ∧ mok [] t2 ∧ mht t1 ≤ 4 ∧ mht t2 ≤ 4 ∧ msz t1 ≤ 121 ∧ msz t2 ≤ 121 ∧
  ∀ H', Same H H' → Q (.bl (PyData.eqv (plD [] t1) (plD [] t2))) H'
def spLaw (K : PySem.W.Frag) : Sp := fun vs H Q _ => ∃ (a : Addr) (ns : List Int), vs = [.ref a] ∧ SqL K H a (ns.map V.int) ∧ ns.length ≤ 63 ∧ ∀ H', Q (.bl true) H'
theorem scLaw : FnScope ["script", "state", "term", "other", "third", "before", "due", "told"] ["script"] (defScope sLaw) := ⟨rfl, rfl, rfl, by decide +kernel, rfl, by decide +kernel, by decide +kernel⟩
section
variable {P : Program} {w : World} {K : PySem.W.Frag} {mg : Str → Option Value} {base : Heap}
theorem ok_law {f fS fK fT fA fP fL : Addr} {fd fdS fdK fdT fdA fdP fdL : FuncData} {k : Nat} (F : Fun K "law" "law" sLaw f fd)
    (GS : FnOk P w K mg base CX0 k fS fdS ["script"] (spState K)) (bS : Binds K fdS ["script"] []) (kS : PySem.W.keepIn K (.ref fS) = true) (mS : mg "_law_state" = some (.ref fS))
    (GK : FnOk P w K mg base CX0 k fK fdK ["state", "row"] spPick) (bK : Binds K fdK ["state", "row"] []) (kK : PySem.W.keepIn K (.ref fK) = true) (mK : mg "_law_pick" = some (.ref fK))
    (GT : FnOk P w K mg base CX0 k fT fdT ["state", "env", "deep"] (spTerm 5)) (bT : Binds K fdT ["state", "env", "deep"] []) (kT : PySem.W.keepIn K (.ref fT) = true) (mT : mg "_law_term" = some (.ref fT))
    (GA : FnOk P w K mg base CX0 k fA fdA ["state", "t", "new", "count"] (spAgain 5)) (bA : Binds K fdA ["state", "t", "new", "count"] []) (kA : PySem.W.keepIn K (.ref fA) = true) (mA : mg "_law_again" = some (.ref fA))
    (GP : FnOk P w K mg base CX0 k fP fdP ["term", "env"] (spPlain K 5)) (bP : Binds K fdP ["term", "env"] []) (kP : PySem.W.keepIn K (.ref fP) = true) (mP : mg "_law_plain" = some (.ref fP))
    (GL : FnOk P w K mg base CX0 k fL fdL ["first", "second"] spAlike) (bL : Binds K fdL ["first", "second"] []) (kL : PySem.W.keepIn K (.ref fL) = true) (mL : mg "alike" = some (.ref fL))
    (mq : mg "repr" = none) (mi : mg "isinstance" = none) (mb : mg "bool" = none) (q1 : PySem.W.kitOne K (.type "bool") (.type "bool") = some true) : FnG P w K mg base CX0 (k + 1) f fd ["script"] (spLaw K) := by
  refine fnG_of F scLaw (fun vs H Q E h => ?_) (fun cdv A outer st H vs Q E gA hr h => ?_)
  · obtain ⟨a, ns, rfl, _⟩ := h
    rfl
  obtain ⟨a, ns, rfl, hS, hlen, q⟩ := h
  have hu : (A.deeper (envOfC "law" (defScope sLaw) st.heap.objs.size f cdv)).units + 100 < cLine := by
    have := hr.un
    omega
  have hu2 := hr.units
  refine ⟨_, pss_cons (ps_set (i := 1) scLaw.nd rfl (.inl rfl) (pe_call GS hr (by rfl) mS kS bS .nil pass0 (pa_cons (pv 0) pa_nil)))
    (pss_cons (ps_set (i := 2) scLaw.nd rfl (.inl rfl) (pe_call GT hr (by rfl) mT kT bT .nil pass0 (pa_cons (pv 1) (pa_cons (pe_lst pa_nil) (pa_cons pe_int pa_nil)))))
    (pss_cons (ps_set (i := 3) scLaw.nd rfl (.inl rfl) (pe_call GA hr (by rfl) mA kA bA .nil pass0 (pa_cons (pv 1) (pa_cons (pv 2) (pa_cons pe_dnewK (pa_cons (pe_lst (pa_cons pe_int pa_nil)) pa_nil))))))
    (pss_cons (ps_set (i := 4) scLaw.nd rfl (.inl rfl) (pe_call GT hr (by rfl) mT kT bT .nil pass0 (pa_cons (pv 1) (pa_cons (pe_lst pa_nil) (pa_cons (pe_call GK hr (by rfl) mK kK bK .nil pass0 (pa_cons (pv 1) (pa_cons (pe_lst (pa_cons pe_int (pa_cons pe_int (pa_cons pe_int pa_nil)))) pa_nil))) pa_nil)))))
    (pss_cons (ps_set (i := 5) scLaw.nd rfl (.inl rfl) (pe_callB (call_reprD gA hu) (by rfl) mq PyProof.Rows.boot_repr (pa_cons (pe_lst (pa_cons (pv 2) (pa_cons (pv 3) (pa_cons (pv 4) pa_nil)))) pa_nil)))
    (pss_cons (ps_if (pw_or (pt_cmpR op_isnot_bl (pe_call GL hr (by rfl) mL kL bL .nil pass0 (pa_cons (pv 2) (pa_cons (pv 3) pa_nil))) pe_bl (nomark _))
        (pw_or (pt_cmpR op_isnot_bl (pe_call GL hr (by rfl) mL kL bL .nil pass0 (pa_cons (pv 3) (pa_cons (pv 2) pa_nil))) pe_bl (nomark _))
        (pw_or1 (pt_cmpR op_isnot_bl (pe_call GL hr (by rfl) mL kL bL .nil pass0 (pa_cons (pv 2) (pa_cons (pv 2) pa_nil))) pe_bl (nomark _))))).pt (pss_one (ps_ret pe_bl)) pss_nil)
    (pss_cons (ps_set (i := 6) scLaw.nd rfl (.inl rfl) (pe_cmpR (op_eqD hu2) (pe_call GP hr (by rfl) mP kP bP .nil pass0 (pa_cons (pv 2) (pa_cons (pe_lst pa_nil) pa_nil))) (pe_call GP hr (by rfl) mP kP bP .nil pass0 (pa_cons (pv 4) (pa_cons (pe_lst pa_nil) pa_nil))) (nomark _)))
    (pss_cons (ps_set (i := 7) scLaw.nd rfl (.inl rfl) (pe_lst (pa_cons (pe_call GL hr (by rfl) mL kL bL .nil pass0 (pa_cons (pv 2) (pa_cons (pv 4) pa_nil))) (pa_cons (pe_call GL hr (by rfl) mL kL bL .nil pass0 (pa_cons (pv 4) (pa_cons (pv 2) pa_nil))) (pa_cons (pe_call GL hr (by rfl) mL kL bL .nil pass0 (pa_cons (pv 3) (pa_cons (pv 4) pa_nil))) pa_nil)))))
    (pss_one (ps_ret (pe_and (pe_cmpR (op_eqD hu2) (pv 7) (pe_lst (pa_cons (pv 6) (pa_cons (pv 6) (pa_cons (pv 6) pa_nil)))) (nomark _)) (pe_and (pe_cmpR op_eq (pe_callB (call_reprD gA hu) (by rfl) mq PyProof.Rows.boot_repr (pa_cons (pe_lst (pa_cons (pv 2) (pa_cons (pv 3) (pa_cons (pv 4) pa_nil)))) pa_nil)) (pv 5) (nomark _)) (pe_one (pe_callB call_isi (by rfl) mi boot_isinstance (pa_cons (pe_ix ix_list (pv 7) pe_int (fun _ _ => rfl)) (pa_cons (pe_bltn (v := .ty "bool") (by rfl) mb PyProof.Rows.boot_bool rfl) pa_nil))))))))))))))), ?_⟩
  have b4 : bnd 4 = 121 := by decide
  refine ⟨_, rfl, a, ns, rfl, hS, hlen, fun H1 p c sm1 np nc S1 => ?_⟩
  -- the term
  refine ⟨_, rfl, by show 0 ≤ sizeLine; decide, fun e1 ne1 => ?_⟩
  have ne1' := S1.new ne1
  refine ⟨p, c, e1, [], 4, rfl, by decide, by decide, upd_same, ne1'.1, ne1'.2, by decide, fun i hi => (by cases hi), S1.same (same_new ne1 _), fun H2 t vt kp2 S2 at2 m2 h2 z2 => ?_⟩
  obtain ⟨F1, hF1⟩ : ∃ F1, F1 = rmL [p, c] H2 := ⟨_, rfl⟩
  have lsp1 := (S1.same (same_new ne1 (.lst []))).lsts
  have atF1 : TmAt F1 t vt := by
    rw [hF1]
    refine TmAt.same (nl_rm fun b hb => ?_) _ _ at2
    rcases List.mem_cons.mp hb with e | e
    · rw [e]
      exact lsp1.1
    · rw [List.mem_singleton.mp e]
      exact lsp1.2
  have sF1 : Same F1 H2 := by
    rw [hF1]
    exact rm_sub
  have F1p : F1 p = none ∧ F1 c = none := by
    rw [hF1]
    exact ⟨if_pos (by simp), if_pos (by simp)⟩
  -- the other
  refine ⟨_, rfl, _, rfl, fun nd nnd => ?_⟩
  refine ⟨by show 1 ≤ sizeLine; decide, fun cn ncn => ?_⟩
  have snd1 : Same H2 (upd H2 nd (.dK [])) := same_new nnd _
  have end1 : (upd H2 nd (.dK [])) nd = some (.dK []) := upd_same
  have Snd := S2.same snd1
  have ncn' := Snd.new ncn
  have scn1 : Same (upd H2 nd (.dK [])) (upd (upd H2 nd (.dK [])) cn (.lst [.int 10])) := same_new ncn _
  have ecn1 : (upd (upd H2 nd (.dK [])) cn (.lst [.int 10])) cn = some (.lst [.int 10]) := upd_same
  have end2 := scn1 _ _ end1
  have Scn := Snd.same scn1
  have F1cn : F1 cn = none := by
    cases e : F1 cn with
    | none => rfl
    | some o =>
      rw [snd1 _ _ (sF1 _ _ e)] at ncn
      cases ncn
  have sF1c := (sF1.trans snd1).trans scn1
  generalize upd (upd H2 nd (.dK [])) cn (.lst [.int 10]) = H3 at scn1 ecn1 end2 Scn sF1c
  refine ⟨p, c, cn, nd, F1, t, vt, [], [], _, [], 10, rfl, ⟨sF1c, fun b hb => ?_⟩, atF1, end2, DV.nil, ecn1, ncn'.1, ncn'.2, Scn, m2, Rel.nil _ _, by decide, by omega, by show 0 + 10 * mht t ≤ 1000; omega, by omega, by omega, fun H4 u vu c4 kb4 S4 hcn4 g1 g2 at4 p4 m4 h4 z4 => ?_⟩
  · rcases List.mem_cons.mp hb with e | e
    · rw [e]
      exact F1p.1
    · rcases List.mem_cons.mp e with e | e
      · rw [e]
        exact F1p.2
      · rw [List.mem_singleton.mp e]
        exact F1cn
  have fr4 : Frz [p, c, cn] F1 H4 := Frz.up ⟨sF1c, fun b hb => by
    rcases List.mem_cons.mp hb with e | e
    · rw [e]
      exact F1p.1
    · rcases List.mem_cons.mp e with e | e
      · rw [e]
        exact F1p.2
      · rw [List.mem_singleton.mp e]
        exact F1cn⟩ kb4 (fun b hb => by
    rcases List.mem_cons.mp hb with e | e
    · rw [e]
      exact F1p.1
    · rcases List.mem_cons.mp e with e | e
      · rw [e]
        exact F1p.2
      · rw [List.mem_singleton.mp e]
        exact F1cn)
  obtain ⟨F2, hF2⟩ : ∃ F2, F2 = rmL [p, c] H4 := ⟨_, rfl⟩
  have lsp3 := Scn.lsts
  have uF2 : TmAt F2 u vu := by
    rw [hF2]
    refine TmAt.same (nl_rm fun b hb => ?_) _ _ at4
    rcases List.mem_cons.mp hb with e | e
    · rw [e]
      exact lsp3.1
    · rw [List.mem_singleton.mp e]
      exact lsp3.2
  have s12 : Same F1 F2 := fun b o e => by
    rw [hF2]
    refine rm_in (fun z => ?_) (fr4.1 b o e)
    rcases List.mem_cons.mp z with w | w
    · rw [w, F1p.1] at e
      cases e
    · rw [List.mem_singleton.mp w, F1p.2] at e
      cases e
  have tF2 := TmAt.same s12 _ _ atF1
  have sF2 : Same F2 H4 := by
    rw [hF2]
    exact rm_sub
  have F2p : F2 p = none ∧ F2 c = none := by
    rw [hF2]
    exact ⟨if_pos (by simp), if_pos (by simp)⟩
  have kpF : ∀ {H H' : Hp}, Same F2 H → Kp p c H H' → Same F2 H' := fun {H H'} s k b o e => k b o (fun z => by rw [z, F2p.1] at e; cases e) (fun z => by rw [z, F2p.2] at e; cases e) (s b o e)
  -- the third
  refine ⟨_, rfl, by show 0 ≤ sizeLine; decide, fun e5 ne5 => ?_⟩
  have ne5' := S4.new ne5
  have s5 : Same H4 (upd H4 e5 (.lst [])) := same_new ne5 _
  have ee5 : (upd H4 e5 (.lst [])) e5 = some (.lst []) := upd_same
  generalize upd H4 e5 (.lst []) = H5 at s5 ee5
  have S5 := S4.same s5
  refine ⟨_, rfl, by show 3 ≤ sizeLine; decide, fun b6 nb6 => ?_⟩
  have nb6' := S5.new nb6
  refine ⟨p, c, b6, _, rfl, upd_same, nb6'.1, nb6'.2, by simp, by show 3 ≤ 1000; decide, S5.same (same_new nb6 _), fun H7 v7 kp7 S7 hv7 => ?_⟩
  obtain ⟨d7, rfl, hd7⟩ : ∃ d7 : Nat, v7 = .int (d7 : Nat) ∧ d7 ≤ 4 := by
    have z : v7 = .int 1 ∨ v7 = .int 2 ∨ v7 = .int 4 := by simpa using hv7
    rcases z with e | e | e
    · exact ⟨1, e, by decide⟩
    · exact ⟨2, e, by decide⟩
    · exact ⟨4, e, by decide⟩
  have kp57 : Kp p c H5 H7 := (Same.kp (same_new nb6 _)).trans kp7
  have ee7 := kp57 e5 _ ne5'.1 ne5'.2 ee5
  have sF7 : Same F2 H7 := kpF (sF2.trans s5) kp57
  refine ⟨p, c, e5, [], d7, rfl, by omega, hd7, ee7, ne5'.1, ne5'.2, by show 0 + 3 * d7 ≤ 100; omega, fun i hi => (by cases hi), S7, fun H8 w vw kp8 S8 at8 m8 h8 z8 => ?_⟩
  have z8' : msz w ≤ 121 := by
    have hb : bnd 0 = 1 ∧ bnd 1 = 4 ∧ bnd 2 = 13 ∧ bnd 3 = 40 ∧ bnd 4 = 121 := by decide
    have hd : d7 = 0 ∨ d7 = 1 ∨ d7 = 2 ∨ d7 = 3 ∨ d7 = 4 := by omega
    rcases hd with e | e | e | e | e <;> subst e <;> omega
  have sF8 : Same F2 H8 := kpF sF7 kp8
  obtain ⟨F3, hF3⟩ : ∃ F3, F3 = rmL [p, c] H8 := ⟨_, rfl⟩
  have lsp7 := S7.lsts
  have wF3 : TmAt F3 w vw := by
    rw [hF3]
    refine TmAt.same (nl_rm fun b hb => ?_) _ _ at8
    rcases List.mem_cons.mp hb with e | e
    · rw [e]
      exact lsp7.1
    · rw [List.mem_singleton.mp e]
      exact lsp7.2
  have s23 : Same F2 F3 := fun b o e => by
    rw [hF3]
    refine rm_in (fun z => ?_) (sF8 b o e)
    rcases List.mem_cons.mp z with w | w
    · rw [w, F2p.1] at e
      cases e
    · rw [List.mem_singleton.mp w, F2p.2] at e
      cases e
  have sF3 : Same F3 H8 := by
    rw [hF3]
    exact rm_sub
  have tF3 := TmAt.same s23 _ _ tF2
  have uF3 := TmAt.same s23 _ _ uF2
  have ht4 : mht t ≤ 4 := h2
  have hu4 : mht u ≤ 4 := by omega
  have hw4 : mht w ≤ 4 := by omega
  have zt : msz t ≤ 121 := by omega
  have zu : msz u ≤ 121 := by omega
  -- repr
  have show3 : ∀ {H : Hp} {l : Addr}, Same F3 H → H l = some (.lst [vt, vu, vw]) → Dp K H (.ref l) (.list [tmD t, tmD u, tmD w]) := fun {H l} s e => .lst (SqL.of e) (.cons (dp_tm t vt (TmAt.same s _ _ tF3)) (.cons (dp_tm u vu (TmAt.same s _ _ uF3)) (.cons (dp_tm w vw (TmAt.same s _ _ wF3)) .nil)))
  have q1' := tm_show [] t m2
  have q2' := tm_show [] u m4
  have q3' := tm_show [] w m8
  have d1' := tm_depth t
  have d2' := tm_depth u
  have d3' := tm_depth w
  have rs : (PyData.list [tmD t, tmD u, tmD w]).showable = true ∧ (PyData.list [tmD t, tmD u, tmD w]).hasDict = false ∧ (PyData.list [tmD t, tmD u, tmD w]).depth ≤ 64 ∧ (PyData.list [tmD t, tmD u, tmD w]).shown.length ≤ sizeLine := by
    have z := listText_len_le [PyData.shown (tmD t), PyData.shown (tmD u), PyData.shown (tmD w)]
    simp only [List.map_cons, List.map_nil, List.sum_cons, List.sum_nil, List.length_cons, List.length_nil] at z
    simp only [PyData.showable, PyData.showableAll, PyData.hasDict, PyData.hasDictAll, PyData.depth, PyData.depthAll, PyData.shown, PyData.shownAll]
    refine ⟨by rw [q1'.1, q2'.1, q3'.1]; rfl, by rw [q1'.2.1, q2'.2.1, q3'.2.1]; rfl, by omega, ?_⟩
    rw [sizeLine_eq]
    omega
  refine ⟨_, rfl, _, rfl, _, rfl, by show 3 ≤ sizeLine; decide, fun l9 nl9 => ?_⟩
  have s9 : Same H8 (upd H8 l9 (.lst [vt, vu, vw])) := same_new nl9 _
  have el9 : (upd H8 l9 (.lst [vt, vu, vw])) l9 = some (.lst [vt, vu, vw]) := upd_same
  generalize upd H8 l9 (.lst [vt, vu, vw]) = H9 at s9 el9
  have sF9 := sF3.trans s9
  refine ⟨l9, _, rfl, show3 sF9 el9, rs.1, rs.2.1, rs.2.2.1, rs.2.2.2, ?_⟩
  -- alike
  have ett : PyData.eqv (plD [] t) (plD [] t) = true := SeqAt.eqv_refl _ (pl_can [] [] t m2)
  have eut : plD [] u = plD [] t := p4
  refine ⟨_, rfl, _, rfl, F3, t, u, vt, vu, rfl, sF9, tF3, uF3, m2, m4, ht4, hu4, zt, zu, fun H10 s10 => ?_⟩
  rw [eut, ett]
  refine ⟨true, true, rfl, rfl, _, rfl, ?_⟩
  refine if_false_of rfl ?_
  have sF10 := sF9.trans s10
  refine ⟨_, rfl, _, rfl, F3, u, t, vu, vt, rfl, sF10, uF3, tF3, m4, m2, hu4, ht4, zu, zt, fun H11 s11 => ?_⟩
  rw [eut, ett]
  refine ⟨true, true, rfl, rfl, _, rfl, ?_⟩
  refine if_false_of rfl ?_
  have sF11 := sF10.trans s11
  refine ⟨_, rfl, _, rfl, F3, t, t, vt, vt, rfl, sF11, tF3, tF3, m2, m2, ht4, ht4, zt, zt, fun H12 s12' => ?_⟩
  rw [ett]
  refine ⟨true, true, rfl, rfl, _, rfl, ?_⟩
  refine if_false_of rfl ?_
  have sF12 := sF11.trans s12'
  -- due
  refine ⟨_, rfl, by show 0 ≤ sizeLine; decide, fun e13 ne13 => ?_⟩
  refine ⟨F3, t, vt, e13, [], [], rfl, sF12.trans (same_new ne13 _), tF3, upd_same, by show 0 + 10 * mht t ≤ 200; omega, m2, by omega, by omega, fun H13 v13 s13 dp13 => ?_⟩
  have sF13 := (sF12.trans (same_new ne13 _)).trans s13
  refine ⟨_, rfl, by show 0 ≤ sizeLine; decide, fun e14 ne14 => ?_⟩
  refine ⟨F3, w, vw, e14, [], [], rfl, sF13.trans (same_new ne14 _), wF3, upd_same, by show 0 + 10 * mht w ≤ 200; omega, m8, by omega, by omega, fun H14 v14 s14 dp14 => ?_⟩
  have sF14 := (sF13.trans (same_new ne14 _)).trans s14
  refine ⟨plD [] t, plD [] w, Dp.same (nl_sub.trans ((same_new ne14 _).trans s14)) _ _ dp13, Dp.same nl_sub _ _ dp14, pl_shaped m2 ht4, pl_shaped m8 hw4, ?_⟩
  have ecm : PyData.eqv (plD [] w) (plD [] t) = PyData.eqv (plD [] t) (plD [] w) := PySem.W.eqv_comm _ _
  -- told
  refine ⟨_, rfl, _, rfl, F3, t, w, vt, vw, rfl, sF14, tF3, wF3, m2, m8, ht4, hw4, zt, z8', fun H15 s15 => ?_⟩
  have sF15 := sF14.trans s15
  refine ⟨_, rfl, _, rfl, F3, w, t, vw, vt, rfl, sF15, wF3, tF3, m8, m2, hw4, ht4, z8', zt, fun H16 s16 => ?_⟩
  have sF16 := sF15.trans s16
  refine ⟨_, rfl, _, rfl, F3, u, w, vu, vw, rfl, sF16, uF3, wF3, m4, m8, hu4, hw4, zu, z8', fun H17 s17 => ?_⟩
  have sF17 := sF16.trans s17
  rw [eut, ecm]
  generalize PyData.eqv (plD [] t) (plD [] w) = due
  refine ⟨by show 3 ≤ sizeLine; decide, fun l18 nl18 => ?_⟩
  have s18 : Same H17 (upd H17 l18 (.lst [.bl due, .bl due, .bl due])) := same_new nl18 _
  have el18 : (upd H17 l18 (.lst [.bl due, .bl due, .bl due])) l18 = some (.lst [.bl due, .bl due, .bl due]) := upd_same
  generalize upd H17 l18 (.lst [.bl due, .bl due, .bl due]) = H18 at s18 el18
  have sF18 := sF17.trans s18
  refine ⟨_, rfl, _, rfl, _, rfl, _, rfl, by show 3 ≤ sizeLine; decide, fun l19 nl19 => ?_⟩
  have s19 : Same H18 (upd H18 l19 (.lst [.bl due, .bl due, .bl due])) := same_new nl19 _
  have el19 : (upd H18 l19 (.lst [.bl due, .bl due, .bl due])) l19 = some (.lst [.bl due, .bl due, .bl due]) := upd_same
  generalize upd H18 l19 (.lst [.bl due, .bl due, .bl due]) = H19 at s19 el19
  have sF19 := sF18.trans s19
  have dpb : ∀ {H : Hp} {l : Addr}, H l = some (.lst [.bl due, .bl due, .bl due]) → Dp K H (.ref l) (.list [.bool due, .bool due, .bool due]) := fun {H l} e => .lst (SqL.of e) (.cons (.bl _) (.cons (.bl _) (.cons (.bl _) .nil)))
  have shb : SeqAt.shaped (.list [.bool due, .bool due, .bool due]) = true := by cases due <;> decide +kernel
  refine ⟨_, _, dpb (s19 _ _ el18), dpb el19, shb, shb, _, rfl, ?_⟩
  have eqb : PyData.eqv (.list [.bool due, .bool due, .bool due]) (.list [.bool due, .bool due, .bool due]) = true := SeqAt.eqv_refl _ (by cases due <;> decide +kernel)
  refine if_true_of eqb ?_
  refine ⟨_, rfl, _, rfl, _, rfl, by show 3 ≤ sizeLine; decide, fun l20 nl20 => ?_⟩
  have s20 : Same H19 (upd H19 l20 (.lst [vt, vu, vw])) := same_new nl20 _
  refine ⟨l20, _, rfl, show3 (sF19.trans s20) upd_same, rs.1, rs.2.1, rs.2.2.1, rs.2.2.2, ?_⟩
  refine ⟨_, rfl, rfl, _, rfl, ?_⟩
  refine if_true_of str_eq ?_
  refine ⟨_, rfl, l18, _, 0, .bl due, rfl, rfl, SqL.of (s20 _ _ (s19 _ _ el18)), atI_nat (j := 0) rfl, ?_⟩
  exact ⟨.bl due, .ty "bool", _, _, true, rfl, .ty "bool", .base (.bl _), q1, q _⟩
end
end Sg

namespace Sg
open PySem PySem.Spec PyProof.Rows L2
/-! ### inner_terms, bound_in_body -/
def kids : Tm → List Tm
  | .int _ _ => []
  | .prim _ _ => []
  | .ref _ _ => []
  | .fn _ b _ => [b]
  | .rc _ _ b _ => [b]
  | .lt _ x b _ => [x, b]
  | .ite x y z _ => [x, y, z]
  | .app f xs _ => f :: xs
  | .pair x y _ => [x, y]
def bnds : Tm → List Int
  | .fn ids _ _ => ids
  | .rc i ids _ _ => i :: ids
  | .lt i _ _ _ => [i]
  | _ => []
def kind : Tm → Str
  | .int _ _ => "int"
  | .prim _ _ => "prim"
  | .ref _ _ => "ref"
  | .fn _ _ _ => "fn"
  | .rc _ _ _ _ => "rec"
  | .lt _ _ _ _ => "let"
  | .ite _ _ _ _ => "if"
  | .app _ _ _ => "app"
  | .pair _ _ _ => "pair"
/-- every list in it is short -/
def fewK (t : Tm) : Prop := (kids t).length ≤ 2000 ∧ (bnds t).length ≤ 2000
theorem TmsAt.one {F : Hp} {t : Tm} {v : V} (h : TmAt F t v) : TmsAt F [t] [v] := by
  unfold TmsAt
  exact ⟨v, [], rfl, h, .nil⟩
theorem TmsAt.cons {F : Hp} {t : Tm} {v : V} {ts : List Tm} {vs : List V} (h : TmAt F t v) (g : TmsAt F ts vs) : TmsAt F (t :: ts) (v :: vs) := by
  unfold TmsAt
  exact ⟨v, vs, rfl, h, g⟩
def spKids : Sp := fun vs H Q _ => ∃ (F : Hp) (t : Tm) (v : V), vs = [v] ∧ Same F H ∧ TmAt F t v ∧ (kids t).length ≤ 2000 ∧ ∀ H' p xs, Same H H' → H p = none → H' p = some (.lst xs) → TmsAt F (kids t) xs → Q (.ref p) H'
def spBnds : Sp := fun vs H Q _ => ∃ (F : Hp) (t : Tm) (v : V), vs = [v] ∧ Same F H ∧ TmAt F t v ∧ (bnds t).length ≤ 2000 ∧ ∀ H' p, Same H H' → H p = none → H' p = some (.lst ((bnds t).map V.int)) → Q (.ref p) H'
theorem scKids : FnScope ["term", "kind"] ["term"] (defScope cInnerTerms) := ⟨rfl, rfl, rfl, by decide +kernel, rfl, by decide +kernel, by decide +kernel⟩
theorem scBnds : FnScope ["term"] ["term"] (defScope cBoundInBody) := ⟨rfl, rfl, rfl, by decide +kernel, rfl, by decide +kernel, by decide +kernel⟩
section
variable {P : Program} {w : World} {K : PySem.W.Frag} {mg : Str → Option Value} {base : Heap}
theorem ok_kids {f : Addr} {fd : FuncData} {k : Nat} (F : Fun K "inner_terms" "inner_terms" cInnerTerms f fd) (mL : mg "list" = none) : FnOk P w K mg base CX0 (k + 1) f fd ["term"] spKids := by
  refine F.ok scKids (fun vs H Q E h => ?_) (fun cdv A outer st H vs Q E hr h => ?_)
  · obtain ⟨F, t, v, rfl, _⟩ := h
    rfl
  obtain ⟨Fh, t, v, rfl, sF, ta, hb, q⟩ := h
  refine ⟨_, pss_cons (ps_set (i := 1) scKids.nd rfl (.inl rfl) (pe_ix ix_tup (pv 0) pe_int (fun _ _ => rfl)))
    (pss_cons (ps_if (pt_cmpR op_in_seq (pv 1) (pe_tup (pa_cons pe_str (pa_cons pe_str (pa_cons pe_str pa_nil)))) rfl) (pss_one (ps_ret (pe_lst pa_nil))) pss_nil)
    (pss_cons (ps_if (pt_cmpR op_eq (pv 1) pe_str (nomark _)) (pss_one (ps_ret (pe_lst (pa_cons (pe_ix ix_tup (pv 0) pe_int (fun _ _ => rfl)) (StX.pa_star (pe_ix ix_tup (pv 0) pe_int (fun _ _ => rfl)) pa_nil))))) pss_nil)
    (pss_cons (ps_if (pt_cmpR op_eq (pv 1) pe_str (nomark _)) (pss_one (ps_ret (pe_lst (pa_cons (pe_ix ix_tup (pv 0) pe_int (fun _ _ => rfl)) pa_nil)))) pss_nil)
    (pss_cons (ps_if (pt_cmpR op_eq (pv 1) pe_str (nomark _)) (pss_one (ps_ret (pe_lst (pa_cons (pe_ix ix_tup (pv 0) pe_int (fun _ _ => rfl)) pa_nil)))) pss_nil)
    (pss_cons (ps_if (pt_cmpR op_eq (pv 1) pe_str (nomark _)) (pss_one (ps_ret (pe_lst (pa_cons (pe_ix ix_tup (pv 0) pe_int (fun _ _ => rfl)) (pa_cons (pe_ix ix_tup (pv 0) pe_int (fun _ _ => rfl)) pa_nil))))) pss_nil)
    (pss_one (ps_ret (pe_callTy call_list_of (by rfl) mL boot_list (pa_cons (pe_slice sl_tup (pv 0) (po_some pe_int) (po_some (pe_un un_neg pe_int))) pa_nil))))))))), ?_⟩
  cases t with
  | int n o =>
    unfold TmAt at ta
    obtain ⟨a, w, rfl, ea, og⟩ := ta
    have ea0 := sF _ _ ea
    refine ⟨_, rfl, a, _, 0, _, rfl, rfl, SqT.of ea0, at0, ?_⟩
    refine ⟨_, rfl, by show 3 ≤ sizeLine; decide, fun tp ntp => ?_⟩
    refine ⟨tp, _, rfl, .inr (SqT.of upd_same), rfl, rfl, _, rfl, ?_⟩
    have sm1 : Same H (upd H tp (.tup [.str "int", .str "prim", .str "ref"])) := same_new ntp _
    generalize upd H tp (.tup [.str "int", .str "prim", .str "ref"]) = H1 at sm1
    refine if_true_of (by decide +kernel) ?_
    refine ⟨by show 0 ≤ sizeLine; decide, fun p np => ?_⟩
    exact q _ p [] (sm1.trans (same_new np _)) (sm1.free np) upd_same .nil
  | prim n o =>
    unfold TmAt at ta
    obtain ⟨a, w, rfl, ea, og⟩ := ta
    have ea0 := sF _ _ ea
    refine ⟨_, rfl, a, _, 0, _, rfl, rfl, SqT.of ea0, at0, ?_⟩
    refine ⟨_, rfl, by show 3 ≤ sizeLine; decide, fun tp ntp => ?_⟩
    refine ⟨tp, _, rfl, .inr (SqT.of upd_same), rfl, rfl, _, rfl, ?_⟩
    have sm1 : Same H (upd H tp (.tup [.str "int", .str "prim", .str "ref"])) := same_new ntp _
    generalize upd H tp (.tup [.str "int", .str "prim", .str "ref"]) = H1 at sm1
    refine if_true_of (by decide +kernel) ?_
    refine ⟨by show 0 ≤ sizeLine; decide, fun p np => ?_⟩
    exact q _ p [] (sm1.trans (same_new np _)) (sm1.free np) upd_same .nil
  | ref i o =>
    unfold TmAt at ta
    obtain ⟨a, w, rfl, ea, og⟩ := ta
    have ea0 := sF _ _ ea
    refine ⟨_, rfl, a, _, 0, _, rfl, rfl, SqT.of ea0, at0, ?_⟩
    refine ⟨_, rfl, by show 3 ≤ sizeLine; decide, fun tp ntp => ?_⟩
    refine ⟨tp, _, rfl, .inr (SqT.of upd_same), rfl, rfl, _, rfl, ?_⟩
    have sm1 : Same H (upd H tp (.tup [.str "int", .str "prim", .str "ref"])) := same_new ntp _
    generalize upd H tp (.tup [.str "int", .str "prim", .str "ref"]) = H1 at sm1
    refine if_true_of (by decide +kernel) ?_
    refine ⟨by show 0 ≤ sizeLine; decide, fun p np => ?_⟩
    exact q _ p [] (sm1.trans (same_new np _)) (sm1.free np) upd_same .nil
  | fn ids b o =>
    unfold TmAt at ta
    obtain ⟨a, l, u, w, rfl, ea, el, tb, og⟩ := ta
    have ea0 := sF _ _ ea
    refine ⟨_, rfl, a, _, 0, _, rfl, rfl, SqT.of ea0, at0, ?_⟩
    refine ⟨_, rfl, by show 3 ≤ sizeLine; decide, fun tp ntp => ?_⟩
    refine ⟨tp, _, rfl, .inr (SqT.of upd_same), rfl, rfl, _, rfl, ?_⟩
    have sm1 : Same H (upd H tp (.tup [.str "int", .str "prim", .str "ref"])) := same_new ntp _
    generalize upd H tp (.tup [.str "int", .str "prim", .str "ref"]) = H1 at sm1
    refine if_false_of (by decide +kernel) ?_
    have ea1 := sm1 _ _ ea0
    refine ⟨_, rfl, rfl, _, rfl, ?_⟩
    refine if_false_of (str_ne (by decide +kernel)) ?_
    refine ⟨_, rfl, rfl, _, rfl, ?_⟩
    refine if_true_of str_eq ?_
    refine ⟨_, rfl, a, _, 2, _, rfl, rfl, SqT.of ea1, atI_nat (j := 2) rfl, ?_⟩
    refine ⟨by show 1 ≤ sizeLine; decide, fun p np => ?_⟩
    exact q _ p [u] (sm1.trans (same_new np _)) (sm1.free np) upd_same (.one tb)
  | rc i ids b o =>
    unfold TmAt at ta
    obtain ⟨a, l, u, w, rfl, ea, el, tb, og⟩ := ta
    have ea0 := sF _ _ ea
    refine ⟨_, rfl, a, _, 0, _, rfl, rfl, SqT.of ea0, at0, ?_⟩
    refine ⟨_, rfl, by show 3 ≤ sizeLine; decide, fun tp ntp => ?_⟩
    refine ⟨tp, _, rfl, .inr (SqT.of upd_same), rfl, rfl, _, rfl, ?_⟩
    have sm1 : Same H (upd H tp (.tup [.str "int", .str "prim", .str "ref"])) := same_new ntp _
    generalize upd H tp (.tup [.str "int", .str "prim", .str "ref"]) = H1 at sm1
    refine if_false_of (by decide +kernel) ?_
    have ea1 := sm1 _ _ ea0
    refine ⟨_, rfl, rfl, _, rfl, ?_⟩
    refine if_false_of (str_ne (by decide +kernel)) ?_
    refine ⟨_, rfl, rfl, _, rfl, ?_⟩
    refine if_false_of (str_ne (by decide +kernel)) ?_
    refine ⟨_, rfl, rfl, _, rfl, ?_⟩
    refine if_true_of str_eq ?_
    refine ⟨_, rfl, a, _, 3, _, rfl, rfl, SqT.of ea1, atI_nat (j := 3) rfl, ?_⟩
    refine ⟨by show 1 ≤ sizeLine; decide, fun p np => ?_⟩
    exact q _ p [u] (sm1.trans (same_new np _)) (sm1.free np) upd_same (.one tb)
  | lt i x b o =>
    unfold TmAt at ta
    obtain ⟨a, u1, u2, w, rfl, ea, t1, t2, og⟩ := ta
    have ea0 := sF _ _ ea
    refine ⟨_, rfl, a, _, 0, _, rfl, rfl, SqT.of ea0, at0, ?_⟩
    refine ⟨_, rfl, by show 3 ≤ sizeLine; decide, fun tp ntp => ?_⟩
    refine ⟨tp, _, rfl, .inr (SqT.of upd_same), rfl, rfl, _, rfl, ?_⟩
    have sm1 : Same H (upd H tp (.tup [.str "int", .str "prim", .str "ref"])) := same_new ntp _
    generalize upd H tp (.tup [.str "int", .str "prim", .str "ref"]) = H1 at sm1
    refine if_false_of (by decide +kernel) ?_
    have ea1 := sm1 _ _ ea0
    refine ⟨_, rfl, rfl, _, rfl, ?_⟩
    refine if_false_of (str_ne (by decide +kernel)) ?_
    refine ⟨_, rfl, rfl, _, rfl, ?_⟩
    refine if_false_of (str_ne (by decide +kernel)) ?_
    refine ⟨_, rfl, rfl, _, rfl, ?_⟩
    refine if_false_of (str_ne (by decide +kernel)) ?_
    refine ⟨_, rfl, rfl, _, rfl, ?_⟩
    refine if_true_of str_eq ?_
    refine ⟨_, rfl, a, _, 2, _, rfl, rfl, SqT.of ea1, atI_nat (j := 2) rfl, ?_⟩
    refine ⟨_, rfl, a, _, 3, _, rfl, rfl, SqT.of ea1, atI_nat (j := 3) rfl, ?_⟩
    refine ⟨by show 2 ≤ sizeLine; decide, fun p np => ?_⟩
    exact q _ p [u1, u2] (sm1.trans (same_new np _)) (sm1.free np) upd_same (.cons t1 (.one t2))
  | ite x y z o =>
    unfold TmAt at ta
    obtain ⟨a, u1, u2, u3, w, rfl, ea, t1, t2, t3, og⟩ := ta
    have ea0 := sF _ _ ea
    refine ⟨_, rfl, a, _, 0, _, rfl, rfl, SqT.of ea0, at0, ?_⟩
    refine ⟨_, rfl, by show 3 ≤ sizeLine; decide, fun tp ntp => ?_⟩
    refine ⟨tp, _, rfl, .inr (SqT.of upd_same), rfl, rfl, _, rfl, ?_⟩
    have sm1 : Same H (upd H tp (.tup [.str "int", .str "prim", .str "ref"])) := same_new ntp _
    generalize upd H tp (.tup [.str "int", .str "prim", .str "ref"]) = H1 at sm1
    refine if_false_of (by decide +kernel) ?_
    have ea1 := sm1 _ _ ea0
    refine ⟨_, rfl, rfl, _, rfl, ?_⟩
    refine if_false_of (str_ne (by decide +kernel)) ?_
    refine ⟨_, rfl, rfl, _, rfl, ?_⟩
    refine if_false_of (str_ne (by decide +kernel)) ?_
    refine ⟨_, rfl, rfl, _, rfl, ?_⟩
    refine if_false_of (str_ne (by decide +kernel)) ?_
    refine ⟨_, rfl, rfl, _, rfl, ?_⟩
    refine if_false_of (str_ne (by decide +kernel)) ?_
    refine ⟨_, rfl, _, rfl, _, rfl, _, rfl, a, _, rfl, SqT.of ea1, by show ¬(HT.sIx 5 0 (some 1) = 0 ∧ HT.sIx 5 5 (some (-1)) = 5); decide, fun p np => ?_⟩
    have sm2 : Same H1 (upd H1 p (.tup [u1, u2, u3])) := same_new np _
    have ep : (upd H1 p (.tup [u1, u2, u3])) p = some (.tup [u1, u2, u3]) := upd_same
    refine ⟨p, [u1, u2, u3], rfl, .inr (SqT.of ep), fun l nl => ?_⟩
    exact q _ l [u1, u2, u3] ((sm1.trans sm2).trans (same_new nl _)) ((sm1.trans sm2).free nl) upd_same (.cons t1 (.cons t2 (.one t3)))
  | app f xs o =>
    unfold TmAt at ta
    obtain ⟨a, u, l, us, w, rfl, ea, el, tf, tx, og⟩ := ta
    have ea0 := sF _ _ ea
    refine ⟨_, rfl, a, _, 0, _, rfl, rfl, SqT.of ea0, at0, ?_⟩
    refine ⟨_, rfl, by show 3 ≤ sizeLine; decide, fun tp ntp => ?_⟩
    refine ⟨tp, _, rfl, .inr (SqT.of upd_same), rfl, rfl, _, rfl, ?_⟩
    have sm1 : Same H (upd H tp (.tup [.str "int", .str "prim", .str "ref"])) := same_new ntp _
    generalize upd H tp (.tup [.str "int", .str "prim", .str "ref"]) = H1 at sm1
    refine if_false_of (by decide +kernel) ?_
    have ea1 := sm1 _ _ ea0
    refine ⟨_, rfl, rfl, _, rfl, ?_⟩
    refine if_true_of str_eq ?_
    have el1 := sm1 _ _ (sF _ _ el)
    have ll := tx.len
    have hb1 : xs.length + 1 ≤ 2000 := hb
    refine ⟨_, rfl, a, _, 1, _, rfl, rfl, SqT.of ea1, atI_nat (j := 1) rfl, ?_⟩
    refine ⟨_, rfl, a, _, 2, _, rfl, rfl, SqT.of ea1, atI_nat (j := 2) rfl, ?_⟩
    refine ⟨l, us, rfl, .inr (SqL.of el1), ?_⟩
    refine ⟨?_, fun p np => ?_⟩
    · show (u :: (us ++ [])).length ≤ sizeLine
      rw [List.append_nil, List.length_cons, ll]
      exact small (by omega)
    · refine q _ p (u :: us) (sm1.trans (same_new np _)) (sm1.free np) ?_ (.cons tf tx)
      rw [upd_same, List.append_nil]
  | pair x y o =>
    unfold TmAt at ta
    obtain ⟨a, u1, u2, w, rfl, ea, t1, t2, og⟩ := ta
    have ea0 := sF _ _ ea
    refine ⟨_, rfl, a, _, 0, _, rfl, rfl, SqT.of ea0, at0, ?_⟩
    refine ⟨_, rfl, by show 3 ≤ sizeLine; decide, fun tp ntp => ?_⟩
    refine ⟨tp, _, rfl, .inr (SqT.of upd_same), rfl, rfl, _, rfl, ?_⟩
    have sm1 : Same H (upd H tp (.tup [.str "int", .str "prim", .str "ref"])) := same_new ntp _
    generalize upd H tp (.tup [.str "int", .str "prim", .str "ref"]) = H1 at sm1
    refine if_false_of (by decide +kernel) ?_
    have ea1 := sm1 _ _ ea0
    refine ⟨_, rfl, rfl, _, rfl, ?_⟩
    refine if_false_of (str_ne (by decide +kernel)) ?_
    refine ⟨_, rfl, rfl, _, rfl, ?_⟩
    refine if_false_of (str_ne (by decide +kernel)) ?_
    refine ⟨_, rfl, rfl, _, rfl, ?_⟩
    refine if_false_of (str_ne (by decide +kernel)) ?_
    refine ⟨_, rfl, rfl, _, rfl, ?_⟩
    refine if_false_of (str_ne (by decide +kernel)) ?_
    refine ⟨_, rfl, _, rfl, _, rfl, _, rfl, a, _, rfl, SqT.of ea1, by show ¬(HT.sIx 4 0 (some 1) = 0 ∧ HT.sIx 4 4 (some (-1)) = 4); decide, fun p np => ?_⟩
    have sm2 : Same H1 (upd H1 p (.tup [u1, u2])) := same_new np _
    have ep : (upd H1 p (.tup [u1, u2])) p = some (.tup [u1, u2]) := upd_same
    refine ⟨p, [u1, u2], rfl, .inr (SqT.of ep), fun l nl => ?_⟩
    exact q _ l [u1, u2] ((sm1.trans sm2).trans (same_new nl _)) ((sm1.trans sm2).free nl) upd_same (.cons t1 (.one t2))
theorem ok_bnds {f : Addr} {fd : FuncData} {k : Nat} (F : Fun K "bound_in_body" "bound_in_body" cBoundInBody f fd) (mL : mg "list" = none) : FnOk P w K mg base CX0 (k + 1) f fd ["term"] spBnds := by
  refine F.ok scBnds (fun vs H Q E h => ?_) (fun cdv A outer st H vs Q E hr h => ?_)
  · obtain ⟨F, t, v, rfl, _⟩ := h
    rfl
  obtain ⟨Fh, t, v, rfl, sF, ta, hb, q⟩ := h
  refine ⟨_, pss_cons (ps_if (pt_cmpR op_eq (pe_ix ix_tup (pv 0) pe_int (fun _ _ => rfl)) pe_str (nomark _)) (pss_one (ps_ret (pe_callTy call_list_of (by rfl) mL boot_list (pa_cons (pe_ix ix_tup (pv 0) pe_int (fun _ _ => rfl)) pa_nil)))) pss_nil)
    (pss_cons (ps_if (pt_cmpR op_eq (pe_ix ix_tup (pv 0) pe_int (fun _ _ => rfl)) pe_str (nomark _)) (pss_one (ps_ret (pe_lst (pa_cons (pe_ix ix_tup (pv 0) pe_int (fun _ _ => rfl)) (StX.pa_star (pe_ix ix_tup (pv 0) pe_int (fun _ _ => rfl)) pa_nil))))) pss_nil)
    (pss_cons (ps_if (pt_cmpR op_eq (pe_ix ix_tup (pv 0) pe_int (fun _ _ => rfl)) pe_str (nomark _)) (pss_one (ps_ret (pe_lst (pa_cons (pe_ix ix_tup (pv 0) pe_int (fun _ _ => rfl)) pa_nil)))) pss_nil)
    (pss_one (ps_ret (pe_lst pa_nil))))), ?_⟩
  cases t with
  | int n o =>
    unfold TmAt at ta
    obtain ⟨a, w, rfl, ea, og⟩ := ta
    have ea0 := sF _ _ ea
    refine ⟨_, rfl, a, _, 0, _, rfl, rfl, SqT.of ea0, at0, rfl, _, rfl, ?_⟩
    refine if_false_of (str_ne (by decide +kernel)) ?_
    refine ⟨_, rfl, a, _, 0, _, rfl, rfl, SqT.of ea0, at0, rfl, _, rfl, ?_⟩
    refine if_false_of (str_ne (by decide +kernel)) ?_
    refine ⟨_, rfl, a, _, 0, _, rfl, rfl, SqT.of ea0, at0, rfl, _, rfl, ?_⟩
    refine if_false_of (str_ne (by decide +kernel)) ?_
    exact ⟨by show 0 ≤ sizeLine; decide, fun p np => q _ p (same_new np _) np upd_same⟩
  | prim n o =>
    unfold TmAt at ta
    obtain ⟨a, w, rfl, ea, og⟩ := ta
    have ea0 := sF _ _ ea
    refine ⟨_, rfl, a, _, 0, _, rfl, rfl, SqT.of ea0, at0, rfl, _, rfl, ?_⟩
    refine if_false_of (str_ne (by decide +kernel)) ?_
    refine ⟨_, rfl, a, _, 0, _, rfl, rfl, SqT.of ea0, at0, rfl, _, rfl, ?_⟩
    refine if_false_of (str_ne (by decide +kernel)) ?_
    refine ⟨_, rfl, a, _, 0, _, rfl, rfl, SqT.of ea0, at0, rfl, _, rfl, ?_⟩
    refine if_false_of (str_ne (by decide +kernel)) ?_
    exact ⟨by show 0 ≤ sizeLine; decide, fun p np => q _ p (same_new np _) np upd_same⟩
  | ref i o =>
    unfold TmAt at ta
    obtain ⟨a, w, rfl, ea, og⟩ := ta
    have ea0 := sF _ _ ea
    refine ⟨_, rfl, a, _, 0, _, rfl, rfl, SqT.of ea0, at0, rfl, _, rfl, ?_⟩
    refine if_false_of (str_ne (by decide +kernel)) ?_
    refine ⟨_, rfl, a, _, 0, _, rfl, rfl, SqT.of ea0, at0, rfl, _, rfl, ?_⟩
    refine if_false_of (str_ne (by decide +kernel)) ?_
    refine ⟨_, rfl, a, _, 0, _, rfl, rfl, SqT.of ea0, at0, rfl, _, rfl, ?_⟩
    refine if_false_of (str_ne (by decide +kernel)) ?_
    exact ⟨by show 0 ≤ sizeLine; decide, fun p np => q _ p (same_new np _) np upd_same⟩
  | fn ids b o =>
    unfold TmAt at ta
    obtain ⟨a, l, u, w, rfl, ea, el, tb, og⟩ := ta
    have ea0 := sF _ _ ea
    refine ⟨_, rfl, a, _, 0, _, rfl, rfl, SqT.of ea0, at0, rfl, _, rfl, ?_⟩
    refine if_true_of str_eq ?_
    refine ⟨_, rfl, a, _, 1, _, rfl, rfl, SqT.of ea0, atI_nat (j := 1) rfl, ?_⟩
    exact ⟨l, _, rfl, .inl (SqL.of (sF _ _ el)), fun p np => q _ p (same_new np _) np upd_same⟩
  | rc i ids b o =>
    unfold TmAt at ta
    obtain ⟨a, l, u, w, rfl, ea, el, tb, og⟩ := ta
    have ea0 := sF _ _ ea
    refine ⟨_, rfl, a, _, 0, _, rfl, rfl, SqT.of ea0, at0, rfl, _, rfl, ?_⟩
    refine if_false_of (str_ne (by decide +kernel)) ?_
    refine ⟨_, rfl, a, _, 0, _, rfl, rfl, SqT.of ea0, at0, rfl, _, rfl, ?_⟩
    refine if_true_of str_eq ?_
    have hb1 : ids.length + 1 ≤ 2000 := hb
    refine ⟨_, rfl, a, _, 1, _, rfl, rfl, SqT.of ea0, atI_nat (j := 1) rfl, ?_⟩
    refine ⟨_, rfl, a, _, 2, _, rfl, rfl, SqT.of ea0, atI_nat (j := 2) rfl, ?_⟩
    refine ⟨l, _, rfl, .inr (SqL.of (sF _ _ el)), ?_⟩
    refine ⟨?_, fun p np => ?_⟩
    · show (V.int i :: (ids.map V.int ++ [])).length ≤ sizeLine
      rw [List.append_nil, List.length_cons, List.length_map]
      exact small (by omega)
    · refine q _ p (same_new np _) np ?_
      rw [upd_same, List.append_nil]
      rfl
  | lt i x b o =>
    unfold TmAt at ta
    obtain ⟨a, u1, u2, w, rfl, ea, t1, t2, og⟩ := ta
    have ea0 := sF _ _ ea
    refine ⟨_, rfl, a, _, 0, _, rfl, rfl, SqT.of ea0, at0, rfl, _, rfl, ?_⟩
    refine if_false_of (str_ne (by decide +kernel)) ?_
    refine ⟨_, rfl, a, _, 0, _, rfl, rfl, SqT.of ea0, at0, rfl, _, rfl, ?_⟩
    refine if_false_of (str_ne (by decide +kernel)) ?_
    refine ⟨_, rfl, a, _, 0, _, rfl, rfl, SqT.of ea0, at0, rfl, _, rfl, ?_⟩
    refine if_true_of str_eq ?_
    refine ⟨_, rfl, a, _, 1, _, rfl, rfl, SqT.of ea0, atI_nat (j := 1) rfl, ?_⟩
    exact ⟨by show 1 ≤ sizeLine; decide, fun p np => q _ p (same_new np _) np upd_same⟩
  | ite x y z o =>
    unfold TmAt at ta
    obtain ⟨a, u1, u2, u3, w, rfl, ea, t1, t2, t3, og⟩ := ta
    have ea0 := sF _ _ ea
    refine ⟨_, rfl, a, _, 0, _, rfl, rfl, SqT.of ea0, at0, rfl, _, rfl, ?_⟩
    refine if_false_of (str_ne (by decide +kernel)) ?_
    refine ⟨_, rfl, a, _, 0, _, rfl, rfl, SqT.of ea0, at0, rfl, _, rfl, ?_⟩
    refine if_false_of (str_ne (by decide +kernel)) ?_
    refine ⟨_, rfl, a, _, 0, _, rfl, rfl, SqT.of ea0, at0, rfl, _, rfl, ?_⟩
    refine if_false_of (str_ne (by decide +kernel)) ?_
    exact ⟨by show 0 ≤ sizeLine; decide, fun p np => q _ p (same_new np _) np upd_same⟩
  | app f xs o =>
    unfold TmAt at ta
    obtain ⟨a, u, l, us, w, rfl, ea, el, tf, tx, og⟩ := ta
    have ea0 := sF _ _ ea
    refine ⟨_, rfl, a, _, 0, _, rfl, rfl, SqT.of ea0, at0, rfl, _, rfl, ?_⟩
    refine if_false_of (str_ne (by decide +kernel)) ?_
    refine ⟨_, rfl, a, _, 0, _, rfl, rfl, SqT.of ea0, at0, rfl, _, rfl, ?_⟩
    refine if_false_of (str_ne (by decide +kernel)) ?_
    refine ⟨_, rfl, a, _, 0, _, rfl, rfl, SqT.of ea0, at0, rfl, _, rfl, ?_⟩
    refine if_false_of (str_ne (by decide +kernel)) ?_
    exact ⟨by show 0 ≤ sizeLine; decide, fun p np => q _ p (same_new np _) np upd_same⟩
  | pair x y o =>
    unfold TmAt at ta
    obtain ⟨a, u1, u2, w, rfl, ea, t1, t2, og⟩ := ta
    have ea0 := sF _ _ ea
    refine ⟨_, rfl, a, _, 0, _, rfl, rfl, SqT.of ea0, at0, rfl, _, rfl, ?_⟩
    refine if_false_of (str_ne (by decide +kernel)) ?_
    refine ⟨_, rfl, a, _, 0, _, rfl, rfl, SqT.of ea0, at0, rfl, _, rfl, ?_⟩
    refine if_false_of (str_ne (by decide +kernel)) ?_
    refine ⟨_, rfl, a, _, 0, _, rfl, rfl, SqT.of ea0, at0, rfl, _, rfl, ?_⟩
    refine if_false_of (str_ne (by decide +kernel)) ?_
    exact ⟨by show 0 ≤ sizeLine; decide, fun p np => q _ p (same_new np _) np upd_same⟩
end
end Sg

namespace Sg
open PySem PySem.Spec PyProof.Rows L2
/-! ### alike: the mathematics of one step -/
theorem kind_ne {a b : Tm} : decide (kind a = kind b) = true ∨ decide (kind a = kind b) = false := by
  cases decide (kind a = kind b) <;> simp
/-- the rest of a plain form, behind its kind -/
def kidD : List Int → Tm → List PyData
  | e, .fn ids b _ => [plD (e ++ ids) b]
  | e, .rc i ids b _ => [plD (e ++ (i :: ids)) b]
  | e, .lt i x b _ => [plD e x, plD (e ++ [i]) b]
  | e, t => plDs e (kids t)
theorem eqv_str {x y : Str} : PyData.eqv (.str x) (.str y) = (x == y) := by simp only [PyData.eqv]
theorem eqvAll_cons {a b : PyData} {xs ys : List PyData} : PyData.eqvAll (a :: xs) (b :: ys) = (PyData.eqv a b && PyData.eqvAll xs ys) := by simp only [PyData.eqvAll]
theorem eqvAll_app : ∀ {xs ys us vs : List PyData}, xs.length = ys.length → PyData.eqvAll (xs ++ us) (ys ++ vs) = (PyData.eqvAll xs ys && PyData.eqvAll us vs)
  | [], [], us, vs, _ => by simp [PyData.eqvAll]
  | x :: xs, y :: ys, us, vs, h => by
    show PyData.eqvAll (x :: (xs ++ us)) (y :: (ys ++ vs)) = _
    rw [eqvAll_cons, eqvAll_cons, eqvAll_app (by simpa using h), Bool.and_assoc]
  | [], y :: ys, _, _, h => by simp at h
  | x :: xs, [], _, _, h => by simp at h
theorem eqvAll_len : ∀ {xs ys : List PyData}, xs.length ≠ ys.length → PyData.eqvAll xs ys = false
  | [], [], h => absurd rfl h
  | x :: xs, y :: ys, h => by
    rw [eqvAll_cons, eqvAll_len (by simpa using h), Bool.and_false]
  | [], y :: ys, _ => by simp only [PyData.eqvAll]
  | x :: xs, [], _ => by simp only [PyData.eqvAll]
theorem eqv_tup {xs ys : List PyData} : PyData.eqv (.tuple xs) (.tuple ys) = PyData.eqvAll xs ys := by simp only [PyData.eqv]
theorem eqv_lst {xs ys : List PyData} : PyData.eqv (.list xs) (.list ys) = PyData.eqvAll xs ys := by simp only [PyData.eqv]
theorem eqv_int {x y : Int} : PyData.eqv (.int x) (.int y) = (x == y) := by simp only [PyData.eqv]
theorem eqvAll_nil : PyData.eqvAll [] [] = true := by simp only [PyData.eqvAll]
/-- a plain form: its kind, and what stands behind it -/
theorem plD_head : ∀ {e E : List Int} {t : Tm}, mok E t → (∀ i ∈ E, i ∈ e) → ∃ r, plD e t = .tuple (.str (kind t) :: r)
  | e, E, .int n o, _, _ => ⟨_, rfl⟩
  | e, E, .prim n o, _, _ => ⟨_, rfl⟩
  | e, E, .ref i o, h, hE => by
    simp only [mok] at h
    obtain ⟨k, hk⟩ := rix_of_mem (List.mem_reverse.mpr (hE i h.1))
    simp only [plD, hk]
    exact ⟨_, rfl⟩
  | e, E, .fn ids b o, _, _ => ⟨_, rfl⟩
  | e, E, .rc i ids b o, _, _ => ⟨_, rfl⟩
  | e, E, .lt i x b o, _, _ => ⟨_, rfl⟩
  | e, E, .ite x y z o, _, _ => ⟨_, rfl⟩
  | e, E, .app f xs o, _, _ => ⟨_, rfl⟩
  | e, E, .pair x y o, h, _ => by simp only [mok] at h
theorem node_kind {e1 e2 : List Int} {t1 t2 : Tm} (h1 : mok e1 t1) (h2 : mok e2 t2) (hk : kind t1 ≠ kind t2) : PyData.eqv (plD e1 t1) (plD e2 t2) = false := by
  obtain ⟨r1, q1⟩ := plD_head h1 fun i h => h
  obtain ⟨r2, q2⟩ := plD_head h2 fun i h => h
  rw [q1, q2, eqv_tup, eqvAll_cons, eqv_str, beq_eq_false_iff_ne.mpr hk, Bool.false_and]
theorem plDs_len (e : List Int) (ts : List Tm) : (plDs e ts).length = ts.length := plDs_length e ts
/-- of one kind: the numbers of parts and of bound numbers tell, then the parts -/
theorem node_same : ∀ {e1 e2 : List Int} {t1 t2 : Tm}, mok e1 t1 → mok e2 t2 → kind t1 = kind t2 → kids t1 ≠ [] →
    PyData.eqv (plD e1 t1) (plD e2 t2) = (decide ((kids t1).length = (kids t2).length ∧ (bnds t1).length = (bnds t2).length) && PyData.eqvAll (kidD e1 t1) (kidD e2 t2)) := by
  intro e1 e2 t1 t2 h1 h2 hk hn
  cases t1 <;> cases t2 <;> first
    | (simp only [kind] at hk; exact absurd hk (by decide +kernel))
    | exact absurd rfl hn
    | skip
  case fn.fn ids b o ids2 b2 o2 =>
    simp only [plD, eqv_tup, eqvAll_cons, eqv_str, eqv_int, eqvAll_nil, kidD, kids, bnds, beq_self_eq_true, Bool.true_and, Bool.and_true, List.length_cons, List.length_nil, true_and]
    congr 1
    by_cases z : ids.length = ids2.length
    · simp [z]
    · have : ¬ ((ids.length : Int) = ids2.length) := by omega
      simp [z, this]
  case rc.rc i ids b o i2 ids2 b2 o2 =>
    simp only [plD, eqv_tup, eqvAll_cons, eqv_str, eqv_int, eqvAll_nil, kidD, kids, bnds, beq_self_eq_true, Bool.true_and, Bool.and_true, List.length_cons, List.length_nil, true_and, List.append_assoc, List.cons_append, List.nil_append]
    congr 1
    by_cases z : ids.length = ids2.length
    · simp [z]
    · have : ¬ ((ids.length : Int) = ids2.length) := by omega
      simp [z, this]
  case lt.lt i x b o i2 x2 b2 o2 =>
    simp only [plD, eqv_tup, eqvAll_cons, eqv_str, eqv_int, eqvAll_nil, kidD, kids, bnds, beq_self_eq_true, Bool.true_and, Bool.and_true, List.length_cons, List.length_nil, and_self, decide_true]
  case ite.ite x y z o x2 y2 z2 o2 =>
    simp only [plD, plDs, eqv_tup, eqvAll_cons, eqv_str, eqv_int, eqvAll_nil, kidD, kids, bnds, beq_self_eq_true, Bool.true_and, Bool.and_true, List.length_cons, List.length_nil, and_self, decide_true]
  case app.app f xs o f2 xs2 o2 =>
    simp only [plD, plDs, eqv_tup, eqv_lst, eqvAll_cons, eqv_str, eqv_int, eqvAll_nil, kidD, kids, bnds, beq_self_eq_true, Bool.true_and, Bool.and_true, List.length_cons, List.length_nil, and_true]
    by_cases z : xs.length = xs2.length
    · simp [z]
    · have q := eqvAll_len (xs := plDs e1 xs) (ys := plDs e2 xs2) (by rw [plDs_len, plDs_len]; exact z)
      rw [q, Bool.and_false, Bool.and_false]
  case pair.pair x y o x2 y2 o2 => simp only [mok] at h1
theorem kids_kind : ∀ {t1 t2 : Tm}, kind t1 = kind t2 → kids t1 = [] → (kids t2).length = 0 ∧ (bnds t1).length = 0 ∧ (bnds t2).length = 0 := by
  intro t1 t2 hk hn
  cases t1 <;> cases t2 <;> first
    | (simp only [kind] at hk; exact absurd hk (by decide +kernel))
    | exact ⟨rfl, rfl, rfl⟩
    | (exfalso; cases hn)
/-- no bound numbers: all parts stand where the term stands -/
theorem kid_free : ∀ {e : List Int} {t : Tm}, mok e t → bnds t = [] → kidD e t = plDs e (kids t) ∧ moks e (kids t) := by
  intro e t h hb
  cases t with
  | int n o => exact ⟨rfl, by simp only [kids, moks]⟩
  | prim n o => exact ⟨rfl, by simp only [kids, moks]⟩
  | ref n o => exact ⟨rfl, by simp only [kids, moks]⟩
  | fn ids b o =>
    simp only [mok] at h
    have e0 : ids = [] := hb
    subst e0
    rw [List.append_nil] at h
    simp only [kidD, kids, plDs, List.append_nil, moks, and_true]
    exact ⟨trivial, h.2.2.1⟩
  | rc i ids b o => cases hb
  | lt i x b o => cases hb
  | ite x y z o =>
    simp only [mok] at h
    exact ⟨rfl, by simp only [kids, moks]; exact ⟨h.1, h.2.1, h.2.2.1, trivial⟩⟩
  | app f xs o =>
    simp only [mok] at h
    exact ⟨rfl, by simp only [kids, moks]; exact ⟨h.1, h.2.1⟩⟩
  | pair x y o => simp only [mok] at h
/-- bound numbers: the last part is the body -/
theorem kid_bound : ∀ {e : List Int} {t : Tm}, mok e t → bnds t ≠ [] → ∃ pre b, kids t = pre ++ [b] ∧ kidD e t = plDs e pre ++ [plD (e ++ bnds t) b] ∧ moks e pre ∧ mok (e ++ bnds t) b ∧ (bnds t).length ≤ 5 ∧ mht b + 1 ≤ mht t ∧ mhts pre + 1 ≤ mht t := by
  intro e t h hb
  cases t with
  | int n o => exact absurd rfl hb
  | prim n o => exact absurd rfl hb
  | ref n o => exact absurd rfl hb
  | fn ids b o =>
    simp only [mok] at h
    refine ⟨[], b, rfl, rfl, by simp only [moks], h.2.2.1, by show ids.length ≤ 5; omega, by simp only [mht]; omega, by simp only [mht, mhts]; omega⟩
  | rc i ids b o =>
    simp only [mok] at h
    refine ⟨[], b, rfl, rfl, by simp only [moks], ?_, by show ids.length + 1 ≤ 5; omega, by simp only [mht]; omega, by simp only [mht, mhts]; omega⟩
    have := h.2.2.2.1
    rw [List.append_assoc] at this
    exact this
  | lt i x b o =>
    simp only [mok] at h
    refine ⟨[x], b, rfl, rfl, by simp only [moks]; exact ⟨h.2.1, trivial⟩, h.2.2.1, by show 1 ≤ 5; omega, by simp only [mht]; omega, by simp only [mht, mhts]; omega⟩
  | ite x y z o => exact absurd rfl hb
  | app f xs o => exact absurd rfl hb
  | pair x y o => exact absurd rfl hb
theorem msz_kids : ∀ t : Tm, msz t = 1 + mszs (kids t) := fun t => by
  cases t <;> (simp only [msz, kids, mszs]; try omega)
theorem mht_kids : ∀ t : Tm, kids t ≠ [] → mhts (kids t) + 1 ≤ mht t := fun t h => by
  cases t <;> first
    | exact absurd rfl h
    | (simp only [mht, kids, mhts]; omega)
/-! ### labels -/
def Lab (e : List Int) (m : Int → Option Int) (L : List Int) : Prop := L.length = e.length ∧ ∀ i, m i = (rix e.reverse i).bind fun k => L.reverse[k]?
theorem Lab.nil : Lab [] (fun _ => none) [] := ⟨rfl, fun i => rfl⟩
theorem Lab.snoc {e L : List Int} {m : Int → Option Int} {i j : Int} (h : Lab e m L) : Lab (e ++ [i]) (upM m i j) (L ++ [j]) := by
  refine ⟨by simp [h.1], fun x => ?_⟩
  rw [List.reverse_append, List.reverse_append]
  show upM m i j x = (rix (i :: e.reverse) x).bind fun k => (j :: L.reverse)[k]?
  unfold upM rix
  by_cases z : x = i
  · rw [if_pos z, if_pos z.symm]
    rfl
  · rw [if_neg z, if_neg (fun w => z w.symm), h.2 x]
    cases rix e.reverse x with
    | none => rfl
    | some k => rfl
def upMs : (Int → Option Int) → List Int → Int → (Int → Option Int)
  | m, [], _ => m
  | m, i :: r, s => upMs (upM m i s) r (s + 1)
def from_ : Int → Nat → List Int
  | _, 0 => []
  | s, n + 1 => s :: from_ (s + 1) n
theorem Lab.many : ∀ {ids e L : List Int} {m : Int → Option Int} {s : Int}, Lab e m L → Lab (e ++ ids) (upMs m ids s) (L ++ from_ s ids.length)
  | [], e, L, m, s, h => by
    simp only [upMs, List.length_nil, from_, List.append_nil]
    exact h
  | i :: r, e, L, m, s, h => by
    have q := Lab.many (ids := r) (s := s + 1) (h.snoc (i := i) (j := s))
    simp only [upMs, List.length_cons, from_]
    rw [List.append_assoc, List.append_assoc] at q
    exact q
theorem from_mem : ∀ {n : Nat} {s x : Int}, x ∈ from_ s n → s ≤ x ∧ x < s + (n : Nat)
  | 0, s, x, h => by cases h
  | n + 1, s, x, h => by
    rcases List.mem_cons.mp h with e | e
    · omega
    · have := from_mem (n := n) e
      omega
theorem from_nodup : ∀ {n : Nat} {s : Int}, (from_ s n).Nodup
  | 0, s => List.nodup_nil
  | n + 1, s => List.nodup_cons.mpr ⟨fun h => by have := from_mem h; omega, from_nodup⟩
theorem rix_lt : ∀ {l : List Int} {i : Int} {k : Nat}, rix l i = some k → k < l.length
  | [], i, k, h => by cases h
  | a :: r, i, k, h => by
    unfold rix at h
    by_cases z : a = i
    · rw [if_pos z] at h
      cases h
      rw [List.length_cons]
      omega
    · rw [if_neg z] at h
      cases q : rix r i with
      | none =>
        rw [q] at h
        cases h
      | some k2 =>
        rw [q] at h
        have e : k2 + 1 = k := Option.some.inj h
        have := rix_lt q
        rw [List.length_cons]
        omega
theorem leaf_ref {e1 e2 L : List Int} {m1 m2 : Int → Option Int} {i j : Int} {o1 o2 : Og} (l1 : Lab e1 m1 L) (l2 : Lab e2 m2 L) (nd : L.Nodup) (h1 : i ∈ e1) (h2 : j ∈ e2) :
    ∃ a b, m1 i = some a ∧ m2 j = some b ∧ PyData.eqv (plD e1 (.ref i o1)) (plD e2 (.ref j o2)) = decide (a = b) := by
  obtain ⟨k1, q1⟩ := rix_of_mem (List.mem_reverse.mpr h1)
  obtain ⟨k2, q2⟩ := rix_of_mem (List.mem_reverse.mpr h2)
  have b1 : k1 < L.reverse.length := by
    have := rix_lt q1
    rw [List.length_reverse] at this ⊢
    rw [l1.1]
    exact this
  have b2 : k2 < L.reverse.length := by
    have := rix_lt q2
    rw [List.length_reverse] at this ⊢
    rw [l2.1]
    exact this
  refine ⟨L.reverse[k1], L.reverse[k2], ?_, ?_, ?_⟩
  · rw [l1.2, q1]
    exact List.getElem?_eq_getElem b1
  · rw [l2.2, q2]
    exact List.getElem?_eq_getElem b2
  · simp only [plD, q1, q2, eqv_tup, eqvAll_cons, eqv_str, eqv_int, eqvAll_nil, beq_self_eq_true, Bool.true_and, Bool.and_true]
    have nd' : L.reverse.Nodup := by
      unfold List.Nodup
      rw [List.pairwise_reverse]
      exact nd.imp fun h => h.symm
    by_cases z : k1 = k2
    · subst z
      simp
    · have h3 : L.reverse[k1] ≠ L.reverse[k2] := fun w => z ((List.getElem_inj nd').mp w)
      have h4 : ¬ ((k1 : Int) = k2) := by omega
      rw [decide_eq_false h3]
      exact beq_eq_false_iff_ne.mpr h4
end Sg

namespace Sg
open PySem PySem.Spec PyProof.Rows L2
/-! ### bound_to, same_leaf -/
def spBoundTo : Sp := fun vs H Q _ => ∃ (d l : Addr) (kvs : List (Key × V)) (m : Int → Option Int) (ids : List Int) (s : Int), vs = [.ref d, .ref l, .int s] ∧ H d = some (.dK kvs) ∧ DV kvs m ∧ H l = some (.lst (ids.map V.int)) ∧ kvs.length + ids.length ≤ 1000 ∧
  ∀ H' p kvs', Same H H' → H p = none → H' p = some (.dK kvs') → DV kvs' (upMs m ids s) → kvs'.length ≤ kvs.length + ids.length → Q (.ref p) H'
theorem scBoundTo : FnScope ["around", "variables", "start", "larger", "at", "variable"] ["around", "variables", "start"] (defScope cBoundTo) := ⟨rfl, rfl, rfl, by decide +kernel, rfl, by decide +kernel, by decide +kernel⟩
theorem upMs_snoc : ∀ {r : List Int} {m : Int → Option Int} {s i : Int}, upMs m (r ++ [i]) s = upM (upMs m r s) i (s + (r.length : Nat))
  | [], m, s, i => by
    simp only [List.nil_append, upMs, List.length_nil]
    congr 1
    omega
  | x :: r, m, s, i => by
    show upMs (upM m x s) (r ++ [i]) (s + 1) = _
    rw [upMs_snoc]
    show upM (upMs (upM m x s) r (s + 1)) i _ = upM (upMs (upM m x s) r (s + 1)) i _
    congr 1
    rw [List.length_cons]
    omega
section
variable {P : Program} {w : World} {K : PySem.W.Frag} {mg : Str → Option Value} {base : Heap}
theorem ok_boundTo {f : Addr} {fd : FuncData} {k : Nat} (F : Fun K "bound_to" "bound_to" cBoundTo f fd) (md : mg "dict" = none) (me : mg "enumerate" = none) : FnOk P w K mg base CX0 (k + 1) f fd ["around", "variables", "start"] spBoundTo := by
  refine F.ok scBoundTo (fun vs H Q E h => ?_) (fun cdv A outer st H vs Q E hr h => ?_)
  · obtain ⟨d, l, kvs, m, ids, s, rfl, _⟩ := h
    rfl
  obtain ⟨d, l, kvs, m, ids, s, rfl, hd, dv, hl, hb, q⟩ := h
  have hu : (A.deeper (envOfC "bound_to" (defScope cBoundTo) st.heap.objs.size f cdv)).units + 1 < cLine := by
    have := hr.units
    omega
  refine ⟨_, pss_cons (ps_set (i := 3) scBoundTo.nd rfl (.inl rfl) (pe_callTy call_dictD (by rfl) md boot_dict (pa_cons (pv 0) pa_nil)))
    (pss_cons (ps_for PassesOwn.never rfl (pi_enum (by rfl) me (pa_cons (pv 1) pa_nil)) (pg_tup rfl (pgs_cons (pg_name (i := 4) scBoundTo.nd rfl (.inl rfl)) (pgs_cons (pg_name (i := 5) scBoundTo.nd rfl (.inl rfl)) pgs_nil)))
      (pss_one (ps_dput hu (pv 3) (pv 5) (pe_op op_add (pv 2) (pv 4)) (by rfl))))
    (pss_one (ps_ret (pv 3)))), ?_⟩
  refine ⟨_, rfl, d, kvs, rfl, .inl hd, fun p np => ?_⟩
  have sm1 : Same H (upd H p (.dK kvs)) := same_new np _
  have ep1 : (upd H p (.dK kvs)) p = some (.dK kvs) := upd_same
  generalize upd H p (.dK kvs) = H1 at sm1 ep1
  have hl1 := sm1 _ _ hl
  refine ⟨_, rfl, l, _, rfl, SqL.of hl1, ?_⟩
  refine for_it (walk_enum (K := K) (a := l) (xs := ids.map V.int)) (fun i σ H' => ∃ (y4 y5 : Option V) (kI : List (Key × V)), σ = [some (.ref d), some (.ref l), some (.int s), some (.ref p), y4, y5] ∧ Same H H' ∧ H' p = some (.dK kI) ∧ DV kI (upMs m (ids.take i) s) ∧ kI.length ≤ kvs.length + i)
    ⟨none, none, kvs, rfl, sm1, ep1, by rw [List.take_zero]; exact dv, Nat.le_refl _⟩ (fun i σ H' _ ⟨_, _, _, _, sm, _⟩ => SqL.of (sm _ _ hl)) ?_ ?_
  · rintro i x σ H' H'' hi ⟨y4, y5, kI, rfl, sm, eI, dI, lI⟩ ⟨T, x1, x2, rfl, nT, rfl, e1, e2⟩
    cases e1
    obtain ⟨z, hz, rfl⟩ := get_map e2
    have hlen : i < ids.length := by rw [List.length_map] at hi; exact hi
    refine ⟨T, _, rfl, SqT.of upd_same, rfl, ?_⟩
    have pT : p ≠ T := fun e => by
      rw [e, nT] at eI
      cases eI
    refine ⟨_, _, rfl, _, _, rfl, rfl, ?_⟩
    refine ⟨_, rfl, _, rfl, _, _, rfl, rfl, _, rfl, _, rfl, p, _, rfl, DPut.k (k := (Sum.inl z : Key)) (by rw [upd_ne pT]; exact eI) (smallL (by omega)), ?_⟩
    refine ⟨_, _, _, rfl, fun b o e => ?_, upd_same, ?_, ?_⟩
    · rw [upd_ne (fun w => by rw [w, np] at e; cases e)]
      exact same_new nT _ _ _ (sm _ _ e)
    · rw [List.take_add_one, hz]
      show DV _ (upMs m (ids.take i ++ [z]) s)
      rw [upMs_snoc, List.length_take, Nat.min_eq_left (by omega)]
      exact dI.put
    · exact Nat.le_trans (length_putK kI (Sum.inl z : Key) _) (by omega)
  · rintro σ H' ⟨y4, y5, kI, rfl, sm, eI, dI, lI⟩
    rw [List.length_map] at dI lI
    rw [List.take_length] at dI
    exact ⟨_, rfl, q _ p kI sm np eI dI lI⟩
theorem leaf_int {e1 e2 : List Int} {n m : Int} {o1 o2 : Og} : decide (V.int n = V.int m) = PyData.eqv (plD e1 (.int n o1)) (plD e2 (.int m o2)) := by
  simp only [plD, eqv_tup, eqvAll_cons, eqv_str, eqv_int, eqvAll_nil, beq_self_eq_true, Bool.true_and, Bool.and_true]
  by_cases z : n = m
  · rw [z, decide_eq_true rfl, beq_self_eq_true]
  · rw [beq_eq_false_iff_ne.mpr z, decide_eq_false fun w => z (by injection w)]
theorem leaf_prim {e1 e2 : List Int} {n m : Str} {o1 o2 : Og} : decide (V.str n = V.str m) = PyData.eqv (plD e1 (.prim n o1)) (plD e2 (.prim m o2)) := by
  simp only [plD, eqv_tup, eqvAll_cons, eqv_str, eqv_int, eqvAll_nil, beq_self_eq_true, Bool.true_and, Bool.and_true]
  by_cases z : n = m
  · rw [z, decide_eq_true rfl, beq_self_eq_true]
  · rw [beq_eq_false_iff_ne.mpr z, decide_eq_false fun w => z (by injection w)]
def spLeaf : Sp := fun vs H Q _ => ∃ (F : Hp) (t1 t2 : Tm) (v1 v2 : V) (d1 d2 : Addr) (k1 k2 : List (Key × V)) (m1 m2 : Int → Option Int) (e1 e2 L : List Int), vs = [v1, .ref d1, v2, .ref d2] ∧ Same F H ∧ TmAt F t1 v1 ∧ TmAt F t2 v2 ∧ H d1 = some (.dK k1) ∧ DV k1 m1 ∧ H d2 = some (.dK k2) ∧ DV k2 m2 ∧
  Lab e1 m1 L ∧ Lab e2 m2 L ∧ L.Nodup ∧ mok e1 t1 ∧ mok e2 t2 ∧ kind t1 = kind t2 ∧ kids t1 = [] ∧
  ∀ H', Same H H' → Q (.bl (PyData.eqv (plD e1 t1) (plD e2 t2))) H'
theorem scLeaf : FnScope ["one", "around_one", "other", "around_other", "binding"] ["one", "around_one", "other", "around_other"] (defScope cSameLeaf) := ⟨rfl, rfl, rfl, by decide +kernel, rfl, by decide +kernel, by decide +kernel⟩
theorem ok_leaf {f : Addr} {fd : FuncData} {k : Nat} (F : Fun K "same_leaf" "same_leaf" cSameLeaf f fd) : FnOk P w K mg base CX0 (k + 1) f fd ["one", "around_one", "other", "around_other"] spLeaf := by
  refine F.ok scLeaf (fun vs H Q E h => ?_) (fun cdv A outer st H vs Q E hr h => ?_)
  · obtain ⟨F, t1, t2, v1, v2, d1, d2, k1, k2, m1, m2, e1, e2, L, rfl, _⟩ := h
    rfl
  obtain ⟨Fh, t1, t2, v1, v2, d1, d2, k1, k2, m1, m2, e1, e2, L, rfl, sF, a1, a2, hd1, dv1, hd2, dv2, l1, l2, ndL, o1, o2, hk, hn, q⟩ := h
  have hu : (A.deeper (envOfC "same_leaf" (defScope cSameLeaf) st.heap.objs.size f cdv)).units + 1 < cLine := by
    have := hr.units
    omega
  refine ⟨_, pss_cons (ps_if (pt_cmpR op_ne (pe_ix ix_tup (pv 0) pe_int (fun _ _ => rfl)) pe_str (nomark _)) (pss_one (ps_ret (pe_cmpR op_eq (pe_ix ix_tup (pv 0) pe_int (fun _ _ => rfl)) (pe_ix ix_tup (pv 2) pe_int (fun _ _ => rfl)) (nomark _)))) pss_nil)
    (pss_cons (ps_set (i := 4) scLeaf.nd rfl (.inl rfl) (pe_dget1 hu (pv 1) (pe_ix ix_tup (pv 0) pe_int (fun _ _ => rfl)) ⟨rfl, rfl, rfl, rfl⟩))
    (pss_cons (ps_if (pw_and (pt_cmpR op_isN (pv 4) pe_non (nomark _)) (pw_and1 (pt_cmpR op_isN (pe_dget1 hu (pv 3) (pe_ix ix_tup (pv 2) pe_int (fun _ _ => rfl)) ⟨rfl, rfl, rfl, rfl⟩) pe_non (nomark _)))).pt (pss_one (ps_ret (pe_cmpR op_eq (pe_ix ix_tup (pv 0) pe_int (fun _ _ => rfl)) (pe_ix ix_tup (pv 2) pe_int (fun _ _ => rfl)) (nomark _)))) pss_nil)
    (pss_one (ps_ret (pe_cmpR op_eq (pv 4) (pe_dget1 hu (pv 3) (pe_ix ix_tup (pv 2) pe_int (fun _ _ => rfl)) ⟨rfl, rfl, rfl, rfl⟩) (nomark _)))))), ?_⟩
  cases t1 with
  | int n o =>
    cases t2 with
    | int n2 og2 =>
      unfold TmAt at a1 a2
      obtain ⟨a, w, rfl, ea, og⟩ := a1
      obtain ⟨b, x, rfl, eb, og2⟩ := a2
      have ea0 := sF _ _ ea
      have eb0 := sF _ _ eb
      refine ⟨_, rfl, a, _, 0, _, rfl, rfl, SqT.of ea0, at0, rfl, _, rfl, ?_⟩
      refine if_true_of (by decide +kernel) ?_
      refine ⟨_, rfl, a, _, 1, _, rfl, rfl, SqT.of ea0, at1, ?_⟩
      refine ⟨_, rfl, b, _, 1, _, rfl, rfl, SqT.of eb0, at1, ?_⟩
      refine ⟨rfl, ?_⟩
      rw [leaf_int]
      exact q H (Same.refl H)
    | _ => exact absurd hk (by simp only [kind]; decide +kernel)
  | prim n o =>
    cases t2 with
    | prim n2 og2 =>
      unfold TmAt at a1 a2
      obtain ⟨a, w, rfl, ea, og⟩ := a1
      obtain ⟨b, x, rfl, eb, og2⟩ := a2
      have ea0 := sF _ _ ea
      have eb0 := sF _ _ eb
      refine ⟨_, rfl, a, _, 0, _, rfl, rfl, SqT.of ea0, at0, rfl, _, rfl, ?_⟩
      refine if_true_of (by decide +kernel) ?_
      refine ⟨_, rfl, a, _, 1, _, rfl, rfl, SqT.of ea0, at1, ?_⟩
      refine ⟨_, rfl, b, _, 1, _, rfl, rfl, SqT.of eb0, at1, ?_⟩
      refine ⟨rfl, ?_⟩
      rw [leaf_prim]
      exact q H (Same.refl H)
    | _ => exact absurd hk (by simp only [kind]; decide +kernel)
  | ref i o =>
    cases t2 with
    | ref j og2 =>
      unfold TmAt at a1 a2
      obtain ⟨a, w, rfl, ea, ogg1⟩ := a1
      obtain ⟨b, x, rfl, eb, ogg2⟩ := a2
      have ea0 := sF _ _ ea
      have eb0 := sF _ _ eb
      simp only [mok] at o1 o2
      obtain ⟨x1, x2, em1, em2, ev⟩ := leaf_ref (o1 := o) (o2 := og2) l1 l2 ndL o1.1 o2.1
      rw [ev] at q
      have g1 : DGet H d1 (.int i) (some (.int x1)) := .inl ⟨k1, Sum.inl i, .inl hd1, rfl, by rw [dv1.1 i, em1]; rfl⟩
      have g2 : DGet H d2 (.int j) (some (.int x2)) := .inl ⟨k2, Sum.inl j, .inl hd2, rfl, by rw [dv2.1 j, em2]; rfl⟩
      refine ⟨_, rfl, a, _, 0, _, rfl, rfl, SqT.of ea0, at0, rfl, _, rfl, ?_⟩
      refine if_false_of (by decide +kernel) ?_
      refine ⟨_, rfl, d1, rfl, .inl ⟨k1, .inl hd1⟩, _, rfl, a, _, 1, _, rfl, rfl, SqT.of ea0, at1, _, g1, ?_⟩
      refine ⟨_, rfl, rfl, _, rfl, ?_⟩
      refine if_false_of rfl ?_
      refine if_false_of rfl ?_
      refine ⟨_, rfl, _, rfl, d2, rfl, .inl ⟨k2, .inl hd2⟩, _, rfl, b, _, 1, _, rfl, rfl, SqT.of eb0, at1, _, g2, rfl, ?_⟩
      show Q (.bl (decide (V.int x1 = V.int x2))) H
      have : decide (V.int x1 = V.int x2) = decide (x1 = x2) := by
        by_cases z : x1 = x2
        · rw [z, decide_eq_true rfl, decide_eq_true rfl]
        · rw [decide_eq_false z, decide_eq_false fun w => z (by injection w)]
      rw [this]
      exact q H (Same.refl H)
    | _ => exact absurd hk (by simp only [kind]; decide +kernel)
  | _ => cases hn
end
end Sg

namespace Sg
open PySem PySem.Spec PyProof.Rows L2
/-! ### alike -/
structure Tk where
  t1 : Tm
  t2 : Tm
  m1 : Int → Option Int
  m2 : Int → Option Int
  e1 : List Int
  e2 : List Int
  L : List Int
def tkEq (k : Tk) : Bool := PyData.eqv (plD k.e1 k.t1) (plD k.e2 k.t2)
def allEq : List Tk → Bool
  | [] => true
  | k :: r => tkEq k && allEq r
def tkSz : List Tk → Nat
  | [] => 0
  | k :: r => msz k.t1 + tkSz r
theorem tkSz_len : ∀ st : List Tk, st.length ≤ tkSz st
  | [] => Nat.le_refl _
  | k :: r => by
    have := tkSz_len r
    have := msz_pos k.t1
    simp only [tkSz, List.length_cons]
    omega
structure TkOk (B : Int) (k : Tk) : Prop where
  l1 : Lab k.e1 k.m1 k.L
  l2 : Lab k.e2 k.m2 k.L
  nd : k.L.Nodup
  lb : ∀ x ∈ k.L, x < B
  o1 : mok k.e1 k.t1
  o2 : mok k.e2 k.t2
  dp : k.e1.length + 10 * mht k.t1 ≤ 200
  sz : msz k.t2 ≤ 121
def TkAt (Fh Hh : Hp) (B : Int) (k : Tk) (v : V) : Prop := ∃ a v1 d1 v2 d2 k1 k2, v = .ref a ∧ Hh a = some (.tup [v1, .ref d1, v2, .ref d2]) ∧ TmAt Fh k.t1 v1 ∧ TmAt Fh k.t2 v2 ∧ Hh d1 = some (.dK k1) ∧ DV k1 k.m1 ∧ Hh d2 = some (.dK k2) ∧ DV k2 k.m2 ∧ k1.length ≤ k.e1.length ∧ k2.length ≤ k.e2.length ∧ TkOk B k
theorem TkAt.same {Fh Hh Hh' : Hp} {B B' : Int} {k : Tk} {v : V} (e : Same Hh Hh') (b : B ≤ B') (h : TkAt Fh Hh B k v) : TkAt Fh Hh' B' k v := by
  obtain ⟨a, v1, d1, v2, d2, k1, k2, h1, h2, h3, h4, h5, h6, h7, h8, h9, h10, h11⟩ := h
  exact ⟨a, v1, d1, v2, d2, k1, k2, h1, e _ _ h2, h3, h4, e _ _ h5, h6, e _ _ h7, h8, h9, h10, ⟨h11.l1, h11.l2, h11.nd, fun x hx => Int.lt_of_lt_of_le (h11.lb x hx) b, h11.o1, h11.o2, h11.dp, h11.sz⟩⟩
inductive TksAt (Fh Hh : Hp) (B : Int) : List Tk → List V → Prop where
  | nil : TksAt Fh Hh B [] []
  | cons {k v st vs} : TkAt Fh Hh B k v → TksAt Fh Hh B st vs → TksAt Fh Hh B (k :: st) (v :: vs)
theorem TksAt.same {Fh Hh Hh' : Hp} {B B' : Int} (e : Same Hh Hh') (b : B ≤ B') : ∀ {st : List Tk} {vs : List V}, TksAt Fh Hh B st vs → TksAt Fh Hh' B' st vs
  | _, _, .nil => .nil
  | _, _, .cons h r => .cons (h.same e b) (r.same e b)
theorem TksAt.len {Fh Hh : Hp} {B : Int} : ∀ {st : List Tk} {vs : List V}, TksAt Fh Hh B st vs → vs.length = st.length
  | _, _, .nil => rfl
  | _, _, .cons h r => by rw [List.length_cons, List.length_cons, r.len]
theorem TmAt.head {F : Hp} : ∀ {t : Tm} {v : V}, TmAt F t v → ∃ a r, v = .ref a ∧ F a = some (.tup (.str (kind t) :: r)) := by
  intro t v h
  cases t <;> (unfold TmAt at h; first
    | (obtain ⟨a, w, h1, h2, _⟩ := h; exact ⟨a, _, h1, h2⟩)
    | (obtain ⟨a, l, u, w, h1, h2, _⟩ := h; exact ⟨a, _, h1, h2⟩)
    | (obtain ⟨a, u, l, vs, w, h1, h2, _⟩ := h; exact ⟨a, _, h1, h2⟩)
    | (obtain ⟨a, u1, u2, u3, w, h1, h2, _⟩ := h; exact ⟨a, _, h1, h2⟩))
theorem bnds_few {e : List Int} {t : Tm} (h : mok e t) : (bnds t).length ≤ 5 := by
  by_cases z : bnds t = []
  · rw [z]
    decide
  · obtain ⟨_, _, _, _, _, _, h5, _⟩ := kid_bound h z
    exact h5
theorem kids_few {t : Tm} {n : Nat} (h : msz t ≤ n) : (kids t).length < n := by
  have := msz_kids t
  have := len_mszs (kids t)
  omega
theorem rm1 {u a : Addr} {H : Hp} {o : HO} (n : a ≠ u) (h : H a = some o) : rmL [u] H a = some o := rm_in (by simp [n]) h
theorem rm_put {u : Addr} {H : Hp} {o : HO} : rmL [u] (upd H u o) = rmL [u] H := by
  funext a
  unfold rmL
  by_cases z : a = u
  · rw [if_pos (by simp [z]), if_pos (by simp [z])]
  · rw [if_neg (by simp [z]), if_neg (by simp [z]), upd_ne z]
theorem Same.rm {bs : List Addr} {H H' : Hp} (e : Same H H') : Same (rmL bs H) (rmL bs H') := fun x o q => by
  have z := rm_of q
  exact rm_in z.1 (e _ _ z.2)
theorem mszs_take (ts : List Tm) (i : Nat) : mszs (ts.take i) ≤ mszs ts := by
  have := mszs_app (ts.take i) (ts.drop i)
  rw [List.take_append_drop] at this
  omega
theorem atI_neg1 {xs : List V} {n : Nat} {v : V} (h : xs.length = n + 1) (e : xs[n]? = some v) : atI xs (-1) = some v := by
  unfold atI ixN
  rw [h, if_neg (by decide), if_pos (by omega)]
  show xs[_]? = some v
  rw [← e]
  congr 1
  omega
theorem scAlike : FnScope ["first", "second", "bindings", "tasks", "one", "around_one", "other", "around_other", "inner_one", "inner_other", "bound_one", "bound_other", "outside", "at", "within_one", "within_other"] ["first", "second"] (defScope cAlike) := ⟨rfl, rfl, rfl, by decide +kernel, rfl, by decide +kernel, by decide +kernel⟩
section
variable {P : Program} {w : World} {K : PySem.W.Frag} {mg : Str → Option Value} {base : Heap}
theorem ok_alike {f fI fB fL fT : Addr} {fd fdI fdB fdL fdT : FuncData} {k : Nat} (F : Fun K "alike" "alike" cAlike f fd)
    (GI : FnOk P w K mg base CX0 k fI fdI ["term"] spKids) (bI : Binds K fdI ["term"] []) (kI : PySem.W.keepIn K (.ref fI) = true) (mI : mg "inner_terms" = some (.ref fI))
    (GB : FnOk P w K mg base CX0 k fB fdB ["term"] spBnds) (bB : Binds K fdB ["term"] []) (kB : PySem.W.keepIn K (.ref fB) = true) (mB : mg "bound_in_body" = some (.ref fB))
    (GL : FnOk P w K mg base CX0 k fL fdL ["one", "around_one", "other", "around_other"] spLeaf) (bL : Binds K fdL ["one", "around_one", "other", "around_other"] []) (kL : PySem.W.keepIn K (.ref fL) = true) (mL : mg "same_leaf" = some (.ref fL))
    (GT : FnOk P w K mg base CX0 k fT fdT ["around", "variables", "start"] spBoundTo) (bT : Binds K fdT ["around", "variables", "start"] []) (kT : PySem.W.keepIn K (.ref fT) = true) (mT : mg "bound_to" = some (.ref fT))
    (ml : mg "len" = none) (mr : mg "range" = none) : FnOk P w K mg base CX0 (k + 1) f fd ["first", "second"] spAlike := by
  refine F.ok scAlike (fun vs H Q E h => ?_) (fun cdv A outer st H vs Q E hr h => ?_)
  · obtain ⟨F, t1, t2, v1, v2, rfl, _⟩ := h
    rfl
  obtain ⟨Fh, t1, t2, v1, v2, rfl, sF, ta1, ta2, ok1, ok2, ht1, ht2, hz1, hz2, q⟩ := h
  refine ⟨_, pss_cons (ps_set (i := 2) scAlike.nd rfl (.inl rfl) pe_int)
    (pss_cons (ps_set (i := 3) scAlike.nd rfl (.inl rfl) (pe_lst (pa_cons (pe_tup (pa_cons (pv 0) (pa_cons pe_dnewK (pa_cons (pv 1) (pa_cons pe_dnewK pa_nil))))) pa_nil)))
    (pss_cons (ps_while PassesOwn.never (pt_truth (pv 3) (fun _ => by rfl))
      (pss_cons (ps_asg (pe_bm0 PySem.F.plainAttrs_list PySem.F.slot_list_pop PySem.F.type_list_pop mt_pop (pv 3)) (pg_tup rfl (pgs_cons (pg_name (i := 4) scAlike.nd rfl (.inl rfl)) (pgs_cons (pg_name (i := 5) scAlike.nd rfl (.inl rfl)) (pgs_cons (pg_name (i := 6) scAlike.nd rfl (.inl rfl)) (pgs_cons (pg_name (i := 7) scAlike.nd rfl (.inl rfl)) pgs_nil))))))
      (pss_cons (ps_set (i := 8) scAlike.nd rfl (.inl rfl) (pe_call GI hr (by rfl) mI kI bI .nil pass0 (pa_cons (pv 4) pa_nil)))
      (pss_cons (ps_set (i := 9) scAlike.nd rfl (.inl rfl) (pe_call GI hr (by rfl) mI kI bI .nil pass0 (pa_cons (pv 6) pa_nil)))
      (pss_cons (ps_set (i := 10) scAlike.nd rfl (.inl rfl) (pe_call GB hr (by rfl) mB kB bB .nil pass0 (pa_cons (pv 4) pa_nil)))
      (pss_cons (ps_set (i := 11) scAlike.nd rfl (.inl rfl) (pe_call GB hr (by rfl) mB kB bB .nil pass0 (pa_cons (pv 6) pa_nil)))
      (pss_cons (ps_if (pw_or (pt_cmpR op_ne (pe_ix ix_tup (pv 4) pe_int (fun _ _ => rfl)) (pe_ix ix_tup (pv 6) pe_int (fun _ _ => rfl)) (nomark _))
          (pw_or (pt_cmpR op_ne (pe_callB call_len_seq (by rfl) ml PySem.boot_len (pa_cons (pv 8) pa_nil)) (pe_callB call_len_seq (by rfl) ml PySem.boot_len (pa_cons (pv 9) pa_nil)) (nomark _))
          (pw_or1 (pt_cmpR op_ne (pe_callB call_len_seq (by rfl) ml PySem.boot_len (pa_cons (pv 10) pa_nil)) (pe_callB call_len_seq (by rfl) ml PySem.boot_len (pa_cons (pv 11) pa_nil)) (nomark _))))).pt (pss_one (ps_ret pe_bl)) pss_nil)
      (pss_cons (ps_if (pw_and (pt_not (pt_truth (pv 8) (fun _ => by rfl))) (pw_and1 (pt_not (pt_val (pe_call GL hr (by rfl) mL kL bL .nil pass0 (pa_cons (pv 4) (pa_cons (pv 5) (pa_cons (pv 6) (pa_cons (pv 7) pa_nil))))))))).pt (pss_one (ps_ret pe_bl)) pss_nil)
      (pss_cons (ps_set (i := 12) scAlike.nd rfl (.inl rfl) (pe_ifExp (pt_truth (pv 10) (fun _ => by rfl)) (pe_op op_sub (pe_callB call_len_seq (by rfl) ml PySem.boot_len (pa_cons (pv 8) pa_nil)) pe_int) (pe_callB call_len_seq (by rfl) ml PySem.boot_len (pa_cons (pv 8) pa_nil))))
      (pss_cons (ps_for PassesOwn.never rfl (pi_range1 (by rfl) mr (pa_cons (pv 12) pa_nil)) (pg_name (i := 13) scAlike.nd rfl (.inl rfl))
        (pss_one (ps_expr (pe_bm PySem.F.plainAttrs_list PySem.F.slot_list_append PySem.F.type_list_append mt_append (pv 3) (pa_cons (pe_tup (pa_cons (pe_ix ix_list (pv 8) (pv 13) (fun _ _ => rfl)) (pa_cons (pv 5) (pa_cons (pe_ix ix_list (pv 9) (pv 13) (fun _ _ => rfl)) (pa_cons (pv 7) pa_nil))))) pa_nil)))))
      (pss_one (ps_if (pt_truth (pv 10) (fun _ => by rfl))
        (pss_cons (ps_set (i := 14) scAlike.nd rfl (.inl rfl) (pe_call GT hr (by rfl) mT kT bT .nil pass0 (pa_cons (pv 5) (pa_cons (pv 10) (pa_cons (pv 2) pa_nil)))))
        (pss_cons (ps_set (i := 15) scAlike.nd rfl (.inl rfl) (pe_call GT hr (by rfl) mT kT bT .nil pass0 (pa_cons (pv 7) (pa_cons (pv 11) (pa_cons (pv 2) pa_nil)))))
        (pss_cons (ps_expr (pe_bm PySem.F.plainAttrs_list PySem.F.slot_list_append PySem.F.type_list_append mt_append (pv 3) (pa_cons (pe_tup (pa_cons (pe_ix ix_list (pv 8) (pe_un un_neg pe_int) (fun _ _ => rfl)) (pa_cons (pv 14) (pa_cons (pe_ix ix_list (pv 9) (pe_un un_neg pe_int) (fun _ _ => rfl)) (pa_cons (pv 15) pa_nil))))) pa_nil)))
        (pss_one (ps_aug (i := 2) scAlike.nd rfl (.inl rfl) (pe_callB call_len_seq (by rfl) ml PySem.boot_len (pa_cons (pv 10) pa_nil)) ip_add)))))
        pss_nil))))))))))))
    (pss_one (ps_ret pe_bl)))), ?_⟩
  refine ⟨_, rfl, fun d1 nd1 => ?_⟩
  refine ⟨_, rfl, fun d2 nd2 => ?_⟩
  refine ⟨by show 4 ≤ sizeLine; decide, fun a na => ?_⟩
  refine ⟨by show 1 ≤ sizeLine; decide, fun u nu => ?_⟩
  have sa1 : Same H (upd H d1 (.dK [])) := same_new nd1 _
  have ed1 : (upd H d1 (.dK [])) d1 = some (.dK []) := upd_same
  generalize upd H d1 (.dK []) = Ha at sa1 ed1 nd2 na nu
  have sa2 : Same Ha (upd Ha d2 (.dK [])) := same_new nd2 _
  have ed2 : (upd Ha d2 (.dK [])) d2 = some (.dK []) := upd_same
  replace ed1 := sa2 _ _ ed1
  generalize upd Ha d2 (.dK []) = Hb at sa2 ed1 ed2 na nu
  have sa3 : Same Hb (upd Hb a (.tup [v1, .ref d1, v2, .ref d2])) := same_new na _
  have ea : (upd Hb a (.tup [v1, .ref d1, v2, .ref d2])) a = some (.tup [v1, .ref d1, v2, .ref d2]) := upd_same
  replace ed1 := sa3 _ _ ed1
  replace ed2 := sa3 _ _ ed2
  generalize upd Hb a (.tup [v1, .ref d1, v2, .ref d2]) = Hc at sa3 ea ed1 ed2 nu
  have sac := (sa1.trans sa2).trans sa3
  have nu' : H u = none := sac.free nu
  have ua : a ≠ u := ne_of_none ea nu
  have ud1 : d1 ≠ u := ne_of_none ed1 nu
  have ud2 : d2 ≠ u := ne_of_none ed2 nu
  refine ⟨fun n σ H' => ∃ (st : List Tk) (vs : List V) (B : Int) (y4 y5 y6 y7 y8 y9 y10 y11 y12 y13 y14 y15 : Option V), σ = [some v1, some v2, some (.int B), some (.ref u), y4, y5, y6, y7, y8, y9, y10, y11, y12, y13, y14, y15] ∧ Same H H' ∧ H' u = some (.lst vs.reverse) ∧ TksAt Fh (rmL [u] H') B st vs ∧ allEq st = PyData.eqv (plD [] t1) (plD [] t2) ∧ n = tkSz st ∧ n ≤ 121,
    ⟨msz t1, [⟨t1, t2, fun _ => none, fun _ => none, [], [], []⟩], [.ref a], 0, none, none, none, none, none, none, none, none, none, none, none, none, rfl, sac.trans (same_new nu _), upd_same, .cons ⟨a, v1, d1, v2, d2, [], [], rfl, rm1 ua (by rw [upd_ne ua]; exact ea), ta1, ta2, rm1 ud1 (by rw [upd_ne ud1]; exact ed1), DV.nil, rm1 ud2 (by rw [upd_ne ud2]; exact ed2), DV.nil, Nat.le_refl _, Nat.le_refl _,
      ⟨Lab.nil, Lab.nil, List.nodup_nil, fun x hx => (by cases hx), ok1, ok2, by show 0 + 10 * mht t1 ≤ 200; omega, hz2⟩⟩ .nil, ?_, ?_, hz1⟩, ?_⟩
  · simp only [allEq, tkEq, Bool.and_true]
  · simp only [tkSz, Nat.add_zero]
  clear ed1 ed2 ea ua ud1 ud2 sac sa1 sa2 sa3 nd1 nd2 na nu d1 d2 a
  rintro n σ H1 ⟨st, vs, B, y4, y5, y6, y7, y8, y9, y10, y11, y12, y13, y14, y15, rfl, sm, eu, tka, hq, rfl, hn⟩
  refine ⟨_, rfl, _, .inl ⟨_, SqL.of eu, rfl⟩, ?_⟩
  cases tka with
  | nil =>
    refine if_false_of (by simp) ?_
    have z := q H1 sm
    rw [← hq] at z
    exact z
  | @cons kk x st vs hk tka =>
  refine if_true_of (by simp) ?_
  refine ⟨_, fun _ _ z => z, ?_⟩
  obtain ⟨a, w1, d1, w2, d2, k1, k2, rfl, ea, tt1, tt2, ed1, dv1, ed2, dv2, kl1, kl2, tok⟩ := hk
  have hrev : (V.ref a :: vs).reverse.dropLast = vs.reverse := by simp
  refine ⟨_, rfl, .inl ⟨rfl, _, SqL.of eu⟩, u, _, .ref a, rfl, rfl, eu, by simp, ?_⟩
  rw [hrev]
  have sm2 : Same H (upd H1 u (.lst vs.reverse)) := same_mut sm nu' _
  have eu2 : (upd H1 u (.lst vs.reverse)) u = some (.lst vs.reverse) := upd_same
  rw [← rm_put (o := .lst vs.reverse)] at ea ed1 ed2 tka
  generalize upd H1 u (.lst vs.reverse) = H2 at sm2 eu2 ea ed1 ed2 tka
  clear eu sm H1
  refine ⟨a, _, rfl, SqT.of (rm_sub _ _ ea), rfl, _, _, rfl, _, _, rfl, _, _, rfl, _, _, rfl, rfl, ?_⟩
  have hs1 : msz kk.t1 ≤ 121 := by
    simp only [tkSz] at hn
    omega
  have hs2 := tok.sz
  have fk1 := kids_few hs1
  have fk2 := kids_few hs2
  have fb1 := bnds_few tok.o1
  have fb2 := bnds_few tok.o2
  refine ⟨_, rfl, Fh, kk.t1, w1, rfl, sF.trans sm2, tt1, by omega, fun H3 pi1 xs1 s3 n3 e3 tx1 => ?_⟩
  refine ⟨_, rfl, Fh, kk.t2, w2, rfl, (sF.trans sm2).trans s3, tt2, by omega, fun H4 pi2 xs2 s4 n4 e4 tx2 => ?_⟩
  refine ⟨_, rfl, Fh, kk.t1, w1, rfl, ((sF.trans sm2).trans s3).trans s4, tt1, by omega, fun H5 pb1 s5 n5 e5 => ?_⟩
  refine ⟨_, rfl, Fh, kk.t2, w2, rfl, (((sF.trans sm2).trans s3).trans s4).trans s5, tt2, by omega, fun H6 pb2 s6 n6 e6 => ?_⟩
  have s26 : Same H2 H6 := ((s3.trans s4).trans s5).trans s6
  replace e3 := s6 _ _ (s5 _ _ (s4 _ _ e3))
  replace e4 := s6 _ _ (s5 _ _ e4)
  replace e5 := s6 _ _ e5
  have sm6 := sm2.trans s26
  have eu6 := s26 _ _ eu2
  have upi1 : pi1 ≠ u := fun z => by
    rw [z, eu2] at n3
    cases n3
  have upi2 : pi2 ≠ u := fun z => by
    rw [z, s3 _ _ eu2] at n4
    cases n4
  have upb1 : pb1 ≠ u := fun z => by
    rw [z, s4 _ _ (s3 _ _ eu2)] at n5
    cases n5
  have upb2 : pb2 ≠ u := fun z => by
    rw [z, s5 _ _ (s4 _ _ (s3 _ _ eu2))] at n6
    cases n6
  have rs : Same (rmL [u] H2) (rmL [u] H6) := Same.rm s26
  replace ea := rs _ _ ea
  replace ed1 := rs _ _ ed1
  replace ed2 := rs _ _ ed2
  replace tka := tka.same rs (Int.le_refl _)
  clear s3 s4 s5 s6 n3 n4 n5 n6 eu2 sm2 s26 rs
  clear H3 H4 H5 H2
  have sF6 := sF.trans sm6
  obtain ⟨a1, r1, rfl, eh1⟩ := tt1.head
  obtain ⟨a2, r2, rfl, eh2⟩ := tt2.head
  have neq : tkEq kk = false → Q (.bl false) H6 := fun z => by
    have y := q H6 sm6
    rw [← hq] at y
    simp only [allEq, z, Bool.false_and] at y
    exact y
  refine ⟨_, rfl, a1, _, 0, _, rfl, rfl, SqT.of (sF6 _ _ eh1), at0, ?_⟩
  refine ⟨_, rfl, a2, _, 0, _, rfl, rfl, SqT.of (sF6 _ _ eh2), at0, ?_⟩
  refine ⟨rfl, _, rfl, ?_⟩
  by_cases hk : kind kk.t1 = kind kk.t2
  case neg =>
    refine if_true_of (by rw [decide_eq_false fun z => hk (by injection z)]; rfl) ?_
    exact neq (node_kind tok.o1 tok.o2 hk)
  refine if_false_of (by rw [hk, decide_eq_true rfl]; rfl) ?_
  have lx1 := tx1.len
  have lx2 := tx2.len
  refine ⟨_, rfl, pi1, xs1, rfl, .inl (SqL.of e3), ?_⟩
  refine ⟨_, rfl, pi2, xs2, rfl, .inl (SqL.of e4), ?_⟩
  refine ⟨rfl, _, rfl, ?_⟩
  by_cases hl : (kids kk.t1).length = (kids kk.t2).length
  case neg =>
    refine if_true_of (by rw [decide_eq_false fun z => hl (by injection z; omega)]; rfl) ?_
    by_cases hx : kids kk.t1 = []
    · have z := kids_kind hk hx
      rw [z.1, hx] at hl
      exact absurd rfl hl
    · exact neq (by unfold tkEq; rw [node_same tok.o1 tok.o2 hk hx, decide_eq_false fun z => hl z.1]; rfl)
  refine if_false_of (by rw [lx1, lx2, hl, decide_eq_true rfl]; rfl) ?_
  refine ⟨_, rfl, pb1, _, rfl, .inl (SqL.of e5), ?_⟩
  refine ⟨_, rfl, pb2, _, rfl, .inl (SqL.of e6), ?_⟩
  refine ⟨rfl, _, rfl, ?_⟩
  by_cases hb : (bnds kk.t1).length = (bnds kk.t2).length
  case neg =>
    refine if_true_of (by rw [List.length_map, List.length_map, decide_eq_false fun z => hb (by injection z; omega)]; rfl) ?_
    by_cases hx : kids kk.t1 = []
    · have z := kids_kind hk hx
      rw [z.2.1, z.2.2] at hb
      exact absurd rfl hb
    · exact neq (by unfold tkEq; rw [node_same tok.o1 tok.o2 hk hx, decide_eq_false fun z => hb z.2]; rfl)
  refine if_false_of (by rw [List.length_map, List.length_map, hb, decide_eq_true rfl]; rfl) ?_
  have tsum : msz kk.t1 = 1 + mszs (kids kk.t1) := msz_kids _
  have ne1 : a1 ≠ u := fun z => by
    rw [z] at eh1
    have := sF6 _ _ eh1
    rw [eu6] at this
    cases this
  by_cases hx : kids kk.t1 = []
  case pos =>
    have x1 : xs1 = [] := by
      rw [hx] at lx1
      exact List.length_eq_zero_iff.mp lx1
    have kz := kids_kind hk hx
    have bz : bnds kk.t1 = [] := List.length_eq_zero_iff.mp kz.2.1
    rw [x1] at e3
    rw [bz] at e5
    refine ⟨_, rfl, _, .inl ⟨_, SqL.of e3, rfl⟩, ?_⟩
    refine if_true_of (by simp) ?_
    refine ⟨_, rfl, _, rfl, _, rfl, _, rfl, Fh, kk.t1, kk.t2, .ref a1, .ref a2, d1, d2, k1, k2, kk.m1, kk.m2, kk.e1, kk.e2, kk.L, rfl, sF6, tt1, tt2, rm_sub _ _ ed1, dv1, rm_sub _ _ ed2, dv2, tok.l1, tok.l2, tok.nd, tok.o1, tok.o2, hk, hx, fun H7 s7 => ?_⟩
    refine ⟨_, rfl, ?_⟩
    have neq7 : tkEq kk = false → Q (.bl false) H7 := fun z => by
      have y := q H7 (sm6.trans s7)
      rw [← hq] at y
      simp only [allEq, z, Bool.false_and] at y
      exact y
    cases hv : PyData.eqv (plD kk.e1 kk.t1) (plD kk.e2 kk.t2) with
    | false => exact if_true_of rfl (neq7 hv)
    | true =>
      refine if_false_of rfl ?_
      have e3 := s7 _ _ e3
      have e5 := s7 _ _ e5
      refine ⟨_, rfl, _, .inl ⟨_, SqL.of e5, rfl⟩, ?_⟩
      refine ⟨_, rfl, pi1, [], rfl, .inl (SqL.of e3), ?_⟩
      refine ⟨_, rfl, 0, rfl, by decide, by decide, ?_⟩
      refine for_range (lo := 0) (n := 0) (fun i σ H' => i = 0 → H' = H7 ∧ σ = [some v1, some v2, some (.int B), some (.ref u), some (.ref a1), some (.ref d1), some (.ref a2), some (.ref d2), some (.ref pi1), some (.ref pi2), some (.ref pb1), some (.ref pb2), some (.int 0), y13, y14, y15]) (fun _ => ⟨rfl, rfl⟩) (fun i σ H' h => by omega) ?_
      intro σ H' h
      obtain ⟨rfl, rfl⟩ := h rfl
      refine ⟨_, rfl, _, .inl ⟨_, SqL.of e5, rfl⟩, ?_⟩
      refine if_false_of rfl ?_
      refine ⟨tkSz st, ?_, st, vs, B, _, _, _, _, _, _, _, _, _, _, _, _, rfl, sm6.trans s7, s7 _ _ eu6, tka.same (Same.rm s7) (Int.le_refl _), ?_, rfl, ?_⟩
      · simp only [tkSz]
        have := msz_pos kk.t1
        omega
      · rw [← hq]
        simp only [allEq, tkEq, hv, Bool.true_and]
      · simp only [tkSz] at hn
        omega
  have nx1 : xs1 ≠ [] := fun z => hx (List.length_eq_zero_iff.mp (by rw [← lx1, z]; rfl))
  refine ⟨_, rfl, _, .inl ⟨_, SqL.of e3, rfl⟩, ?_⟩
  refine if_false_of (by cases xs1 with | nil => exact absurd rfl nx1 | cons y r => rfl) ?_
  have hnode := node_same tok.o1 tok.o2 hk hx
  rw [decide_eq_true ⟨hl, hb⟩, Bool.true_and] at hnode
  by_cases bz : bnds kk.t1 = []
  · rw [bz] at e5
    have bz2 : bnds kk.t2 = [] := List.length_eq_zero_iff.mp (by rw [← hb, bz]; rfl)
    have kf1 := kid_free tok.o1 bz
    have kf2 := kid_free tok.o2 bz2
    have hm1 : ∀ i c, i < xs1.length → (kids kk.t1)[i]? = some c → mok kk.e1 c := fun i c _ e => moks_get kf1.2 e
    have hm2 : ∀ i c, i < xs1.length → (kids kk.t2)[i]? = some c → mok kk.e2 c := fun i c _ e => moks_get kf2.2 e
    refine ⟨_, rfl, _, .inl ⟨_, SqL.of e5, rfl⟩, ?_⟩
    refine ⟨_, rfl, pi1, xs1, rfl, .inl (SqL.of e3), ?_⟩
    refine ⟨_, rfl, (xs1.length : Nat), rfl, by omega, by omega, ?_⟩
    refine for_range (lo := 0) (n := xs1.length) (fun i σ H' => ∃ (y13 : Option V) (st' : List Tk) (vs' : List V), σ = [some v1, some v2, some (.int B), some (.ref u), some (.ref a1), some (.ref d1), some (.ref a2), some (.ref d2), some (.ref pi1), some (.ref pi2), some (.ref pb1), some (.ref pb2), some (.int ((xs1.length : Nat))), y13, y14, y15] ∧ Same H H' ∧ Same (rmL [u] H6) (rmL [u] H') ∧ H' u = some (.lst vs'.reverse) ∧ TksAt Fh (rmL [u] H') B st' vs' ∧
        allEq st' = (allEq st && PyData.eqvAll (plDs kk.e1 ((kids kk.t1).take i)) (plDs kk.e2 ((kids kk.t2).take i))) ∧ tkSz st' = tkSz st + mszs ((kids kk.t1).take i))
      ⟨y13, st, vs, rfl, sm6, Same.refl _, eu6, tka, by simp only [List.take_zero, plDs, eqvAll_nil, Bool.and_true], by simp only [List.take_zero, mszs, Nat.add_zero]⟩ ?_ ?_
    · rintro i σ H' hi ⟨z13, st', vs', rfl, sm', rs', eu', tk', hq', hz'⟩
      have hi1 : i < (kids kk.t1).length := by omega
      have hi2 : i < (kids kk.t2).length := by omega
      have g1 : xs1[i]? = some (xs1[i]'(by omega)) := List.getElem?_eq_getElem _
      have g2 : xs2[i]? = some (xs2[i]'(by omega)) := List.getElem?_eq_getElem _
      obtain ⟨c1, gc1, tc1⟩ := tx1.get g1
      obtain ⟨c2, gc2, tc2⟩ := tx2.get g2
      have e3' := rm_sub _ _ (rs' _ _ (rm1 upi1 e3))
      have e4' := rm_sub _ _ (rs' _ _ (rm1 upi2 e4))
      have lv' := tk'.len
      have lw' := tkSz_len st'
      have z1 := mszs_take (kids kk.t1) i
      simp only [tkSz] at hn
      refine ⟨_, rfl, .inl ⟨rfl, _, SqL.of eu'⟩, ?_⟩
      refine ⟨_, rfl, _, rfl, pi1, xs1, _, _, rfl, rfl, SqL.of e3', (by rw [Int.zero_add]; exact atI_nat g1), ?_⟩
      refine ⟨_, rfl, _, rfl, _, rfl, pi2, xs2, _, _, rfl, rfl, SqL.of e4', (by rw [Int.zero_add]; exact atI_nat g2), ?_⟩
      refine ⟨_, rfl, by show 4 ≤ sizeLine; decide, fun T nT => ?_⟩
      have uT : u ≠ T := ne_of_none eu' nT
      refine ⟨u, _, _, rfl, rfl, by rw [upd_ne uT]; exact eu', by rw [List.length_reverse]; exact smallL (by omega), ?_⟩
      refine ⟨_, ⟨c1, c2, kk.m1, kk.m2, kk.e1, kk.e2, kk.L⟩ :: st', .ref T :: vs', rfl, fun b o e => ?_, ?_, by rw [upd_same, List.reverse_cons], ?_, ?_, ?_⟩
      · rw [upd_ne (ne_of_none e nu')]
        exact same_new nT _ _ _ (sm' _ _ e)
      · rw [rm_put]
        exact rs'.trans (Same.rm (same_new nT _))
      · rw [rm_put]
        have rT : Same (rmL [u] H') (rmL [u] (upd H' T (.tup [xs1[i], .ref d1, xs2[i], .ref d2]))) := Same.rm (same_new nT _)
        refine .cons ⟨T, _, d1, _, d2, k1, k2, rfl, rm1 (Ne.symm uT) upd_same, tc1, tc2, rT _ _ (rs' _ _ ed1), dv1, rT _ _ (rs' _ _ ed2), dv2, kl1, kl2, ⟨tok.l1, tok.l2, tok.nd, tok.lb, hm1 i c1 hi gc1, hm2 i c2 hi gc2, ?_, ?_⟩⟩ (tk'.same rT (Int.le_refl _))
        · have := mhts_get gc1
          have := mht_kids kk.t1 hx
          have := tok.dp
          show kk.e1.length + 10 * mht c1 ≤ 200
          omega
        · have := mszs_get gc2
          have := msz_kids kk.t2
          show msz c2 ≤ 121
          omega
      · have l12 : (plDs kk.e1 ((kids kk.t1).take i)).length = (plDs kk.e2 ((kids kk.t2).take i)).length := by
          rw [plDs_len, plDs_len, List.length_take, List.length_take, hl]
        rw [plDs_take gc1, plDs_take gc2, eqvAll_app l12, eqvAll_cons, eqvAll_nil, Bool.and_true]
        simp only [allEq, tkEq, hq']
        cases allEq st <;> cases PyData.eqvAll (plDs kk.e1 ((kids kk.t1).take i)) (plDs kk.e2 ((kids kk.t2).take i)) <;> simp
      · rw [List.take_add_one, gc1]
        show msz c1 + tkSz st' = tkSz st + mszs ((kids kk.t1).take i ++ [c1])
        rw [mszs_app, hz']
        simp only [mszs]
        omega
    · rintro σ H' ⟨z13, st', vs', rfl, sm', rs', eu', tk', hq', hz'⟩
      have e5' := rm_sub _ _ (rs' _ _ (rm1 upb1 e5))
      refine ⟨_, rfl, _, .inl ⟨_, SqL.of e5', rfl⟩, ?_⟩
      refine if_false_of rfl ?_
      rw [lx1, List.take_length] at hq' hz'
      rw [hl, List.take_length] at hq'
      refine ⟨tkSz st', ?_, st', vs', B, _, _, _, _, _, _, _, _, _, _, _, _, rfl, sm', eu', tk', ?_, rfl, ?_⟩
      · simp only [tkSz]
        omega
      · rw [← hq, hq', ← kf1.1, ← kf2.1, ← hnode]
        simp only [allEq, tkEq]
        exact Bool.and_comm _ _
      · simp only [tkSz] at hn
        omega
  · obtain ⟨b0, br, hbz⟩ := List.exists_cons_of_ne_nil bz
    have bz2 : bnds kk.t2 ≠ [] := fun z => bz (List.length_eq_zero_iff.mp (by rw [hb, z]; rfl))
    obtain ⟨p1, c1, kf1, kd1, mp1, mb1, lb1, hc1, hp1⟩ := kid_bound tok.o1 bz
    obtain ⟨p2, c2, kf2, kd2, mp2, mb2, lb2, hc2, hp2⟩ := kid_bound tok.o2 bz2
    have e5b := e5
    rw [hbz] at e5b
    have lp1 : (kids kk.t1).length = p1.length + 1 := by rw [kf1, List.length_append]; rfl
    have lp2 : (kids kk.t2).length = p2.length + 1 := by rw [kf2, List.length_append]; rfl
    have lp : p1.length = p2.length := by omega
    have hm1 : ∀ i c, i < p1.length → (kids kk.t1)[i]? = some c → mok kk.e1 c := fun i c hi e => by
      rw [kf1, List.getElem?_append_left hi] at e
      exact moks_get mp1 e
    have hm2 : ∀ i c, i < p1.length → (kids kk.t2)[i]? = some c → mok kk.e2 c := fun i c hi e => by
      rw [kf2, List.getElem?_append_left (by omega)] at e
      exact moks_get mp2 e
    refine ⟨_, rfl, _, .inl ⟨_, SqL.of e5b, rfl⟩, ?_⟩
    refine ⟨_, rfl, pi1, xs1, rfl, .inl (SqL.of e3), _, _, rfl, rfl, ?_⟩
    have hN : (xs1.length : Int) - 1 = (p1.length : Nat) := by omega
    refine ⟨_, rfl, (p1.length : Nat), congrArg (fun x => [V.int x]) hN, by omega, by omega, ?_⟩
    refine for_range (lo := 0) (n := p1.length) (fun i σ H' => ∃ (y13 : Option V) (st' : List Tk) (vs' : List V), σ = [some v1, some v2, some (.int B), some (.ref u), some (.ref a1), some (.ref d1), some (.ref a2), some (.ref d2), some (.ref pi1), some (.ref pi2), some (.ref pb1), some (.ref pb2), some (.int (((xs1.length : Nat) : Int) - 1)), y13, y14, y15] ∧ Same H H' ∧ Same (rmL [u] H6) (rmL [u] H') ∧ H' u = some (.lst vs'.reverse) ∧ TksAt Fh (rmL [u] H') B st' vs' ∧
        allEq st' = (allEq st && PyData.eqvAll (plDs kk.e1 ((kids kk.t1).take i)) (plDs kk.e2 ((kids kk.t2).take i))) ∧ tkSz st' = tkSz st + mszs ((kids kk.t1).take i))
      ⟨y13, st, vs, rfl, sm6, Same.refl _, eu6, tka, by simp only [List.take_zero, plDs, eqvAll_nil, Bool.and_true], by simp only [List.take_zero, mszs, Nat.add_zero]⟩ ?_ ?_
    · rintro i σ H' hi ⟨z13, st', vs', rfl, sm', rs', eu', tk', hq', hz'⟩
      have hi1 : i < (kids kk.t1).length := by omega
      have hi2 : i < (kids kk.t2).length := by omega
      have g1 : xs1[i]? = some (xs1[i]'(by omega)) := List.getElem?_eq_getElem _
      have g2 : xs2[i]? = some (xs2[i]'(by omega)) := List.getElem?_eq_getElem _
      obtain ⟨c1, gc1, tc1⟩ := tx1.get g1
      obtain ⟨c2, gc2, tc2⟩ := tx2.get g2
      have e3' := rm_sub _ _ (rs' _ _ (rm1 upi1 e3))
      have e4' := rm_sub _ _ (rs' _ _ (rm1 upi2 e4))
      have lv' := tk'.len
      have lw' := tkSz_len st'
      have z1 := mszs_take (kids kk.t1) i
      simp only [tkSz] at hn
      refine ⟨_, rfl, .inl ⟨rfl, _, SqL.of eu'⟩, ?_⟩
      refine ⟨_, rfl, _, rfl, pi1, xs1, _, _, rfl, rfl, SqL.of e3', (by rw [Int.zero_add]; exact atI_nat g1), ?_⟩
      refine ⟨_, rfl, _, rfl, _, rfl, pi2, xs2, _, _, rfl, rfl, SqL.of e4', (by rw [Int.zero_add]; exact atI_nat g2), ?_⟩
      refine ⟨_, rfl, by show 4 ≤ sizeLine; decide, fun T nT => ?_⟩
      have uT : u ≠ T := ne_of_none eu' nT
      refine ⟨u, _, _, rfl, rfl, by rw [upd_ne uT]; exact eu', by rw [List.length_reverse]; exact smallL (by omega), ?_⟩
      refine ⟨_, ⟨c1, c2, kk.m1, kk.m2, kk.e1, kk.e2, kk.L⟩ :: st', .ref T :: vs', rfl, fun b o e => ?_, ?_, by rw [upd_same, List.reverse_cons], ?_, ?_, ?_⟩
      · rw [upd_ne (ne_of_none e nu')]
        exact same_new nT _ _ _ (sm' _ _ e)
      · rw [rm_put]
        exact rs'.trans (Same.rm (same_new nT _))
      · rw [rm_put]
        have rT : Same (rmL [u] H') (rmL [u] (upd H' T (.tup [xs1[i], .ref d1, xs2[i], .ref d2]))) := Same.rm (same_new nT _)
        refine .cons ⟨T, _, d1, _, d2, k1, k2, rfl, rm1 (Ne.symm uT) upd_same, tc1, tc2, rT _ _ (rs' _ _ ed1), dv1, rT _ _ (rs' _ _ ed2), dv2, kl1, kl2, ⟨tok.l1, tok.l2, tok.nd, tok.lb, hm1 i c1 hi gc1, hm2 i c2 hi gc2, ?_, ?_⟩⟩ (tk'.same rT (Int.le_refl _))
        · have := mhts_get gc1
          have := mht_kids kk.t1 hx
          have := tok.dp
          show kk.e1.length + 10 * mht c1 ≤ 200
          omega
        · have := mszs_get gc2
          have := msz_kids kk.t2
          show msz c2 ≤ 121
          omega
      · have l12 : (plDs kk.e1 ((kids kk.t1).take i)).length = (plDs kk.e2 ((kids kk.t2).take i)).length := by
          rw [plDs_len, plDs_len, List.length_take, List.length_take, hl]
        rw [plDs_take gc1, plDs_take gc2, eqvAll_app l12, eqvAll_cons, eqvAll_nil, Bool.and_true]
        simp only [allEq, tkEq, hq']
        cases allEq st <;> cases PyData.eqvAll (plDs kk.e1 ((kids kk.t1).take i)) (plDs kk.e2 ((kids kk.t2).take i)) <;> simp
      · rw [List.take_add_one, gc1]
        show msz c1 + tkSz st' = tkSz st + mszs ((kids kk.t1).take i ++ [c1])
        rw [mszs_app, hz']
        simp only [mszs]
        omega
    · rintro σ H' ⟨z13, st', vs', rfl, sm', rs', eu', tk', hq', hz'⟩
      have e5' := rm_sub _ _ (rs' _ _ (rm1 upb1 e5))
      have e5c := rm_sub _ _ (rs' _ _ (rm1 upb1 e5b))
      have e6' := rm_sub _ _ (rs' _ _ (rm1 upb2 e6))
      have e3' := rm_sub _ _ (rs' _ _ (rm1 upi1 e3))
      have e4' := rm_sub _ _ (rs' _ _ (rm1 upi2 e4))
      have ed1' := rm_sub _ _ (rs' _ _ ed1)
      have ed2' := rm_sub _ _ (rs' _ _ ed2)
      have ll1 := tok.l1.1
      have ll2 := tok.l2.1
      have dp := tok.dp
      refine ⟨_, rfl, _, .inl ⟨_, SqL.of e5c, rfl⟩, ?_⟩
      refine if_true_of rfl ?_
      refine ⟨_, rfl, _, rfl, _, rfl, d1, pb1, k1, kk.m1, bnds kk.t1, B, rfl, ed1', dv1, e5', by omega, fun H7 q1 n1 s7 nq1 eq1 dq1 lq1 => ?_⟩
      refine ⟨_, rfl, _, rfl, _, rfl, d2, pb2, k2, kk.m2, bnds kk.t2, B, rfl, s7 _ _ ed2', dv2, s7 _ _ e6', by omega, fun H8 q2 n2 s8 nq2 eq2 dq2 lq2 => ?_⟩
      have s68 := s7.trans s8
      have e3'' := s68 _ _ e3'
      have e4'' := s68 _ _ e4'
      have e5'' := s68 _ _ e5'
      have eu'' := s68 _ _ eu'
      have nq1' := s8 _ _ eq1
      have lv' := tk'.len
      have lw' := tkSz_len st'
      have z1 := mszs_take (kids kk.t1) p1.length
      have g1 : xs1[p1.length]? = some (xs1[p1.length]'(by omega)) := List.getElem?_eq_getElem _
      have g2 : xs2[p1.length]? = some (xs2[p1.length]'(by omega)) := List.getElem?_eq_getElem _
      obtain ⟨b1, gc1, tc1⟩ := tx1.get g1
      obtain ⟨b2, gc2, tc2⟩ := tx2.get g2
      have eb1 : b1 = c1 := by
        rw [kf1, List.getElem?_append_right (Nat.le_refl _), Nat.sub_self] at gc1
        exact (Option.some.inj gc1).symm
      have eb2 : b2 = c2 := by
        rw [kf2, lp, List.getElem?_append_right (Nat.le_refl _), Nat.sub_self] at gc2
        exact (Option.some.inj gc2).symm
      rw [eb1] at tc1
      rw [eb2] at tc2
      simp only [tkSz] at hn
      refine ⟨_, rfl, .inl ⟨rfl, _, SqL.of eu''⟩, ?_⟩
      refine ⟨_, rfl, 1, rfl, pi1, xs1, -1, _, rfl, rfl, SqL.of e3'', atI_neg1 (by omega) g1, ?_⟩
      refine ⟨_, rfl, _, rfl, 1, rfl, pi2, xs2, -1, _, rfl, rfl, SqL.of e4'', atI_neg1 (by omega) g2, ?_⟩
      refine ⟨_, rfl, by show 4 ≤ sizeLine; decide, fun T nT => ?_⟩
      have uT : u ≠ T := ne_of_none eu'' nT
      refine ⟨u, _, _, rfl, rfl, by rw [upd_ne uT]; exact eu'', by rw [List.length_reverse]; exact smallL (by omega), ?_⟩
      have sT : Same H8 (upd H8 T (.tup [xs1[p1.length], .ref q1, xs2[p1.length], .ref q2])) := same_new nT _
      have eT : (upd H8 T (.tup [xs1[p1.length], .ref q1, xs2[p1.length], .ref q2])) T = some (.tup [xs1[p1.length], .ref q1, xs2[p1.length], .ref q2]) := upd_same
      generalize upd H8 T (.tup [xs1[p1.length], .ref q1, xs2[p1.length], .ref q2]) = H9 at sT eT
      have eb9 : (upd H9 u (.lst (vs'.reverse ++ [.ref T]))) pb1 = some (.lst ((bnds kk.t1).map V.int)) := by
        rw [upd_ne upb1]
        exact sT _ _ e5''
      refine ⟨_, rfl, _, rfl, pb1, _, rfl, .inl (SqL.of eb9), _, _, rfl, rfl, ?_⟩
      have uq1 : q1 ≠ u := fun z => by
        rw [z, eu'] at nq1
        cases nq1
      have uq2 : q2 ≠ u := fun z => by
        rw [z, s7 _ _ eu'] at nq2
        cases nq2
      have rs9 : Same (rmL [u] H') (rmL [u] H9) := Same.rm (s68.trans sT)
      refine ⟨tkSz (⟨c1, c2, upMs kk.m1 (bnds kk.t1) B, upMs kk.m2 (bnds kk.t2) B, kk.e1 ++ bnds kk.t1, kk.e2 ++ bnds kk.t2, kk.L ++ from_ B (bnds kk.t1).length⟩ :: st'), ?_, _ :: st', .ref T :: vs', B + (((bnds kk.t1).map V.int).length : Nat), _, _, _, _, _, _, _, _, _, _, _, _, rfl, fun b o e => ?_, by rw [upd_same, List.reverse_cons], ?_, ?_, rfl, ?_⟩
      · simp only [tkSz]
        rw [kf1, List.take_left] at hz'
        rw [kf1, mszs_app] at tsum
        simp only [mszs] at tsum
        omega
      · rw [upd_ne (ne_of_none e nu')]
        exact sT _ _ (s68 _ _ (sm' _ _ e))
      · rw [rm_put]
        have lB : ((bnds kk.t1).map V.int).length = (bnds kk.t1).length := List.length_map _
        refine .cons ⟨T, _, q1, _, q2, _, _, rfl, rm1 (Ne.symm uT) eT, tc1, tc2, rm1 uq1 (sT _ _ nq1'), dq1, rm1 uq2 (sT _ _ eq2), dq2, ?_, ?_, ⟨tok.l1.many, ?_, ?_, ?_, mb1, mb2, ?_, ?_⟩⟩ (tk'.same rs9 (by omega))
        · show _ ≤ (kk.e1 ++ bnds kk.t1).length
          rw [List.length_append]
          omega
        · show _ ≤ (kk.e2 ++ bnds kk.t2).length
          rw [List.length_append]
          omega
        · rw [hb]
          exact tok.l2.many
        · refine List.nodup_append.mpr ⟨tok.nd, from_nodup, fun x hx y hy z => ?_⟩
          have := tok.lb x hx
          have := from_mem hy
          omega
        · intro x hx
          rcases List.mem_append.mp hx with e | e
          · have := tok.lb x e
            omega
          · have := from_mem e
            omega
        · show (kk.e1 ++ bnds kk.t1).length + 10 * mht c1 ≤ 200
          rw [List.length_append]
          omega
        · have := msz_kids kk.t2
          rw [kf2, mszs_app] at this
          simp only [mszs] at this
          show msz c2 ≤ 121
          omega
      · rw [← hq]
        simp only [allEq, tkEq]
        rw [hnode, kd1, kd2, hq', eqvAll_app (by rw [plDs_len, plDs_len, lp]), eqvAll_cons, eqvAll_nil, Bool.and_true, kf1, kf2, List.take_left, lp, List.take_left]
        cases allEq st <;> cases PyData.eqvAll (plDs kk.e1 p1) (plDs kk.e2 p2) <;> simp
      · simp only [tkSz]
        rw [kf1, List.take_left] at hz'
        rw [kf1, mszs_app] at tsum
        simp only [mszs] at tsum
        omega
end
end Sg

namespace Sg
open PySem PySem.Spec PyProof.Rows L2
/-! ### what the top has written -/
theorem all_mk {P : Program} {w : World} {K : PySem.W.Frag} {h : Heap} {mg : Str → Option Value} {fa : Addr} (X : K.In h) (G : h.Ns mainGlobals mg) (hfa : mg "law" = some (.ref fa))
    {f1 : Addr} {od1 an1 : Option Addr} {sl1 : Array (Option Value)} {oc1 kV1 dc1 pm1 cd1 ct1 : Value}
    {f2 : Addr} {od2 an2 : Option Addr} {sl2 : Array (Option Value)} {oc2 kV2 dc2 pm2 cd2 ct2 : Value}
    {f3 : Addr} {od3 an3 : Option Addr} {sl3 : Array (Option Value)} {oc3 kV3 dc3 pm3 cd3 ct3 : Value}
    {f4 : Addr} {od4 an4 : Option Addr} {sl4 : Array (Option Value)} {oc4 kV4 dc4 pm4 cd4 ct4 : Value}
    {f5 : Addr} {od5 an5 : Option Addr} {sl5 : Array (Option Value)} {oc5 kV5 dc5 pm5 cd5 ct5 : Value}
    {f6 : Addr} {od6 an6 : Option Addr} {sl6 : Array (Option Value)} {oc6 kV6 dc6 pm6 cd6 ct6 : Value}
    {f7 : Addr} {od7 an7 : Option Addr} {sl7 : Array (Option Value)} {oc7 kV7 dc7 pm7 cd7 ct7 : Value}
    {f8 : Addr} {od8 an8 : Option Addr} {sl8 : Array (Option Value)} {oc8 kV8 dc8 pm8 cd8 ct8 : Value}
    {f9 : Addr} {od9 an9 : Option Addr} {sl9 : Array (Option Value)} {oc9 kV9 dc9 pm9 cd9 ct9 : Value}
    {f10 : Addr} {od10 an10 : Option Addr} {sl10 : Array (Option Value)} {oc10 kV10 dc10 pm10 cd10 ct10 : Value}
    {f11 : Addr} {od11 an11 : Option Addr} {sl11 : Array (Option Value)} {oc11 kV11 dc11 pm11 cd11 ct11 : Value}
    {f12 : Addr} {od12 an12 : Option Addr} {sl12 : Array (Option Value)} {oc12 kV12 dc12 pm12 cd12 ct12 : Value}
    {f13 : Addr} {od13 an13 : Option Addr} {sl13 : Array (Option Value)} {oc13 kV13 dc13 pm13 cd13 ct13 : Value}
    (a1 : PySem.W.nsIn K mainGlobals "inner_terms" = some (some (.ref f1)))
    (l1 : K.lookup f1 = some ⟨oc1, od1, .func (PySem.W.fnOf "inner_terms" "inner_terms" (defArgs cInnerTerms) (defBody cInnerTerms) (defScope cInnerTerms) .none kV1 dc1 pm1 an1 cd1 ct1), sl1⟩)
    (c1 : PySem.W.codeIn K cd1 "inner_terms" = true)
    (k1 : PySem.W.keepIn K (.ref f1) = true)
    (a2 : PySem.W.nsIn K mainGlobals "bound_in_body" = some (some (.ref f2)))
    (l2 : K.lookup f2 = some ⟨oc2, od2, .func (PySem.W.fnOf "bound_in_body" "bound_in_body" (defArgs cBoundInBody) (defBody cBoundInBody) (defScope cBoundInBody) .none kV2 dc2 pm2 an2 cd2 ct2), sl2⟩)
    (c2 : PySem.W.codeIn K cd2 "bound_in_body" = true)
    (k2 : PySem.W.keepIn K (.ref f2) = true)
    (a3 : PySem.W.nsIn K mainGlobals "alike" = some (some (.ref f3)))
    (l3 : K.lookup f3 = some ⟨oc3, od3, .func (PySem.W.fnOf "alike" "alike" (defArgs cAlike) (defBody cAlike) (defScope cAlike) .none kV3 dc3 pm3 an3 cd3 ct3), sl3⟩)
    (c3 : PySem.W.codeIn K cd3 "alike" = true)
    (k3 : PySem.W.keepIn K (.ref f3) = true)
    (a4 : PySem.W.nsIn K mainGlobals "bound_to" = some (some (.ref f4)))
    (l4 : K.lookup f4 = some ⟨oc4, od4, .func (PySem.W.fnOf "bound_to" "bound_to" (defArgs cBoundTo) (defBody cBoundTo) (defScope cBoundTo) .none kV4 dc4 pm4 an4 cd4 ct4), sl4⟩)
    (c4 : PySem.W.codeIn K cd4 "bound_to" = true)
    (k4 : PySem.W.keepIn K (.ref f4) = true)
    (a5 : PySem.W.nsIn K mainGlobals "same_leaf" = some (some (.ref f5)))
    (l5 : K.lookup f5 = some ⟨oc5, od5, .func (PySem.W.fnOf "same_leaf" "same_leaf" (defArgs cSameLeaf) (defBody cSameLeaf) (defScope cSameLeaf) .none kV5 dc5 pm5 an5 cd5 ct5), sl5⟩)
    (c5 : PySem.W.codeIn K cd5 "same_leaf" = true)
    (k5 : PySem.W.keepIn K (.ref f5) = true)
    (a6 : PySem.W.nsIn K mainGlobals "_law_state" = some (some (.ref f6)))
    (l6 : K.lookup f6 = some ⟨oc6, od6, .func (PySem.W.fnOf "_law_state" "_law_state" (defArgs sState) (defBody sState) (defScope sState) .none kV6 dc6 pm6 an6 cd6 ct6), sl6⟩)
    (c6 : PySem.W.codeIn K cd6 "_law_state" = true)
    (k6 : PySem.W.keepIn K (.ref f6) = true)
    (a7 : PySem.W.nsIn K mainGlobals "_law_draw" = some (some (.ref f7)))
    (l7 : K.lookup f7 = some ⟨oc7, od7, .func (PySem.W.fnOf "_law_draw" "_law_draw" (defArgs sDraw) (defBody sDraw) (defScope sDraw) .none kV7 dc7 pm7 an7 cd7 ct7), sl7⟩)
    (c7 : PySem.W.codeIn K cd7 "_law_draw" = true)
    (k7 : PySem.W.keepIn K (.ref f7) = true)
    (a8 : PySem.W.nsIn K mainGlobals "_law_pick" = some (some (.ref f8)))
    (l8 : K.lookup f8 = some ⟨oc8, od8, .func (PySem.W.fnOf "_law_pick" "_law_pick" (defArgs sPick) (defBody sPick) (defScope sPick) .none kV8 dc8 pm8 an8 cd8 ct8), sl8⟩)
    (c8 : PySem.W.codeIn K cd8 "_law_pick" = true)
    (k8 : PySem.W.keepIn K (.ref f8) = true)
    (a9 : PySem.W.nsIn K mainGlobals "_law_plain" = some (some (.ref f9)))
    (l9 : K.lookup f9 = some ⟨oc9, od9, .func (PySem.W.fnOf "_law_plain" "_law_plain" (defArgs sPlain) (defBody sPlain) (defScope sPlain) .none kV9 dc9 pm9 an9 cd9 ct9), sl9⟩)
    (c9 : PySem.W.codeIn K cd9 "_law_plain" = true)
    (k9 : PySem.W.keepIn K (.ref f9) = true)
    (a10 : PySem.W.nsIn K mainGlobals "_law_origin" = some (some (.ref f10)))
    (l10 : K.lookup f10 = some ⟨oc10, od10, .func (PySem.W.fnOf "_law_origin" "_law_origin" (defArgs sOrigin) (defBody sOrigin) (defScope sOrigin) .none kV10 dc10 pm10 an10 cd10 ct10), sl10⟩)
    (c10 : PySem.W.codeIn K cd10 "_law_origin" = true)
    (k10 : PySem.W.keepIn K (.ref f10) = true)
    (a11 : PySem.W.nsIn K mainGlobals "_law_term" = some (some (.ref f11)))
    (l11 : K.lookup f11 = some ⟨oc11, od11, .func (PySem.W.fnOf "_law_term" "_law_term" (defArgs sTerm) (defBody sTerm) (defScope sTerm) .none kV11 dc11 pm11 an11 cd11 ct11), sl11⟩)
    (c11 : PySem.W.codeIn K cd11 "_law_term" = true)
    (k11 : PySem.W.keepIn K (.ref f11) = true)
    (a12 : PySem.W.nsIn K mainGlobals "_law_again" = some (some (.ref f12)))
    (l12 : K.lookup f12 = some ⟨oc12, od12, .func (PySem.W.fnOf "_law_again" "_law_again" (defArgs sAgain) (defBody sAgain) (defScope sAgain) .none kV12 dc12 pm12 an12 cd12 ct12), sl12⟩)
    (c12 : PySem.W.codeIn K cd12 "_law_again" = true)
    (k12 : PySem.W.keepIn K (.ref f12) = true)
    (a13 : PySem.W.nsIn K mainGlobals "law" = some (some (.ref f13)))
    (l13 : K.lookup f13 = some ⟨oc13, od13, .func (PySem.W.fnOf "law" "law" (defArgs sLaw) (defBody sLaw) (defScope sLaw) .none kV13 dc13 pm13 an13 cd13 ct13), sl13⟩)
    (c13 : PySem.W.codeIn K cd13 "law" = true)
    (k13 : PySem.W.keepIn K (.ref f13) = true)
    (z_list : PySem.W.nsIn K mainGlobals "list" = some none)
    (z_dict : PySem.W.nsIn K mainGlobals "dict" = some none)
    (z_enumerate : PySem.W.nsIn K mainGlobals "enumerate" = some none)
    (z_len : PySem.W.nsIn K mainGlobals "len" = some none)
    (z_range : PySem.W.nsIn K mainGlobals "range" = some none)
    (z_int : PySem.W.nsIn K mainGlobals "int" = some none)
    (z_abs : PySem.W.nsIn K mainGlobals "abs" = some none)
    (z_tuple : PySem.W.nsIn K mainGlobals "tuple" = some none)
    (z_repr : PySem.W.nsIn K mainGlobals "repr" = some none)
    (z_isinstance : PySem.W.nsIn K mainGlobals "isinstance" = some none)
    (z_bool : PySem.W.nsIn K mainGlobals "bool" = some none)
    (qs1 : PySem.W.kitOne K (.type "bool") (.type "bool") = some true)
    : ∃ fd : FuncData, (∀ (s : Shared) (v : Value), BindsTo s fd ⟨[v], []⟩ [("script", v)]) ∧ ∀ base : Heap, K.In base → base.Ns mainGlobals mg → FnG P w K mg base CX0 10 fa fd ["script"] (spLaw K) := by
  have e := hfa.symm.trans (PySem.W.mg_of X G a13)
  cases e
  have F1 := fun_mk (st := cInnerTerms) l1 c1 k1
  have b1 := F1.binds (ps := ["term"]) fun _ _ _ _ _ _ us hl => match us, hl with | [_], _ => rfl
  have g1 := PySem.W.mg_of X G a1
  have F2 := fun_mk (st := cBoundInBody) l2 c2 k2
  have b2 := F2.binds (ps := ["term"]) fun _ _ _ _ _ _ us hl => match us, hl with | [_], _ => rfl
  have g2 := PySem.W.mg_of X G a2
  have F3 := fun_mk (st := cAlike) l3 c3 k3
  have b3 := F3.binds (ps := ["first", "second"]) fun _ _ _ _ _ _ us hl => match us, hl with | [_, _], _ => rfl
  have g3 := PySem.W.mg_of X G a3
  have F4 := fun_mk (st := cBoundTo) l4 c4 k4
  have b4 := F4.binds (ps := ["around", "variables", "start"]) fun _ _ _ _ _ _ us hl => match us, hl with | [_, _, _], _ => rfl
  have g4 := PySem.W.mg_of X G a4
  have F5 := fun_mk (st := cSameLeaf) l5 c5 k5
  have b5 := F5.binds (ps := ["one", "around_one", "other", "around_other"]) fun _ _ _ _ _ _ us hl => match us, hl with | [_, _, _, _], _ => rfl
  have g5 := PySem.W.mg_of X G a5
  have F6 := fun_mk (st := sState) l6 c6 k6
  have b6 := F6.binds (ps := ["script"]) fun _ _ _ _ _ _ us hl => match us, hl with | [_], _ => rfl
  have g6 := PySem.W.mg_of X G a6
  have F7 := fun_mk (st := sDraw) l7 c7 k7
  have b7 := F7.binds (ps := ["state", "many"]) fun _ _ _ _ _ _ us hl => match us, hl with | [_, _], _ => rfl
  have g7 := PySem.W.mg_of X G a7
  have F8 := fun_mk (st := sPick) l8 c8 k8
  have b8 := F8.binds (ps := ["state", "row"]) fun _ _ _ _ _ _ us hl => match us, hl with | [_, _], _ => rfl
  have g8 := PySem.W.mg_of X G a8
  have F9 := fun_mk (st := sPlain) l9 c9 k9
  have b9 := F9.binds (ps := ["term", "env"]) fun _ _ _ _ _ _ us hl => match us, hl with | [_, _], _ => rfl
  have g9 := PySem.W.mg_of X G a9
  have F10 := fun_mk (st := sOrigin) l10 c10 k10
  have b10 := F10.binds (ps := ["state"]) fun _ _ _ _ _ _ us hl => match us, hl with | [_], _ => rfl
  have g10 := PySem.W.mg_of X G a10
  have F11 := fun_mk (st := sTerm) l11 c11 k11
  have b11 := F11.binds (ps := ["state", "env", "deep"]) fun _ _ _ _ _ _ us hl => match us, hl with | [_, _, _], _ => rfl
  have g11 := PySem.W.mg_of X G a11
  have F12 := fun_mk (st := sAgain) l12 c12 k12
  have b12 := F12.binds (ps := ["state", "t", "new", "count"]) fun _ _ _ _ _ _ us hl => match us, hl with | [_, _, _, _], _ => rfl
  have g12 := PySem.W.mg_of X G a12
  have F13 := fun_mk (st := sLaw) l13 c13 k13
  have g13 := PySem.W.mg_of X G a13
  have y_list := PySem.W.mg_none_of X G z_list
  have y_dict := PySem.W.mg_none_of X G z_dict
  have y_enumerate := PySem.W.mg_none_of X G z_enumerate
  have y_len := PySem.W.mg_none_of X G z_len
  have y_range := PySem.W.mg_none_of X G z_range
  have y_int := PySem.W.mg_none_of X G z_int
  have y_abs := PySem.W.mg_none_of X G z_abs
  have y_tuple := PySem.W.mg_none_of X G z_tuple
  have y_repr := PySem.W.mg_none_of X G z_repr
  have y_isinstance := PySem.W.mg_none_of X G z_isinstance
  have y_bool := PySem.W.mg_none_of X G z_bool
  refine ⟨PySem.W.fnOf "law" "law" (defArgs sLaw) (defBody sLaw) (defScope sLaw) .none kV13 dc13 pm13 an13 cd13 ct13, fun s v => .of_eq rfl, fun base _ _ => ?_⟩
  have Gi : FnOk P w K mg base CX0 1 f1 _ ["term"] (spKids) := ok_kids F1 y_list
  have Gb : FnOk P w K mg base CX0 1 f2 _ ["term"] (spBnds) := ok_bnds F2 y_list
  have Gl : FnOk P w K mg base CX0 1 f5 _ ["one", "around_one", "other", "around_other"] (spLeaf) := ok_leaf F5
  have Gt : FnOk P w K mg base CX0 1 f4 _ ["around", "variables", "start"] (spBoundTo) := ok_boundTo F4 y_dict y_enumerate
  have Ga : FnOk P w K mg base CX0 2 f3 _ ["first", "second"] (spAlike) := ok_alike F3 Gi b1 k1 g1 Gb b2 k2 g2 Gl b5 k5 g5 Gt b4 k4 g4 y_len y_range
  have Gs : FnOk P w K mg base CX0 9 f6 _ ["script"] (spState K) := ok_state F6 y_int y_abs
  have Gd : ∀ n, FnOk P w K mg base CX0 (n + 1) f7 _ ["state", "many"] (spDraw) := fun n => ok_draw F7 y_int y_len
  have Gk : ∀ n, FnOk P w K mg base CX0 (n + 2) f8 _ ["state", "row"] (spPick) := fun n => ok_pick F8 (Gd n) b7 k7 g7 y_len
  have Go : ∀ n, FnOk P w K mg base CX0 (n + 2) f10 _ ["state"] (spOrigin) := fun n => ok_origin F10 (Gd n) b7 k7 g7 y_range y_tuple
  have Gx : ∀ n, FnOk P w K mg base CX0 (n + 2) f11 _ ["state", "env", "deep"] (spTerm n) := fun n => by
    induction n with
    | zero => exact term_none
    | succ n ih => exact ok_term F11 ih b11 g11 (Gd (n + 1)) b7 k7 g7 (Gk n) b8 k8 g8 (Go n) b10 k10 g10 y_range y_len
  have Gg : ∀ n, FnOk P w K mg base CX0 (n + 2) f12 _ ["state", "t", "new", "count"] (spAgain n) := fun n => by
    induction n with
    | zero => exact again_none
    | succ n ih => exact ok_again F12 ih b12 g12 (Gd (n + 1)) b7 k7 g7 (Go n) b10 k10 g10 y_range
  have Gp : ∀ n, FnOk P w K mg base CX0 n f9 _ ["term", "env"] (spPlain K n) := fun n => by
    induction n with
    | zero => exact plain_none
    | succ n ih => exact ok_plain F9 ih b9 g9 y_range y_len y_list
  exact ok_law F13 Gs b6 k6 g6 (Gk 7) b8 k8 g8 ((Gx 5).mono (by decide)) b11 k11 g11 ((Gg 5).mono (by decide)) b12 k12 g12 ((Gp 5).mono (by decide)) b9 k9 g9 (Ga.mono (by decide)) b3 k3 g3 y_repr y_isinstance y_bool qs1
end Sg
open PySem PySem.W PyProof.Rows
set_option maxHeartbeats 0 in
theorem PySem.Challenge.cw_sugartrue_k03_terms_that_are_alike_holds : PySem.Challenge.rw_sugartrue_k03_terms_that_are_alike.Holds := by
  w_on; o_law; k_head; (case hw => w_witness2)
  k_fill
  refine L2.walkG_of (l := PySem.Challenge.rw_sugartrue_k03_terms_that_are_alike) (n := 63) (k := 10) (x := "script") (sp := fun w => Sg.spLaw _) rfl (by decide) rfl ⟨rfl, by decide, by decide⟩ (fun w h Y => PySem.W.kIn_of Y) ?F (fun _ _ a ns hl _ hS => ⟨a, ns, rfl, hS, hl, fun _ => rfl⟩)
  case F =>
    intro w mg fa h KX G hmg
    refine' Sg.all_mk KX G hmg ?a1 ?l1 ?c1 ?k1 ?a2 ?l2 ?c2 ?k2 ?a3 ?l3 ?c3 ?k3 ?a4 ?l4 ?c4 ?k4 ?a5 ?l5 ?c5 ?k5 ?a6 ?l6 ?c6 ?k6 ?a7 ?l7 ?c7 ?k7 ?a8 ?l8 ?c8 ?k8 ?a9 ?l9 ?c9 ?k9 ?a10 ?l10 ?c10 ?k10 ?a11 ?l11 ?c11 ?k11 ?a12 ?l12 ?c12 ?k12 ?a13 ?l13 ?c13 ?k13 ?z_list ?z_dict ?z_enumerate ?z_len ?z_range ?z_int ?z_abs ?z_tuple ?z_repr ?z_isinstance ?z_bool ?qs1
    (case a1 => k_is)
    (case l1 => k_is)
    (case c1 => k_is)
    (case k1 => k_is)
    (case a2 => k_is)
    (case l2 => k_is)
    (case c2 => k_is)
    (case k2 => k_is)
    (case a3 => k_is)
    (case l3 => k_is)
    (case c3 => k_is)
    (case k3 => k_is)
    (case a4 => k_is)
    (case l4 => k_is)
    (case c4 => k_is)
    (case k4 => k_is)
    (case a5 => k_is)
    (case l5 => k_is)
    (case c5 => k_is)
    (case k5 => k_is)
    (case a6 => k_is)
    (case l6 => k_is)
    (case c6 => k_is)
    (case k6 => k_is)
    (case a7 => k_is)
    (case l7 => k_is)
    (case c7 => k_is)
    (case k7 => k_is)
    (case a8 => k_is)
    (case l8 => k_is)
    (case c8 => k_is)
    (case k8 => k_is)
    (case a9 => k_is)
    (case l9 => k_is)
    (case c9 => k_is)
    (case k9 => k_is)
    (case a10 => k_is)
    (case l10 => k_is)
    (case c10 => k_is)
    (case k10 => k_is)
    (case a11 => k_is)
    (case l11 => k_is)
    (case c11 => k_is)
    (case k11 => k_is)
    (case a12 => k_is)
    (case l12 => k_is)
    (case c12 => k_is)
    (case k12 => k_is)
    (case a13 => k_is)
    (case l13 => k_is)
    (case c13 => k_is)
    (case k13 => k_is)
    (case z_list => k_is)
    (case z_dict => k_is)
    (case z_enumerate => k_is)
    (case z_len => k_is)
    (case z_range => k_is)
    (case z_int => k_is)
    (case z_abs => k_is)
    (case z_tuple => k_is)
    (case z_repr => k_is)
    (case z_isinstance => k_is)
    (case z_bool => k_is)
    (case qs1 => first | rfl | kit_is)
