import PyProof.Rows.All
import Wide.All
import OpenK.AllK
import Wide.FinOn
import PyProof.Draws
import PyProof.EnumMake
import HandS.Base
import HandS.Call
import HandS.List
import HandS.Dict
import HandS.Iter
import HandS.Walk
import KE.KExcSuper
import PyProof.FString
import HandS.Exc
import HandS.TryOnly
import HandS.ExcOwn
import KE.KExcIs
import HandS.ExcIs
import HandS.Text
import PyProof.StrBlock2
import KE.KDictItemsList
import HandS.ExcValue
import HandS.ForMost
import HandS.ForExc
import HandS.Wide
import HandS.StrMore
import HandS.Steps
import HandS.Evl
import HandS.Codes
import HandS.Ends
import PyProof.ReprRoads
import HandS.RaiseMore
import HandS.IsInst
import HandS.Rev
import PyProof.ReprLen
import PyProof.P3Eq
import PyProof.EqLayable
import PySem.Challenge.RW_sugartrue_k01_texts_come_back
set_option Elab.async false
set_option linter.all false
set_option maxRecDepth 100000
set_option maxHeartbeats 4000000
namespace L2
open PySem PySem.Spec PyProof.Rows
/-! ### enumerate(text) -/
/-- the signs of a text, each with its place in a new pair -/
def ItE (x : Str) : It :=
  ⟨fun i _ => i < x.cps.size, fun i H v H' => ∃ T c, v = .ref T ∧ H T = none ∧ H' = upd H T (.tup [.int (i : Nat), .str ⟨#[c]⟩]) ∧ x.cps[i]? = some c, fun i _ => i = x.cps.size⟩
theorem str_iter_draws {P : Program} {w : World} {A : Around} (hh : A.handled = none) (it : Addr) (x : Str) (t : Tok) :
    Draws P w A it [it] x.cps.size (SignAt x) (fun i h => h.IsStrIter it (strIterType x) x t i) := by
  cases ha : x.cps.all (fun c => decide (c < 128))
  · have e : strIterType x = "str_iterator" := by simp [strIterType, ha]
    rw [e]
    exact Draws.strWide hh it x t
  · have e : strIterType x = "str_ascii_iterator" := by simp [strIterType, ha]
    rw [e]
    exact Draws.strAscii hh it x t
theorem turn_enumS {P : Program} {w : World} {K : PySem.W.Frag} {elts : List Expr} {kk : Nat} {tpos : Pos} (x : Str) (t : Tok) (e it : Addr) :
    Turn P w K (.Tuple elts kk tpos) (ItE x) [e, it] e (fun i h => (∃ old, IsEnum h e it ((i : Nat) : Int) old) ∧ h.IsStrIter it (strIterType x) x t i ∧ e ≠ it) where
  mem := by simp
  obj := fun i h stt b hb => by
    obtain ⟨⟨old, kE⟩, ⟨o, kO, eqC, kD⟩, _⟩ := stt
    have eb : b = e ∨ b = it := by simpa using hb
    rcases eb with z | z
    · rw [z]; exact ⟨_, kE, fun v q => nomatch q⟩
    · rw [z]; exact ⟨o, kO, fun v q => by rw [kD] at q; cases q⟩
  keep := fun i h h' stt k => let ⟨⟨old, kE⟩, ⟨o, kO, r⟩, kN⟩ := stt; ⟨⟨old, k e (by simp) _ kE⟩, ⟨o, k it (by simp) o kO, r⟩, kN⟩
  item := by
    intro X eqP eqW eqK eqC i pns s σ H E I kF stt kG
    subst eqP eqW eqK
    obtain ⟨⟨old, kE⟩, kT, kN⟩ := stt
    have ltE : e < s.heap.objs.size := Heap.lt_size kE
    have ltT : it < s.heap.objs.size := by obtain ⟨_, q, _⟩ := kT; exact Heap.lt_size q
    refine wpAny_pyNext_enum_itemD (str_iter_draws (A := X.A.in1) (I.ok.hd eqC) it x t) kE kT kG kN (by simpa using kN) fun u h' tk eqP kO kT2 kU kZ kK => ?_
    obtain ⟨c, tk2, hcx, rfl⟩ := eqP
    refine ⟨_, rfl, wpAny_letOwnedTupleGo_enum (s := { s with heap := h', toks := tk + 1 }) kO fun h'' kE2 kB => ?_⟩
    have hT2 : h''.get? s.heap.objs.size = some { cls := .type "tuple", data := .seq #[.int i tk, .str ⟨#[c]⟩ tk2] } := (kB.2 _ (Nat.ne_of_gt ltE)).trans kU
    have nob : ObjOk X.prog X.w (upd H s.heap.objs.size (.tup [.int (i : Nat), .str ⟨#[c]⟩])) h'' s.heap.objs.size (.tup [.int (i : Nat), .str ⟨#[c]⟩]) :=
      ⟨by show 2 ≤ sizeLine; decide, [.int i tk, .str ⟨#[c]⟩ tk2], .cons ⟨_, rfl⟩ (.cons ⟨_, rfl⟩ .nil), ⟨_, hT2, rfl, _, rfl⟩⟩
    have J1 : Inv X pns σ (upd H s.heap.objs.size (.tup [.int (i : Nat), .str ⟨#[c]⟩])) { s with heap := h'', toks := tk + 1 } :=
      I.turnedNew (ch := [e, it]) (fun b ob hb q => (kB.2 b (fun z => hb (by simp [z]))).trans (kK b ob (fun z => hb (by simp [z])) (fun z => hb (by simp [z])) q)) kF (Nat.le_refl _) nob
    refine ⟨.ref s.heap.objs.size, _, J1, rfl, ⟨_, c, rfl, I.hok.fresh (Nat.le_refl _), rfl, hcx⟩, ⟨⟨.str ⟨#[c]⟩ tk2, ?_⟩, ?_, kN⟩, fun b hb => ?_⟩
    · have e1 : ((i + 1 : Nat) : Int) = (i : Int) + 1 := by omega
      rw [e1]; exact kE2
    · obtain ⟨o, q, r⟩ := kT2
      exact ⟨o, (kB.2 it (Ne.symm kN)).trans q, r⟩
    · have lb : b < s.heap.objs.size := by
        have eb : b = e ∨ b = it := by simpa using hb
        rcases eb with z | z
        · rw [z]; exact ltE
        · rw [z]; exact ltT
      rw [upd_ne (Nat.ne_of_lt lb)]
      exact (kF b hb).1
  done := by
    intro X eqP eqW eqK eqC i pns s σ H E I kF stt kG
    subst eqP eqW eqK
    obtain ⟨⟨old, kE⟩, kT, kN⟩ := stt
    have hg' : i = x.cps.size := kG
    subst hg'
    obtain ⟨w0, w1, w2, w3, w4, w5⟩ := kF it (by simp)
    exact wpAny_pyNext_enum_endD (str_iter_draws (A := X.A.in1) (I.ok.hd eqC) it x t) kE kT fun h' eb => ⟨rfl, I.turned (t' := s.toks) (fun b o hb q => eb b o hb q) w0 w1 w3 w4 w5⟩
  self := fun A i s Q E stt h => let ⟨⟨_, kE⟩, _⟩ := stt; wpAny_pyIter_enum kE h
def iEnumS (ta : TA) : TI := fun σ H R => ta σ H fun vs H1 => ∃ x, vs = [.str x] ∧ R (ItE x) H1
theorem pi_enumS {X : Cx} {e : Expr} {ta : TA} {p pos tpos : Pos} {elts : List Expr} {kk : Nat} (kG : Gl X "enumerate") (hm : X.mg "enumerate" = none) (ha : PA X [e] ta) (hs : starEach [e] X.env = [(false, eval e X.env)] := by rfl) :
    PI X (.Tuple elts kk tpos) (.Call (.Name "enumerate" p) [e] [] pos) (iEnumS ta) := by
  refine ⟨fun pns s σ H R I h => ?_⟩
  refine Call_ (ld_blt I kG hm boot_enumerate (PyProof.Rows.callWith_type1 (thn (ha.run pos pns s σ H _ I h) fun uss sA ⟨vs, H1, J1, r1, w1q⟩ => ?_) hs rfl))
  obtain ⟨x, ex, q⟩ := w1q
  subst ex
  cases r1 with
  | cons r rr =>
    cases rr
    obtain ⟨t, rfl⟩ := r
    refine call_enumerate_str fun h' kE kT kZ kK => wpAny_pyIter_enum kE ?_
    have J2 : Inv X pns σ H1 { sA with heap := h' } := J1.kept (t' := sA.toks) kK
    refine ⟨sA.heap.objs.size + 1, [sA.heap.objs.size + 1, sA.heap.objs.size], _, _, H1, rfl, J2, turn_enumS x t (sA.heap.objs.size + 1) sA.heap.objs.size, ⟨⟨.none, kE⟩, kT, Nat.succ_ne_self _⟩, fun b hb => ?_, q⟩
    have eb : b = sA.heap.objs.size + 1 ∨ b = sA.heap.objs.size := by simpa using hb
    have leb : sA.heap.objs.size ≤ b := by
      rcases eb with z | z
      · rw [z]; exact Nat.le_add_right _ _
      · rw [z]; exact Nat.le_refl _
    exact J1.fpOk leb (J1.hok.fresh leb)
theorem walk_enumS {x : Str} : Walk (ItE x) x.cps.size (fun _ => True) (fun i H v H' => ∃ T c, v = .ref T ∧ H T = none ∧ H' = upd H T (.tup [.int (i : Nat), .str ⟨#[c]⟩]) ∧ x.cps[i]? = some c) :=
  ⟨fun _ _ hi _ => hi, fun _ _ => rfl, fun _ _ _ _ _ _ y => y⟩
end L2

/-! TextError: an own error over an own error over ValueError, whose __init__ says super().__init__(f'..{at}') and keeps at -/
namespace PySem
namespace TeX
open PySem.W PySem.Calls PyProof.Rows PySem.HandSPX
def iA (p1 p2 : Pos) : Arguments := { posonlyargs := [], args := [{ arg := "self", annotation := none, pos := p1 }, { arg := "at", annotation := none, pos := p2 }], vararg := none, kwonlyargs := [], kw_defaults := [], kwarg := none, defaults := [] }
def iB (q1 q2 q3 q4 q5 q6 q7 q8 q9 r1 r2 r3 r4 : Pos) : List Stmt :=
  [.Expr (.Call (.Attribute (.Call (.Name "super" q1) [] [] q2) "__init__" q3) [.JoinedStr [.Constant (.str "the text is wrong at position ") 0 q4, .FormattedValue (.Name "at" q5) (-1) none q6] q7] [] q8) q9,
   .Assign [.Attribute (.Name "self" r1) "at" r2] (.Name "at" r3) r4]
def iS : Scope := { kind := .function, names := [(PySem.Str.ofString "self", .local), (PySem.Str.ofString "at", .local), (PySem.Str.ofString "__class__", .free), (PySem.Str.ofString "super", .globalImplicit)], isGenerator := false, isCoroutine := false, more := [] }
/-- the call's arm as it stands at these places -/
def CallForm (q1 q2 q3 q4 q5 q6 q7 q8 : Pos) (fI cc cda : Addr) : Prop := ∀ L : Addr, ∃ pl : Sem Bool,
  eval (.Call (.Attribute (.Call (.Name "super" q1) [] [] q2) "__init__" q3) [.JoinedStr [.Constant (.str "the text is wrong at position ") 0 q4, .FormattedValue (.Name "at" q5) (-1) none q6] q7] [] q8) (ksEnv "TextError.__init__" iS L fI (.ref cda) cc) = (do
      let ov ← attributeBase (.Call (.Name "super" q1) [] [] q2) "__init__" (ksEnv "TextError.__init__" iS L fI (.ref cda) cc) (eval (.Call (.Name "super" q1) [] [] q2) (ksEnv "TextError.__init__" iS L fI (.ref cda) cc))
      standAt q3.atName
      let (f, first) ← holding [ov] (getMethod ov "__init__" pl)
      callWith q8 f first (backTo q8 (starEach [.JoinedStr [.Constant (.str "the text is wrong at position ") 0 q4, .FormattedValue (.Name "at" q5) (-1) none q6] q7] (ksEnv "TextError.__init__" iS L fI (.ref cda) cc))) [])
structure TeTxt (prog : Program) (K : Frag) (mg : Str → Option Value) (C fI cc cda : Addr) : Prop where
  gC : mg "TextError" = some (.ref C)
  cls : ∃ nm q N bs bm sn sub ab col dd k0 k1 k2 k3 k5, K.lookup C = some (excClassObj nm q C N bs bm true sn sub ab col dd k0 k1 k2 k3 k5 "ValueError.__new__") ∧ refsVE bm = true
  sa : findIn K (.ref C) "__setattr__" = some (some (.builtin "object.__setattr__"))
  ga : findIn K (.ref C) "__getattribute__" = some (some (.builtin "BaseException.__getattribute__"))
  gg : findIn K (.ref C) "__getattr__" = some none
  noN : findIn K (.ref C) "at" = some none
  iC : findIn K (.ref C) "__init__" = some (some (.ref fI))
  tC : typeIn K (.ref fI) = some (.type "function")
  kC : keepIn K (.ref C) = true
  exC : subIn K (.ref C) (.type "BaseException") = some true
  tyC : typeIn K (.ref C) = some (.type "type")
  hdC : hasDictIn K C = true
  te : exmOne K (.ref C) (.ref C) = some true
  op : nsIn K cStatics "thirdparty.any" = some none
  vE : subIn K (.ref C) (.type "ValueError") = some true
  su : ks_superIn K C C "__init__" = some (some (.builtin "ValueError.__init__"))
  mr : mroIn K C (.ref C) = some true
  ms : mg "super" = none
  cell : ∃ cl cld csl, K.lookup cc = some ⟨cl, cld, .cell (some (.ref C)), csl⟩
  code : ∃ ccl cdd vs ccs file tf, K.lookup cda = some ⟨ccl, cdd, .fields vs, ccs⟩ ∧ vs[2]? = some (.str file tf) ∧ ((prog.main.file : Str) == file) = true
  top : (prog.main.scope.names.lookup ("super" : Str)).isSome = false
  fn : ∃ (oc : Value) (od : Option Addr) (doc pm : Value) (an : Option Addr) (ct : Value) (osl : Array (Option Value)) (p1 p2 q1 q2 q3 q4 q5 q6 q7 q8 q9 r1 r2 r3 r4 : Pos),
    K.lookup fI = some ⟨oc, od, .func (ksFn "__init__" "TextError.__init__" (iA p1 p2) (iB q1 q2 q3 q4 q5 q6 q7 q8 q9 r1 r2 r3 r4) iS .none .none doc pm an (.ref cda) ct cc), osl⟩ ∧ codeIn K (.ref cda) "TextError.__init__" = true ∧ CallForm q1 q2 q3 q4 q5 q6 q7 q8 fI cc cda
theorem one_size (v : Value) : [v].length ≤ sizeLine := by
  rw [sizeLine_eq]
  exact (by decide : 1 ≤ 16777216)
section
variable {prog : Program} {w : World} {A : Around} {E : Value → Shared → Prop} {hh : Heap} {gg : Array GenState} {dd0 : Drawn} {tt : Nat} {oo : OsState}
variable {nmC qnC : Str} {C nsC : Addr} {bsC bmC : List Value} {hdC : Bool} {snC : List Str} {subC : List Value} {abC : Bool} {colC : Option Bool} {ddC : Option Addr} {kA kB kD kE kF : Option Value}
/-- the wrapper of ValueError.__init__ is called -/
theorem call_bw {wr x t0 : Addr} {vs : List Value} {Q : Value → Shared → Prop}
    (hC : hh.get? C = some (excClassObj nmC qnC C nsC bsC bmC hdC snC subC abC colC ddC kA kB kD kE kF "ValueError.__new__")) (hx : hh.get? x = some (excO C t0)) (hw : hh.get? wr = some (kxs_mw "ValueError.__init__" x)) (hl : vs.length ≤ sizeLine)
    (hq : ∀ h2 t2, (∀ b o, b ≠ x → hh.get? b = some o → h2.get? b = some o) → h2.get? x = some (excO C t2) → Q .none ⟨h2, gg, dd0, tt, oo⟩) :
    wpAny (model prog w) A (call (.ref wr) vs) Q E ⟨hh, gg, dd0, tt, oo⟩ := by
  have isW : (Value.type "method-wrapper" == Value.type "method" || Value.type "method-wrapper" == Value.type "builtin_function_or_method" || Value.type "method-wrapper" == Value.type "method-wrapper") = true := by decide
  apply wpAny_call
  apply codeAny_of_tree
  show wpAny (model prog w) A.in1 (callAny (.ref wr) ⟨vs, []⟩) _ _ _
  unfold callAny
  refine wpAny_bind (wpAny_load hw ?_)
  simp only [kxs_mw, isW, if_true]
  apply KFB.if_so (by decide)
  refine wpAny_bind (check_bound_init PySem.F.excBase_ValueError.toExcCallFacts hC hx rfl (wpAny_bind (wpAny_pure (wpAny_pure ?_))))
  exact ⟨plainId_quiet PySem.F.excBase_ValueError.init.plain _, codeAny_builtin PySem.F.excBase_ValueError.initEntry
    (exc_init_tree (cls := .ref C) (t0 := t0) (dv := none) (c2 := .none) (c3 := .none) (b4 := .bool false) hx hl fun h2 k e2 _ => hq h2 _ k e2)⟩
end
/-- what __init__ leaves of a fresh exception at x -/
structure InitEnd (h h' : Heap) (x C dx t1 : Addr) (v : Value) : Prop where
  keep : ∀ b o, b ≠ x → h.get? b = some o → h'.get? b = some o
  obj : h'.get? x = some { cls := .ref C, dict := some dx, data := .fields #[.ref t1, .none, .none, .none, .bool false, .none] }
  dbig : h.objs.size ≤ dx
  dne : dx ≠ x
  ns : h'.Ns1 dx (fun y => if y = "at" then some v else none)
theorem callWith_mw {M : Model} {A : Around} {E : Value → Shared → Prop} {s : Shared} {wr x : Addr} {nm : String} {pos : Pos} {pre : List Value} {env : Env} {e1 : Expr} {es : List Expr} {Q : Value → Shared → Prop}
    (hq : wpAny M A (spliced (backTo pos (starEach (e1 :: es) env))) (fun vs s1 => KxsAt nm wr x s1.heap ∧ wpAny M A (call (.ref wr) (pre ++ vs)) Q E s1) E s)
    (hs : starEach (e1 :: es) env = (false, eval e1 env) :: starEach es env := by rfl) (hp : (backTo pos (starEach es env)).any (·.1) = false := by rfl) :
    wpAny M A (callWith pos (.ref wr) pre (backTo pos (starEach (e1 :: es) env)) []) Q E s := by
  rw [hs] at hq ⊢
  have hp2 : (backTo pos ((false, eval e1 env) :: starEach es env)).any (·.1) = false := by
    show (false || (backTo pos (starEach es env)).any (·.1)) = false
    rw [hp]
    rfl
  exact kxs_callWith (i := nm) (x := x) hp2 (evalArgs_plain hq)
theorem fits_msg {n : Int} (hn : n.natAbs.log2 < 1920) : (("the text is wrong at position " : Str) ++ (Str.ofString (toString n))).length ≤ sizeLine := by
  have h1 := PyProof.Rows.int_text_len_1921 hn
  have h2 : (("the text is wrong at position " : Str) ++ (Str.ofString (toString n))).length = ("the text is wrong at position " : Str).length + (Str.ofString (toString n)).length := by
    first | exact Str.length_append _ _ | simp
  have h3 : ("the text is wrong at position " : Str).length = 30 := by decide +kernel
  rw [h2, h3, sizeLine_eq]
  omega
structure OwnMade (h h' : Heap) (e C d : Addr) (v : Value) : Prop where
  keep : ∀ b o, h.get? b = some o → h'.get? b = some o
  new : h.objs.size ≤ e
  obj : ∃ oe vs, h'.get? e = some oe ∧ oe.cls = .ref C ∧ oe.dict = some d ∧ oe.data = .fields vs ∧ vs[1]? = some .none
  dbig : h.objs.size ≤ d
  dne : d ≠ e
  ns : h'.Ns1 d (fun y => if y = "at" then some v else none)
section
variable {prog : Program} {w : World} {A : Around} {E : Value → Shared → Prop} {R : Result → Shared → Prop} {s : Shared} {K : Frag} {mg : Str → Option Value} {C fI cc cda : Addr}
theorem te_init (T : TeTxt prog K mg C fI cc cda) {x t0 : Addr} {n : Int} {tn : Tok} (hn : n.natAbs.log2 < 1920) (X : K.In s.heap) (G : s.heap.Ns mainGlobals mg) (Bt : ∃ mb, s.heap.Ns builtinsNs mb ∧ ∀ x : Str, x ≠ "__name__" → mb x = bootBuiltins x)
    (hlim : s.heap.NoLimit) (hx : s.heap.get? x = some (excO C t0)) (hnx : K.lookup x = none) (hroom : A.depth < recursionLimit)
    (hq : ∀ h' tk dx t1, InitEnd s.heap h' x C dx t1 (.int n tn) → R (.ok (.ret .none)) { s with heap := h', toks := tk }) :
    codeAny (model prog w) A (.call (.ref fI) ⟨[.ref x, .int n tn], []⟩) R s := by
  obtain ⟨oc, od, doc, pm, an, ct, osl, p1, p2, q1, q2, q3, q4, q5, q6, q7, q8, q9, r1, r2, r3, r4, ho, hcd, hform⟩ := T.fn
  obtain ⟨nm, q, N, bs, bm, sn, sub, ab, col, dd, k0, k1, k2, k3, k5, hC, hbm⟩ := T.cls
  obtain ⟨cl, cld, csl, hcell⟩ := T.cell
  obtain ⟨ccl, cdd, vs, ccs, file, tf, hcode, hvs, hfile⟩ := T.code
  obtain ⟨mb, hb1, hb2⟩ := Bt
  have hcl : clsIn K C = some { name := nm, bases := bs, mro := .ref C :: bm, ns := N, qualname := q, hasDict := true, slotNames := sn, subclasses := sub, abstract := ab, collection := col, hasDel := false } := by unfold clsIn; rw [hC] <;> rfl
  refine ks_codeAny_call_defAt (fd := ksFn "__init__" "TextError.__init__" (iA p1 p2) (iB q1 q2 q3 q4 q5 q6 q7 q8 q9 r1 r2 r3 r4) iS .none .none doc pm an (.ref cda) ct cc) (body := iB q1 q2 q3 q4 q5 q6 q7 q8 q9 r1 r2 r3 r4)
    (binds := [("self", .ref x), ("at", .int n tn)]) hroom (X _ _ ho) rfl hlim (codeRec_of X hcd) rfl (BindsTo.of_eq rfl) (by show ∀ x ∈ iS.names, x.2 ≠ NameKind.cell; decide) (fun y hy => ?_) (fun h₁ hns k => ?_)
  · have e : y = (("self" : Str), Value.ref x) ∨ y = (("at" : Str), Value.int n tn) := by simpa using hy
    rcases e with rfl | rfl <;> rfl
  have X₁ : K.In h₁ := X.keeps k
  have hx₁ := k _ _ hx
  have hxL : s.heap.objs.size ≠ x := Nat.ne_of_gt (Heap.lt_size hx)
  obtain ⟨sh, sg, sd, st, sos⟩ := s
  obtain ⟨pl, hform⟩ := hform sh.objs.size
  refine ks_wpAt_execs_cons (ks_wpAt_Expr_any (ks_wpAt_MethodCall (pl := pl) ?_ hform))
  refine ks_wpAt_super_base (vs := vs) (hks := rfl) (hkc := rfl) (hat := by decide) (hfu := rfl) (hf := k _ _ (X _ _ ho)) (hfd := rfl) (hp := rfl) (hco := rfl) (hcc := k _ _ (X _ _ hcode)) (hoc := rfl) hvs hfile T.top ?_
  refine ks_loadName_global rfl rfl (loadGlobal_builtin (G.keeps k) T.ms (hb1.keeps k) ((hb2 _ (by decide)).trans (by first | boot_by_name | rfl | kernel_rfl)) ⟨rfl, ?_⟩)
  refine wpAny_loadName_free rfl rfl rfl ⟨_, k _ _ (X _ _ hcell), rfl⟩ ?_
  refine wpAny_loadName_local rfl rfl hns rfl ?_
  refine ks_wpAny_isType_cls (X₁ _ _ hC) rfl ⟨rfl, ?_⟩
  refine ks_wpAny_call_super (X₁ _ _ hC) rfl hx₁ rfl (fun c e => nomatch e) (looks_mroIn X₁ T.mr) (fun h₂ e₂ k₂ => ?_)
  have X₂ : K.In h₂ := X₁.keeps k₂
  have hx₂ := k₂ _ _ hx₁
  have I₁ : InstAt h₁ x (excO C t0) C none := ⟨hx₁, rfl, rfl, trivial⟩
  have I₂ : InstAt h₂ x (excO C t0) C none := ⟨hx₂, rfl, rfl, trivial⟩
  have hIs : Looks (model prog w) h₂ (isInstance (.ref x) (.type "ValueError")) true := I₂.type.andThen (looks_subIn X₂ T.vE)
  have hxC : x ≠ C := ks_ne X₁ I₁ hcl
  have su : alongIn K "__init__" (((Value.ref C :: bm).dropWhile (· != .ref C)).drop 1) = some (some (.builtin "ValueError.__init__")) := by
    have z := T.su
    unfold ks_superIn at z
    rw [hcl] at z
    exact z
  refine kxs_getMethod kxs_ValueError e₂ (looks_opaque X₂ T.op) (l₀ := .ref C :: bm) (fun A Q E s k q => wpAny_bind ((looks_clsIn X₂ hcl) A _ E s k (wpAny_pure q))) rfl X₂ su hIs hxC (by decide) ?_
  have e₃ : (h₂.push (kxs_mw "ValueError.__init__" x)).get? h₂.objs.size = some (kxs_mw "ValueError.__init__" x) := Heap.get?_push_at rfl rfl
  have k₃ : ∀ b o, h₂.get? b = some o → (h₂.push (kxs_mw "ValueError.__init__" x)).get? b = some o := fun b o e => Heap.get?_push_of_some _ e
  generalize h₂.push (kxs_mw "ValueError.__init__" x) = h₃ at e₃ k₃
  generalize h₂.objs.size = u at e₃
  have hns₃ := (hns.keeps k₂).keeps k₃
  refine callWith_mw (nm := "ValueError.__init__") (x := x) (spliced_more ?_)
  refine wpAny_JoinedStr ?_
  refine wpAny_Constant_str ⟨_, _, rfl, by first | decide +kernel | size_fits, ?_⟩
  refine wpAny_FormattedValue_plain ?_
  refine wpAny_Name (wpAny_loadName_local rfl rfl hns₃ rfl ?_)
  refine wpAny_formatField_int hn ⟨_, _, rfl, fits_msg hn, ?_⟩
  refine ⟨fits_msg hn, spliced_none ⟨e₃, ?_⟩⟩
  have X₃ : K.In h₃ := X₂.keeps k₃
  refine call_bw (X₃ _ _ hC) (k₃ _ _ hx₂) e₃ (one_size _) (fun h₄ t1 k₄ hx₄ => ?_)
  have hns₄ : h₄.Ns sh.objs.size (fun y => ([(("self" : Str), Value.ref x), (("at" : Str), Value.int n tn)] : List (Str × Value)).reverse.lookup y) := by
    obtain ⟨oL, es, ep, hL, r⟩ := hns₃
    exact ⟨oL, es, ep, k₄ _ _ hxL hL, r⟩
  have X₄ : K.In h₄ := fun a o e => k₄ a o (fun z => by rw [z, hnx] at e; cases e) (X₃ a o e)
  show _root_.PySem.wpAt _ _ _ (execs _ _) _ _ _
  refine wpAt_of_wpAny ?_
  refine wpAny_execs_cons (plainObj_wpAny_Assign_Attribute ?_)
  refine wpAny_Name (wpAny_loadName_local rfl rfl hns₄ rfl ?_)
  refine wpAny_Name (wpAny_loadName_local rfl rfl hns₄ rfl ?_)
  refine set_plain X₄ (ox := excO C t1) (od := none) ⟨hx₄, rfl, rfl, trivial⟩ T.sa ?_
  refine exc_osa X₄ hx₄ hcl (show refsVE (.ref C :: bm) = true from hbm) rfl T.noN (fun h₅ tk₅ dx k₅ dn dne hx₅ hn₅ => ?_)
  show wpAny _ _ (execs _ _) _ _ _
  have kk : ∀ b o, b ≠ x → sh.get? b = some o → h₅.get? b = some o := fun b o hb e => k₅ b o hb (k₄ b o hb (k₃ _ _ (k₂ _ _ (k b o e))))
  refine wpAny_execs_nil (hq h₅ tk₅ dx t1 ⟨kk, hx₅, ?_, dne, hn₅⟩)
  refine Nat.le_trans ?_ dn
  have z : sh.objs.size < h₄.objs.size := hns₄.lt
  exact Nat.le_of_lt z
theorem te_made (T : TeTxt prog K mg C fI cc cda) {n : Int} {tn : Tok} (hn : n.natAbs.log2 < 1920) (X : K.In s.heap) (G : s.heap.Ns mainGlobals mg) (Bt : ∃ mb, s.heap.Ns builtinsNs mb ∧ ∀ x : Str, x ≠ "__name__" → mb x = bootBuiltins x)
    (hlim : s.heap.NoLimit) (hroom : A.depth + 1 < recursionLimit)
    (hq : ∀ h' tk e d, OwnMade s.heap h' e C d (.int n tn) → R (.ok (.ret (.ref e))) { s with heap := h', toks := tk }) :
    codeAny (model prog w) A (.call (.ref C) ⟨[.int n tn], []⟩) R s := by
  obtain ⟨nm, q, N, bs, bm, sn, sub, ab, col, dd, k0, k1, k2, k3, k5, hC, hbm⟩ := T.cls
  obtain ⟨hp, g, dr, tk, os⟩ := s
  have k : ∀ b o, hp.get? b = some o → ((hp.push (kdv_tup [.int n tn])).push (excO C hp.objs.size)).get? b = some o := fun b o e => Heap.get?_push_of_some _ (Heap.get?_push_of_some _ e)
  have hget : ((hp.push (kdv_tup [.int n tn])).push (excO C hp.objs.size)).get? (hp.objs.size + 1) = some (excO C hp.objs.size) := by heap_get
  have hnx : K.lookup (hp.objs.size + 1) = none := by
    cases e : K.lookup (hp.objs.size + 1) with
    | none => rfl
    | some o =>
      have z : hp.get? (hp.objs.size + 1) = some o := X _ _ e
      exact absurd (Nat.lt_of_succ_lt (Heap.lt_size z)) (Nat.lt_irrefl _)
  obtain ⟨mb, hb1, hb2⟩ := Bt
  refine call_own F.excBase_ValueError (fun X => refsVE_contains X bm hbm) (X _ _ hC) (looks_findIn X T.iC) (fun self => bind_fn X self T.tC) (one_size _) ?_
  refine te_init (s := ⟨(hp.push (kdv_tup [.int n tn])).push (excO C hp.objs.size), g, dr, tk, os⟩) T hn (X.keeps k) (G.keeps k) ⟨mb, hb1.keeps k, hb2⟩ (hlim.keeps k) hget hnx ?_ fun h' tk' dx t1 ⟨k', hx, dn, dne, hns⟩ => ?_
  · show A.depth + 1 < recursionLimit
    exact hroom
  · have old : ∀ b o, hp.get? b = some o → h'.get? b = some o := fun b o e => k' b o (Nat.ne_of_lt (Nat.lt_succ_of_lt (Heap.lt_size e))) (k b o e)
    have z : hp.objs.size + 1 + 1 ≤ dx := by
      first
        | (simpa only [Heap.size_push] using dn)
        | exact dn
        | (have q := dn; rw [Heap.size_push, Heap.size_push] at q; exact q)
    exact ⟨rfl, hq h' tk' (hp.objs.size + 1) dx ⟨old, Nat.le_succ _, ⟨_, _, hx, rfl, rfl, rfl, rfl⟩, Nat.le_trans (Nat.le_trans (Nat.le_succ _) (Nat.le_succ _)) z, dne, hns⟩⟩
end
end TeX
end PySem
namespace L2
open PySem PySem.Spec PyProof.Rows
theorem relO_at {v : V} {v' : Value} (r : RelV v v') (f : Str) : RelO (List.lookup f [(("at" : Str), v)]) (if f = "at" then some v' else none) := by
  by_cases hw : f = "at"
  · subst hw
    rw [if_pos rfl]
    have q : List.lookup ("at" : Str) [(("at" : Str), v)] = some v := by simp [List.lookup]
    rw [q]
    exact r
  · rw [if_neg hw]
    have qw : (f == ("at" : Str)) = false := by simpa using hw
    have q2 : List.lookup f [(("at" : Str), v)] = none := by simp [List.lookup, qw]
    rw [q2]
    trivial
section
variable {X : Cx} {C fI cc cda : Addr}
/-- TextError(e) -/
def tMkTe (C : Addr) (ta : TA) : St → Hp → XK → Prop := fun σ H Q => ta σ H fun vs H1 => ∃ n : Int, vs = [.int n] ∧ n.natAbs.log2 < 1920 ∧ ∀ d, H1 d = none → Q (.ref C) (some d) (upd H1 d (.xd [(("at" : Str), .int n)]))
theorem pmk_te {a : Expr} {ta : TA} {p pos : Pos} {k : Nat} (T : PySem.TeX.TeTxt X.prog X.K X.mg C fI cc cda) (hr : Room k X.A) (ha : PA X [a] ta) (hg : Gl X "TextError" := by rfl)
    (he : starEach (a :: []) X.env = (false, eval a X.env) :: starEach [] X.env := by rfl) (hpl : (backTo pos (starEach [] X.env)).any (·.1) = false := by rfl) :
    PMk X (.Call (.Name "TextError" p) [a] [] pos) (tMkTe C ta) := by
  intro pins s σ H Q I h
  refine wpAny_Call_Name_kw (ld_glob I hg T.gC ?_)
  refine PySem.W.callWith_K (h₀ := X.base) I.ok.mod.kin T.kC (thn (ha.run pos pins s σ H _ I h) fun us s1 hh => ?_) he hpl
  obtain ⟨vs, H1, I1, r1, n, ev, hn, q1⟩ := hh
  subst ev
  refine ⟨I1.kIn, ?_⟩
  cases r1 with
  | cons rv rn =>
    rename_i v' us'
    cases rn
    obtain ⟨tn, rfl⟩ := id rv
    show wpAny _ _ (call (.ref C) [Value.int n tn]) _ _ _
    have hlim := I1.nolimit
    have hG := I1.ok.mod.glob.keeps I1.bk
    obtain ⟨mb, hb1, hb2⟩ := I1.ok.mod.blt
    have hB : ∃ mb, s1.heap.Ns builtinsNs mb ∧ ∀ x : Str, x ≠ "__name__" → mb x = bootBuiltins x := ⟨mb, hb1.keeps I1.bk, hb2⟩
    obtain ⟨hp, g, dr, tk, os⟩ := s1
    refine wpAny_call (PySem.TeX.te_made T hn I1.kIn hG hB hlim (by have := hr.dp; omega) fun h' tk' e d M => ?_)
    show MkP X pins σ Q (.ref e) ⟨h', g, dr, tk', os⟩
    obtain ⟨oe, fv, hoe, hc, hd, hdat, h1⟩ := M.obj
    have hns := M.ns
    obtain ⟨G', g1, g2⟩ := restrict h' fun b => decide (b ≠ e)
    have gk : ∀ b, b ≠ e → G'.get? b = h'.get? b := fun b hb => g1 b (decide_eq_true hb)
    have ge : G'.get? e = none := g2 e (by simp)
    have old : ∀ b o, hp.get? b = some o → G'.get? b = some o := fun b o q => (gk b (Nat.ne_of_lt (Nat.lt_of_lt_of_le (Heap.lt_size q) M.new))).trans (M.keep b o q)
    have ob : ObjOk X.prog X.w (upd H1 d (.xd [(("at" : Str), .int n)])) G' d (.xd [(("at" : Str), .int n)]) :=
      ⟨_, hns.at (fun o q => (gk d M.dne).trans q), fun f => relO_at rv f⟩
    have J : Inv X pins σ (upd H1 d (.xd [(("at" : Str), .int n)])) ⟨G', g, dr, tk', os⟩ := I1.laid (t' := tk') old M.dbig ob
    refine ⟨e, oe, fv, ⟨G', g, dr, tk', os⟩, _, .ref C, some d, rfl, J, fun b o q => ?_, ge, hoe, ⟨hc, hd⟩, hdat, h1, ?_, rfl, I1.bare, raises_own T.exC T.tyC, q1 d (I1.hok.fresh M.dbig)⟩
    · by_cases hb : b = e
      · have q' : G'.get? b = some o := q
        rw [hb, ge] at q'; cases q'
      · exact (gk b hb).symm.trans q
    · rw [upd_ne (Ne.symm M.dne)]
      exact I1.hok.fresh M.new
/-- raise TextError(e) -/
def tRaiseTe (C : Addr) (W : WX) (ta : TA) : TS := fun _ σ H => tMkTe C ta σ H fun cls d H' => W cls d σ H'
theorem ps_raiseTe {a : Expr} {ta : TA} {W : WX} {p pos pos2 : Pos} {k : Nat} (hc : X.calm = true) (T : PySem.TeX.TeTxt X.prog X.K X.mg C fI cc cda) (hr : Room k X.A) (tk : Takes X W) (ha : PA X [a] ta) (hg : Gl X "TextError" := by rfl)
    (he : starEach (a :: []) X.env = (false, eval a X.env) :: starEach [] X.env := by rfl) (hpl : (backTo pos (starEach [] X.env)).any (·.1) = false := by rfl) :
    PS X (.Raise (some (.Call (.Name "TextError" p) [a] [] pos)) none pos2) (tRaiseTe C W ta) := ps_raise hc tk (pmk_te T hr ha hg he hpl)
/-- e.at, e the exception that the suite holds (at a; its class cls, its dict d) -/
def tByTe (C : Addr) (a : Addr) (cls : Value) (d : Option Addr) (te : TE) : TE := fun σ H Q => te σ H fun x H1 => x = .ref a ∧ cls = .ref C ∧ ∃ (dd : Addr) (v : V), d = some dd ∧ H1 dd = some (.xd [(("at" : Str), v)]) ∧ Q v H1
theorem pe_byTe {a : Addr} {oe : Obj} {cls : Value} {d : Option Addr} {pn : List (Addr × Obj)} {e : Expr} {te : TE} {pos : Pos} (T : PySem.TeX.TeTxt X.prog X.K X.mg C fI cc cda) (hz : Zc cls d oe) (hf : ∃ vs, oe.data = .fields vs) (he : PE (X.suite a ((a, oe) :: pn)) e te)
    (hb : attributeBase e "at" X.env (eval e X.env) = eval e X.env := by rfl) :
    PE (X.suite a ((a, oe) :: pn)) (.Attribute e "at" pos) (tByTe C a cls d te) := by
  refine ⟨fun pins s σ H Q I h => ?_⟩
  refine attr_of hb (thn (he.run pins s σ H _ I h) fun u s1 hh => ?_)
  obtain ⟨x, H1, I1, rx, ex, ec, dd, v, ed, ea, q⟩ := hh
  subst ex
  obtain rfl : u = Value.ref a := rx
  subst ec
  subst ed
  obtain ⟨ha, _⟩ := I1.pin (a, oe) (List.mem_append_left _ List.mem_cons_self)
  obtain ⟨vs, hd⟩ := hf
  have hx : ObjOk X.prog X.w H1 s1.heap dd (.xd [(("at" : Str), v)]) := I1.hok dd _ ea
  obtain ⟨mA, hns, hr⟩ := hx
  obtain ⟨od, ho, hl⟩ := lookIn_ns hns
  have l : List.lookup ("at" : Str) [(("at" : Str), v)] = some v := by simp [List.lookup]
  obtain ⟨u, hu, ru⟩ := RelO.some_of (v := v) (o := mA "at") (by rw [← l]; exact hr "at")
  have J : PySem.W.InstAt s1.heap a oe C (some od) := ⟨ha, hz.1, by unfold PySem.W.notCls; rw [hd] <;> rfl, by rw [hz.2]; exact ho⟩
  exact HandSPX.exc_get I1.kIn J T.ga T.gg T.exC (PySem.W.findObj_own T.hdC T.noN rfl (by rw [hl, hu])) (handed_of ru) ⟨v, H1, I1.tok _, ru, q⟩
end
/-- an error of the class at S is what «except S» names -/
theorem exm_self {K : PySem.W.Frag} {S : Addr} (h1 : PySem.W.subIn K (.ref S) (.type "BaseException") = some true) (h2 : PySem.W.isClsIn K S = true) (h3 : PySem.W.typeIn K (.ref S) = some (.type "type")) (h4 : PySem.W.subIn K (.ref S) (.ref S) = some true) :
    PySem.W.exmOne K (.ref S) (.ref S) = some true := by
  have e1 : (PySem.W.subIn K (.ref S) (.type "BaseException") == some true) = true := by rw [h1] <;> rfl
  have e2 : ((PySem.W.clsIn K S).isSome && PySem.W.typeIn K (.ref S) == some (.type "type")) = true := by
    have h2' : (PySem.W.clsIn K S).isSome = true := h2
    rw [h2', h3] <;> rfl
  show (if (PySem.W.subIn K (.ref S) (.type "BaseException") == some true) = true then (if ((PySem.W.clsIn K S).isSome && PySem.W.typeIn K (.ref S) == some (.type "type")) = true then PySem.W.subIn K (.ref S) (.ref S) else none) else none) = some true
  rw [if_pos e1, if_pos e2]
  exact h4
end L2

namespace L2
open PySem PySem.Spec PyProof.Rows
section
variable {X : Cx}
/-- text * int -/
def rMulS : R2 := fun x y H Q => ∃ i n, x = .str i ∧ y = .int n ∧ MulOk i n ∧ Q (.str (Txt.mul i n)) H
theorem op_mulS : OpR X (binaryOp .Mult) rMulS := by
  intro pins s σ H x y v u Q I rx ry h
  obtain ⟨i, n, rfl, rfl, hz, q⟩ := h
  obtain ⟨t, rfl⟩ := rx
  obtain ⟨t', rfl⟩ := ry
  exact PySem.SB.mul hz (fun t' tk => ⟨.str (Txt.mul i n), H, I.tok _, ⟨_, rfl⟩, q⟩)
/-- isinstance(e, c), e the exception that the suite holds, with its own dict -/
def rIsO (K : PySem.W.Frag) (a : Addr) (cls : Value) (d : Option Addr) : List V → Hp → VK → Prop := fun xs H Q =>
  ∃ (D dd : Addr) (fs : List (Str × V)) (c : V) (cv : Value) (b : Bool), cls = .ref D ∧ d = some dd ∧ ExcC K D ∧ H dd = some (.xd fs) ∧ xs = [.ref a, c] ∧ (∀ u, RelV c u → u = cv) ∧ PySem.W.kitOne K (.ref D) cv = some b ∧ Q (.bl b) H
theorem call_isO {a : Addr} {cls : Value} {d : Option Addr} {oe : Obj} {pn : List (Addr × Obj)} (hz : Zc cls d oe) (hf : ∃ vs, oe.data = .fields vs) :
    CallR (X.suite a ((a, oe) :: pn)) (.builtin "isinstance") (rIsO X.K a cls d) := by
  intro pins s σ H xs us Q I r ⟨D, dd, fs, c, cv, b, ec, ed, C, hd, exs, hcv, hk, q⟩
  subst exs ec ed
  obtain ⟨u1, u2, rfl, r1, r2⟩ : ∃ u1 u2, us = [u1, u2] ∧ RelV (.ref a) u1 ∧ RelV c u2 := by
    cases r with
    | cons ra rr => cases rr with
      | cons rb rc => cases rc; exact ⟨_, _, rfl, ra, rb⟩
  have e1 : u1 = Value.ref a := r1
  subst e1
  have e2 := hcv _ r2
  subst e2
  have hget := (I.pin (a, oe) (List.mem_append.mpr (.inl List.mem_cons_self))).1
  obtain ⟨vs, hv⟩ := hf
  have hx : ObjOk X.prog X.w H s.heap dd (.xd fs) := I.hok dd _ hd
  obtain ⟨mA, hns, _⟩ := hx
  obtain ⟨od, ho, _⟩ := lookIn_ns hns
  have J : PySem.W.InstAt s.heap a oe D (some od) := ⟨hget, hz.1, by unfold PySem.W.notCls; rw [hv] <;> rfl, by rw [hz.2]; exact ho⟩
  have hcl : (PySem.W.clsIn X.K D).isSome = true := by
    obtain ⟨cd, hc, _⟩ := PySem.W.any_some C.hd
    rw [hc]
    rfl
  exact PySem.W.kia_one (PySem.W.kitx_exc hcl C.hg C.hk C.hs C.ha C.hn C.ht C.hm) I.kIn J hk (fun z => nomatch z) fun tk => ⟨.bl b, H, I.kept (t' := tk) fun _ _ z => z, rfl, q⟩
end
end L2

namespace L2
open PySem PySem.Spec PyProof.Rows PySem.W
open Builtin
/-! ### list(enumerate(a list)) -/
abbrev EnB (hw0 : Heap) (en it : Addr) (i : Int) (old : Value) (a : Addr) (f : Bool) : Prop :=
  hw0.get? en = some { cls := .type "enumerate", dict := none, data := .fields #[rawInt a, .bool f, .ref it, rawInt i, .none, old], slots := #[] }
section
variable {pgm : Program} {wd : World} {A : Around} {E : Value → Shared → Prop} {s : Shared}
theorem enb_next {en it l a : Addr} {i : Nat} {items : Array Value} {x old : Value} {f : Bool} {oa : Obj} {Qk : Option Value → Shared → Prop}
    (kE : EnB s.heap en it i old a f) (kT : s.heap.IsListIter it l i) (kL : s.heap.IsList l items) (kX : items[i]? = some x) (kN : en ≠ it) (kA : s.heap.get? a = some oa) (ae : a ≠ en) (ai : a ≠ it)
    (hQ : ∀ hw1, EnB hw1 en it ((i : Int) + 1) old a true → hw1.IsListIter it l (i + 1) →
      hw1.get? s.heap.objs.size = some { cls := .type "tuple", data := .seq #[.int i s.toks, x] } → hw1.objs.size = s.heap.objs.size + 1 →
      (∀ b o, b ≠ en → b ≠ it → s.heap.get? b = some o → hw1.get? b = some o) → Qk (some (.ref s.heap.objs.size)) { s with heap := hw1, toks := s.toks + 1 }) :
    wpAny (model pgm wd) A (pyNext (.ref en)) Qk E s := by
  have kTy : s.TypeIs (.ref en) "enumerate" := ⟨_, kE, rfl⟩
  obtain ⟨hq, gq, dq, tkn, oq⟩ := s
  unfold pyNext
  refine wpAny_bind (wpAny_attempt (wpAny_callSpecial?_slot (name := Str.ofString "__next__") kTy PySem.F.slot_enumerate_next (wpAny_call_entry PySem.F.slot_enumerate_next kTy PySem.F.entry_enumerate_next ?_ (PySem.F.args_enumerate_next_1 _))))
  show wpAny _ _ (field (.ref en) 2 >>= _) _ _ _
  refine wpAny_bind (wpAny_field kE rfl (x := .ref it) rfl (wpAny_bind (wpAny_nextOf_list_item kT kL kX fun h₁ kT1 sb1 => ?_)))
  replace sb1 : Heap.SameBut it hq h₁ := sb1
  have kE1 : EnB h₁ en it i old a f := (sb1.2 en kN).trans kE
  show wpAny _ _ (field (.ref en) 3 >>= _) _ _ ⟨h₁, gq, dq, tkn, oq⟩
  refine wpAny_bind (wpAny_field kE1 rfl (x := rawInt i) rfl ?_)
  show wpAny _ _ (field (.ref en) 4 >>= _) _ _ ⟨h₁, gq, dq, tkn, oq⟩
  refine wpAny_bind (wpAny_field kE1 rfl (x := .none) rfl ?_)
  show wpAny _ _ (mkInt i >>= _) _ _ ⟨h₁, gq, dq, tkn, oq⟩
  refine wpAny_bind (wpAny_mkInt ?_); show wpAny _ _ (setField (.ref en) 3 (rawInt ((i : Int) + 1)) >>= _) _ _ ⟨h₁, gq, dq, tkn + 1, oq⟩
  refine wpAny_bind (wpAny_setField_rec kE1 (by simp) fun h₂ kE2 sb2 => ?_)
  replace sb2 : Heap.SameBut en h₁ h₂ := sb2
  replace kE2 : EnB h₂ en it ((i : Int) + 1) old a f := kE2
  show wpAny _ _ (setField (.ref en) 4 .none >>= _) _ _ ⟨h₂, gq, dq, tkn + 1, oq⟩
  refine wpAny_bind (wpAny_setField_rec kE2 (by simp) fun h₃ kE3 sb3 => ?_)
  replace sb3 : Heap.SameBut en h₂ h₃ := sb3
  replace kE3 : EnB h₃ en it ((i : Int) + 1) old a f := kE3
  show wpAny _ _ (newTuple [.int i tkn, x] >>= _) _ _ ⟨h₃, gq, dq, tkn + 1, oq⟩
  refine wpAny_bind (wpAny_newTuple ?_); have kE4 : EnB (h₃.push { cls := .type "tuple", data := .seq #[.int i tkn, x] }) en it ((i : Int) + 1) old a f := Heap.get?_push_of_some _ kE3
  generalize e4 : h₃.push { cls := .type "tuple", data := .seq #[.int i tkn, x] } = h₄ at kE4
  have z3 : h₃.objs.size = hq.objs.size := by rw [sb3.1, sb2.1, sb1.1]
  have lE : en < hq.objs.size := Heap.lt_size kE
  have t4 : h₄.get? hq.objs.size = some { cls := .type "tuple", data := .seq #[.int i tkn, x] } := by
    rw [← e4, ← z3]
    exact Heap.get?_push_size _ rfl
  have z4 : h₄.objs.size = hq.objs.size + 1 := by rw [← e4, Heap.size_push, z3]
  have k4 : ∀ b o, b ≠ en → b ≠ it → hq.get? b = some o → h₄.get? b = some o := fun b o be bi hb => by
    rw [← e4]
    exact Heap.get?_push_of_some _ (sb3.extBut b o be (sb2.extBut b o be (sb1.extBut b o bi hb)))
  have kT4 : h₄.IsListIter it l (i + 1) := by
    rw [← e4]
    obtain ⟨o, ho, r⟩ := (kT1.extBut sb2.extBut (Ne.symm kN)).extBut sb3.extBut (Ne.symm kN)
    exact ⟨o, Heap.get?_push_of_some _ ho, r⟩
  show wpAny _ _ (Builtin.SmallTypes.ownedTupleIsFree (.ref en) >>= _) _ _ ⟨h₄, gq, dq, tkn + 1, oq⟩
  rw [z3]
  clear e4 kE3 sb3 kE2 sb2 kE1 sb1 kT1 z3
  refine wpAny_bind ?_
  have kA4 : h₄.get? a = some oa := k4 a oa ae ai kA
  unfold Builtin.SmallTypes.ownedTupleIsFree; refine wpAny_bind (wpAny_field kE4 rfl (x := rawInt a) rfl ?_)
  show wpAny _ _ (loadIfAlive ((a : Int).toNat) >>= _) _ _ _; rw [Int.toNat_natCast]
  refine wpAny_bind (kdx_alive kA4 ?_)
  simp only [Option.isNone_some, Bool.false_eq_true, if_false]
  refine wpAny_bind (wpAny_field kE4 rfl (x := .bool f) rfl ?_)
  have fin : ∀ h₅ : Heap, EnB h₅ en it ((i : Int) + 1) old a true → Heap.SameBut en h₄ h₅ → Qk (some (.ref hq.objs.size)) ⟨h₅, gq, dq, tkn + 1, oq⟩ := fun h₅ kE5 sb5 =>
    hQ h₅ kE5 (kT4.extBut sb5.extBut (Ne.symm kN)) (sb5.extBut _ _ (Nat.ne_of_gt lE) t4) (by show h₅.objs.size = _; rw [sb5.1, z4]) fun b o be bi hb => sb5.extBut b o be (k4 b o be bi hb)
  cases f with
  | true =>
    rw [if_neg (show ¬ ((Value.bool true != Value.bool true) = true) from Bool.false_ne_true)]; refine wpAny_pure ?_
    simp only [Bool.false_eq_true, if_false]
    exact wpAny_pure ⟨_, rfl, wpAny_pure (fin h₄ kE4 (Heap.SameBut.refl _ _))⟩
  | false =>
    rw [if_pos (show (Value.bool false != Value.bool true) = true from rfl)]; refine wpAny_bind (wpAny_setField_rec kE4 (by simp) fun h₅ kE5 sb5 => wpAny_pure ?_)
    simp only [Bool.false_eq_true, if_false]
    exact wpAny_pure ⟨_, rfl, wpAny_pure (fin h₅ kE5 sb5)⟩
theorem enb_done {en it l a : Addr} {i : Nat} {items : Array Value} {old : Value} {f : Bool} {Qk : Option Value → Shared → Prop} (hh : A.handled = none)
    (kE : EnB s.heap en it i old a f) (kT : s.heap.IsListIter it l i) (kL : s.heap.IsList l items) (kX : items[i]? = none)
    (hQ : ∀ hw1, Heap.ExtBut it s.heap hw1 → Qk none { s with heap := hw1 }) : wpAny (model pgm wd) A (pyNext (.ref en)) Qk E s := by
  have kTy : s.TypeIs (.ref en) "enumerate" := ⟨_, kE, rfl⟩
  unfold pyNext
  refine wpAny_bind (wpAny_attempt (wpAny_callSpecial?_slot (name := Str.ofString "__next__") kTy PySem.F.slot_enumerate_next (wpAny_call_entry PySem.F.slot_enumerate_next kTy PySem.F.entry_enumerate_next ?_ (PySem.F.args_enumerate_next_1 _))))
  show wpAny _ _ (field (.ref en) 2 >>= _) _ _ _
  refine wpAny_bind (wpAny_field kE rfl (x := .ref it) rfl (wpAny_bind (wpAny_nextOf_list_end hh kT kL kX fun hw1 x eb hx => ?_)))
  obtain ⟨o, ho, hc⟩ := hx
  exact wpAny_bind (wpAny_isInstance (T := "StopIteration") (b := true) ⟨o, ho, hc⟩ isSubtype_stop (wpAny_pure (hQ _ eb)))
/-- where it stands before its i-th turn, nothing of it let go -/
def EnSt (hw0 : Heap) (en it Sx : Addr) (i : Nat) : Prop := (i = 0 ∧ IsEnum hw0 en it 0 .none) ∨ ∃ (old : Value) (a : Addr) (f : Bool) (oa : Obj), EnB hw0 en it i old a f ∧ hw0.get? a = some oa ∧ a ≠ en ∧ a ≠ it ∧ a ≠ Sx
theorem enst_next {en it l Sx : Addr} {i : Nat} {items : Array Value} {x : Value} {Qk : Option Value → Shared → Prop}
    (kE : EnSt s.heap en it Sx i) (kT : s.heap.IsListIter it l i) (kL : s.heap.IsList l items) (kX : items[i]? = some x) (kN : en ≠ it) (lS : Sx < s.heap.objs.size)
    (hQ : ∀ hw1, EnSt hw1 en it Sx (i + 1) → hw1.IsListIter it l (i + 1) →
      hw1.get? s.heap.objs.size = some { cls := .type "tuple", data := .seq #[.int i s.toks, x] } → hw1.objs.size = s.heap.objs.size + 1 →
      (∀ b o, b ≠ en → b ≠ it → s.heap.get? b = some o → hw1.get? b = some o) → Qk (some (.ref s.heap.objs.size)) { s with heap := hw1, toks := s.toks + 1 }) :
    wpAny (model pgm wd) A (pyNext (.ref en)) Qk E s := by
  have ei : ((i + 1 : Nat) : Int) = (i : Int) + 1 := by omega
  have lT : it < s.heap.objs.size := by
    obtain ⟨_, q, _⟩ := kT
    exact Heap.lt_size q
  rcases kE with ⟨rfl, kE⟩ | ⟨old, a, f, oa, kE, kA, ae, ai, aS⟩
  · exact wpAny_pyNext_enum_item kE kT kL kX kN fun hw1 k1 k2 k3 k4 k5 => hQ hw1 (.inr ⟨_, _, false, _, by unfold EnB; rw [ei]; exact k1, k3, Nat.ne_of_gt (Heap.lt_size kE), Nat.ne_of_gt lT, Nat.ne_of_gt lS⟩) k2 k3 k4 k5
  · exact enb_next kE kT kL kX kN kA ae ai fun hw1 k1 k2 k3 k4 k5 => hQ hw1 (.inr ⟨_, _, true, _, by unfold EnB; rw [ei]; exact k1, k5 a oa ae ai kA, ae, ai, aS⟩) k2 k3 k4 k5
theorem enst_done {en it l Sx : Addr} {i : Nat} {items : Array Value} {Qk : Option Value → Shared → Prop} (hh : A.handled = none)
    (kE : EnSt s.heap en it Sx i) (kT : s.heap.IsListIter it l i) (kL : s.heap.IsList l items) (kX : items[i]? = none)
    (hQ : ∀ hw1, Heap.ExtBut it s.heap hw1 → Qk none { s with heap := hw1 }) : wpAny (model pgm wd) A (pyNext (.ref en)) Qk E s := by
  rcases kE with ⟨rfl, kE⟩ | ⟨old, a, f, oa, kE, _⟩
  · exact wpAny_pyNext_enum_end hh kE kT kL kX hQ
  · exact enb_done hh kE kT kL kX hQ
theorem EnSt.keep {hw0 hw1 : Heap} {en it Sx : Addr} {i : Nat} (x : EnSt hw0 en it Sx i) (k : ∀ b o, b ≠ Sx → hw0.get? b = some o → hw1.get? b = some o) (ne : en ≠ Sx) : EnSt hw1 en it Sx i := by
  rcases x with ⟨z, x⟩ | ⟨old, a, f, oa, x, xa, a1, a2, a3⟩
  · exact .inl ⟨z, k _ _ ne x⟩
  · exact .inr ⟨old, a, f, oa, k _ _ ne x, k _ _ a3 xa, a1, a2, a3⟩
end
/-- the pairs of the items, each at its place -/
structure EnG (its : List Value) (lo : Addr) (hw0 : Heap) (as : List Addr) : Prop where
  nd : as.Nodup
  above : ∀ a ∈ as, lo ≤ a
  pairs : ∀ (j : Nat) (a : Addr), as[j]? = some a → ∃ x t, its[j]? = some x ∧ hw0.get? a = some { cls := .type "tuple", data := .seq #[.int (j : Nat) t, x] }
theorem EnG.there {its : List Value} {lo : Addr} {hw0 : Heap} {as : List Addr} (g : EnG its lo hw0 as) {a : Addr} (mha : a ∈ as) : a < hw0.objs.size := by
  obtain ⟨j, jh⟩ := List.mem_iff_getElem?.mp mha
  obtain ⟨x, t, _, q⟩ := g.pairs j a jh
  exact Heap.lt_size q
theorem ge0_toNat {i : Nat} : ((i : Nat) : Int).toNat = i := Int.toNat_natCast i
section
variable {pgm : Program} {wd : World} {A : Around} {s : Shared} {R : Result → Shared → Prop} {its : List Value}
theorem enl_loop {Sx en it l : Addr} (hh : A.handled = none) (nSe : Sx ≠ en) (nSt : Sx ≠ it) (kN : en ≠ it) (lS : l ≠ Sx) (le : l ≠ en) (lt : l ≠ it) (hn : its.length ≤ sizeLine) (res : Value) {h₁ : Heap} (hlo : en < h₁.objs.size) (hlo2 : it < h₁.objs.size) (hlo3 : Sx < h₁.objs.size)
    (hR : ∀ hw1 tkn acc c as, (∀ b o, b ≠ Sx → b ≠ en → b ≠ it → h₁.get? b = some o → hw1.get? b = some o) → hw1.get? Sx = some { cls := .type "list", dict := none, data := .seq acc c, slots := #[] } → as.length = its.length → EnG its h₁.objs.size hw1 as →
      acc.toList = as.map Value.ref → R (.ok (.ret res)) { s with heap := hw1, toks := tkn }) :
    ∀ (k i : Nat) (hw0 : Heap) (tkn c : Nat) (acc : Array Value) (as : List Addr), its.length - i = k → i ≤ its.length → EnSt hw0 en it Sx i → hw0.IsListIter it l i → hw0.IsList l its.toArray → (∀ b o, b ≠ Sx → b ≠ en → b ≠ it → h₁.get? b = some o → hw0.get? b = some o) →
      hw0.get? Sx = some { cls := .type "list", dict := none, data := .seq acc c, slots := #[] } → acc.toList = as.map Value.ref → as.length = i → EnG its h₁.objs.size hw0 as → h₁.objs.size ≤ hw0.objs.size →
      codeAny (model pgm wd) A (.builtin "list.extend.loop" ⟨[.ref Sx, .ref en, res], []⟩) R { s with heap := hw0, toks := tkn } := by
  intro k
  induction k with
  | zero =>
    intro i hw0 tkn c acc as zk zi kE kT kL kk kS kacc kal kG kz
    have ein : i = its.length := by omega
    refine codeAny_builtin PySem.F.entry_extend_loop ?_; rw [Around.under_plainId PySem.F.plain_extend_loop _]
    show wpAny _ A.in1 (pyNext (.ref en) >>= _) _ _ _
    refine wpAny_bind (enst_done (s := { s with heap := hw0, toks := tkn }) (A := A.in1) hh kE kT kL (by simp only [List.getElem?_toArray]; exact List.getElem?_eq_none (by omega)) fun hw1 eb => ?_)
    refine wpAny_pure (hR hw1 tkn acc c as (fun b o h1 h2 h3 q => eb b o h3 (kk b o h1 h2 h3 q)) (eb Sx _ nSt kS) (by omega) ⟨kG.nd, kG.above, fun j a jh => ?_⟩ kacc)
    obtain ⟨x, t, q1, q2⟩ := kG.pairs j a jh
    exact ⟨x, t, q1, eb a _ (Nat.ne_of_gt (Nat.lt_of_lt_of_le hlo2 (kG.above a (List.mem_of_getElem? jh)))) q2⟩
  | succ k ih =>
    intro i hw0 tkn c acc as zk zi kE kT kL kk kS kacc kal kG kz
    have zlt : i < its.length := by omega
    have zsz : acc.size = i := by rw [← Array.length_toList, kacc, List.length_map, kal]
    refine codeAny_builtin PySem.F.entry_extend_loop ?_; rw [Around.under_plainId PySem.F.plain_extend_loop _]
    show wpAny _ A.in1 (pyNext (.ref en) >>= _) _ _ _
    refine wpAny_bind (enst_next (s := { s with heap := hw0, toks := tkn }) (Sx := Sx) kE kT kL (x := its[i]) (by simp only [List.getElem?_toArray]; exact List.getElem?_eq_getElem zlt) kN (Heap.lt_size kS) fun hw1 kE' kT' kU kz' kp => ?_)
    dsimp only at kU kz' kp ⊢
    have kS' := kp Sx _ nSe nSt kS
    have up : ∀ b o, b ≠ Sx → hw1.get? b = some o → (hw1.update Sx (Obj.mapSeq (·.push (Value.ref hw0.objs.size)))).get? b = some o := fun b o hb q => (Heap.get?_update_other _ _ (Ne.symm hb)).trans q
    have lSh : Sx < hw0.objs.size := Heap.lt_size kS
    have ltt : it < hw0.objs.size := Nat.lt_of_lt_of_le hlo2 kz
    have lee : en < hw0.objs.size := Nat.lt_of_lt_of_le hlo kz
    have lll : l < hw0.objs.size := by
      obtain ⟨_, q, _⟩ := kL
      exact Heap.lt_size q
    show wpAny _ A.in1 (updateSeq Sx (·.push (Value.ref hw0.objs.size)) >>= _) _ _ _
    refine wpAny_bind ?_
    refine wpAny_updateSeq kS' rfl (wpAny_pure ⟨plainId_quiet PySem.F.plain_extend_loop _, ih (i + 1) _ (tkn + 1) _ (acc.push (Value.ref hw0.objs.size)) (as ++ [hw0.objs.size]) (by omega) zlt (kE'.keep up (Ne.symm nSe)) (kT'.at fun o q => up it o (Ne.symm nSt) q)
      (kL.at fun o q => up l o lS (kp l o le lt q)) (fun b o h1 h2 h3 q => up b o h1 (kp b o h2 h3 (kk b o h1 h2 h3 q))) (Heap.get?_update_self _ kS' rfl) (by rw [Array.toList_push, kacc, List.map_append]; rfl) (by rw [List.length_append, kal]; rfl) ⟨?_, ?_, ?_⟩ ?_⟩) (by rw [zsz]; omega) (by show (acc.push (Value.ref hw0.objs.size)).size ≤ sizeLine + 1; rw [Array.size_push, zsz]; omega)
    · refine List.nodup_append.mpr ⟨kG.nd, List.pairwise_singleton _ _, fun a mha b hb z => ?_⟩
      rw [List.mem_singleton.mp hb] at z
      have q := kG.there mha
      rw [z] at q
      exact Nat.lt_irrefl _ q
    · intro a mha
      rcases List.mem_append.mp mha with mha | mha
      · exact kG.above a mha
      · rw [List.mem_singleton.mp mha]
        exact kz
    · intro j b jh
      rcases Nat.lt_trichotomy j as.length with h1 | h1 | h1
      · rw [List.getElem?_append_left h1] at jh
        obtain ⟨x', t', q1, q2⟩ := kG.pairs j b jh
        have hb := kG.above b (List.mem_of_getElem? jh)
        exact ⟨x', t', q1, up b _ (Nat.ne_of_gt (Nat.lt_of_lt_of_le hlo3 hb)) (kp b _ (Nat.ne_of_gt (Nat.lt_of_lt_of_le hlo hb)) (Nat.ne_of_gt (Nat.lt_of_lt_of_le hlo2 hb)) q2)⟩
      · subst h1
        have hb : hw0.objs.size = b := by simpa using jh
        subst hb
        exact ⟨its[i], tkn, by rw [kal]; exact List.getElem?_eq_getElem zlt, by subst kal; exact up _ _ (Nat.ne_of_gt lSh) kU⟩
      · have no : (as ++ [hw0.objs.size])[j]? = none := List.getElem?_eq_none (by rw [List.length_append, List.length_singleton]; omega)
        rw [no] at jh
        cases jh
    · have q : (hw1.update Sx (Obj.mapSeq (·.push (Value.ref hw0.objs.size)))).get? hw0.objs.size = _ := up _ _ (Nat.ne_of_gt lSh) kU
      exact Nat.le_trans kz (Nat.le_of_lt (Heap.lt_size q))
end
theorem en_no_len : typeLookup (.type "enumerate") "__len__" = pure none := by rw [typeLookup_type, builtinLookup_eq_fast]; kernel_rfl
theorem en_no_hint : typeLookup (.type "enumerate") "__length_hint__" = pure none := by rw [typeLookup_type, builtinLookup_eq_fast]; kernel_rfl
section
variable {pgm : Program} {wd : World} {A : Around} {E : Value → Shared → Prop} {s : Shared} {its : List Value} {en it l : Addr}
theorem enl_extend {R : Result → Shared → Prop} (hh : A.handled = none) (kE : IsEnum s.heap en it 0 .none) (kT : s.heap.IsListIter it l 0) (kL : s.heap.IsList l its.toArray) (kN : en ≠ it) (le : l ≠ en) (lt : l ≠ it) (Sx : Addr) (nSe : Sx ≠ en) (nSt : Sx ≠ it) (lS : l ≠ Sx) (res : Value) (c₀ : Nat)
    (kS : s.heap.get? Sx = some { cls := .type "list", data := .seq #[] c₀ }) (hn : its.length ≤ sizeLine)
    (hR : ∀ hw1 tkn acc c as, (∀ b o, b ≠ Sx → b ≠ en → b ≠ it → s.heap.get? b = some o → hw1.get? b = some o) → hw1.get? Sx = some { cls := .type "list", dict := none, data := .seq acc c, slots := #[] } → as.length = its.length → EnG its s.heap.objs.size hw1 as →
      acc.toList = as.map Value.ref → R (.ok (.ret res)) { s with heap := hw1, toks := tkn }) :
    wpAny (model pgm wd) A.in1 (Builtin.List.listExtendWith (.ref Sx) (.ref en) res)
      (fun fin s' => match fin with | .done f => R (.ok f) s' | .again c' => c'.quiet = true ∧ codeAny (model pgm wd) A c' R s') (fun en s' => R (.error en) s') s := by
  have kTy : s.TypeIs (.ref en) "enumerate" := ⟨_, kE, rfl⟩
  unfold Builtin.List.listExtendWith; refine wpAny_bind (wpAny_typeOf kTy ?_)
  have h1 : Builtin.List.listSameRef (.ref Sx) (.ref en) = false := by simp [Builtin.List.listSameRef, nSe]
  have h2 : (Value.type "enumerate" == Value.type "list") = false := by decide
  have h3 : (Value.type "enumerate" == Value.type "tuple") = false := by decide
  simp only [h1, h2, h3, Bool.or_false, Bool.false_eq_true, if_false]
  refine wpAny_bind (wpAny_pyIter_enum kE (wpAny_bind (wpAny_holding ?_)))
  unfold Builtin.List.listLengthHint; refine wpAny_bind (wpAny_specialOf kTy en_no_len ?_)
  show wpAny _ A.in1 (specialOf (Value.ref en) (Str.ofString "__length_hint__") >>= _) _ _ _
  refine wpAny_bind (wpAny_specialOf kTy en_no_hint (wpAny_pure ?_))
  show wpAny _ A.in1 (rule "list.extend.makes-room" >>= fun _ => Builtin.List.listTouch (.ref Sx) >>= fun _ => again (.builtin "list.extend.loop" ⟨[.ref Sx, .ref en, res], []⟩)) _ _ _
  refine wpAny_bind (wpAny_rule (wpAny_bind ?_)); show wpAny _ A.in1 (updateSeq Sx (·.push .none) >>= fun _ => updateSeq Sx (·.pop)) _ _ _
  refine wpAny_bind (wpAny_updateSeq kS rfl ?_)
  have kS2 := Heap.get?_update_self (Obj.mapSeq (·.push Value.none)) kS rfl
  refine wpAny_updateSeq (hz := by seq_fits) kS2 rfl ?_
  have kS3 := Heap.get?_update_self (Obj.mapSeq (·.pop)) kS2 rfl
  have oth : ∀ b o, b ≠ Sx → s.heap.get? b = some o → ((s.heap.update Sx (Obj.mapSeq (·.push Value.none))).update Sx (Obj.mapSeq (·.pop))).get? b = some o :=
    fun b o hb q => (Heap.get?_update_other _ _ (Ne.symm hb)).trans ((Heap.get?_update_other _ _ (Ne.symm hb)).trans q)
  have zz : ((s.heap.update Sx (Obj.mapSeq (·.push Value.none))).update Sx (Obj.mapSeq (·.pop))).objs.size = s.heap.objs.size := by rw [Heap.size_update, Heap.size_update]
  have lE : en < s.heap.objs.size := Heap.lt_size kE
  have lT : it < s.heap.objs.size := by
    obtain ⟨_, q, _⟩ := kT
    exact Heap.lt_size q
  exact wpAny_pure ⟨plainId_quiet PySem.F.plain_extend_loop _, enl_loop (s := s) hh nSe nSt kN lS le lt hn res (h₁ := s.heap) lE lT (Heap.lt_size kS) hR its.length 0 _ s.toks _ #[] [] (Nat.sub_zero _) (Nat.zero_le _)
    (.inl ⟨rfl, oth _ _ (Ne.symm nSe) kE⟩) (kT.at fun o q => oth it o (Ne.symm nSt) q) (kL.at fun o q => oth l o lS q) (fun b o h1 _ _ q => oth b o h1 q) kS3 rfl rfl ⟨List.nodup_nil, (fun _ mha => nomatch mha), (fun j a jh => by simp at jh)⟩ (by rw [zz]; exact Nat.le_refl _)⟩
theorem enl_init {R : Result → Shared → Prop} (hh : A.handled = none) (kE : IsEnum s.heap en it 0 .none) (kT : s.heap.IsListIter it l 0) (kL : s.heap.IsList l its.toArray) (kN : en ≠ it) (le : l ≠ en) (lt : l ≠ it) (Sx : Addr) (nSe : Sx ≠ en) (nSt : Sx ≠ it) (lS : l ≠ Sx)
    (kS : s.heap.get? Sx = some { cls := .type "list", data := .seq #[] }) (hn : its.length ≤ sizeLine)
    (hR : ∀ hw1 tkn acc c as, (∀ b o, b ≠ Sx → b ≠ en → b ≠ it → s.heap.get? b = some o → hw1.get? b = some o) → hw1.get? Sx = some { cls := .type "list", dict := none, data := .seq acc c, slots := #[] } → as.length = its.length → EnG its s.heap.objs.size hw1 as →
      acc.toList = as.map Value.ref → R (.ok (.ret .none)) { s with heap := hw1, toks := tkn }) :
    wpAny (model pgm wd) A.in1 (Builtin.«list.__init__» ⟨[.ref Sx, .ref en], []⟩)
      (fun fin s' => match fin with | .done f => R (.ok f) s' | .again c' => c'.quiet = true ∧ codeAny (model pgm wd) A c' R s') (fun en s' => R (.error en) s') s := by
  show wpAny _ _ (do let old ← Builtin.List.listItems (.ref Sx); Builtin.List.listUpdate (.ref Sx) (fun _ => #[]); letGo old.toList.reverse; Builtin.List.listExtendWith (.ref Sx) (.ref en) .none) _ _ s
  refine wpAny_bind ?_
  unfold Builtin.List.listItems
  refine wpAny_bind (wpAny_seqItems kS rfl (wpAny_pure ?_))
  show wpAny _ _ (updateSeq Sx (fun _ => #[]) >>= fun _ => letGo (#[] : Array Value).toList.reverse >>= fun _ => Builtin.List.listExtendWith (.ref Sx) (.ref en) .none) _ _ s
  refine wpAny_bind (wpAny_updateSeq kS rfl ?_)
  have kS2 := Heap.get?_update_self (Obj.mapSeq (fun _ => (#[] : Array Value))) kS rfl
  have oth : ∀ b o, b ≠ Sx → s.heap.get? b = some o → (s.heap.update Sx (Obj.mapSeq (fun _ => (#[] : Array Value)))).get? b = some o := fun b o hb q => (Heap.get?_update_other _ _ (Ne.symm hb)).trans q
  have zz : (s.heap.update Sx (Obj.mapSeq (fun _ => (#[] : Array Value)))).objs.size = s.heap.objs.size := Heap.size_update ..
  refine wpAny_bind (wpAny_letGo (enl_extend hh (oth _ _ (Ne.symm nSe) kE) (kT.at fun o q => oth it o (Ne.symm nSt) q) (kL.at fun o q => oth l o lS q) kN le lt Sx nSe nSt lS .none _ kS2 hn fun hw1 tkn acc c as kk kS' zl kG kacc => ?_))
  exact hR hw1 tkn acc c as (fun b o h1 h2 h3 q => kk b o h1 h2 h3 (oth b o h1 q)) kS' zl (zz ▸ kG) kacc
theorem call_list_enum {Qk : Value → Shared → Prop} (hh : A.handled = none) (kE : IsEnum s.heap en it 0 .none) (kT : s.heap.IsListIter it l 0) (kL : s.heap.IsList l its.toArray) (kN : en ≠ it) (le : l ≠ en) (lt : l ≠ it) (hn : its.length ≤ sizeLine)
    (hQ : ∀ hw1 tkn acc c as, (∀ b o, b ≠ en → b ≠ it → s.heap.get? b = some o → hw1.get? b = some o) → hw1.get? s.heap.objs.size = some { cls := .type "list", dict := none, data := .seq acc c, slots := #[] } → as.length = its.length → EnG its (s.heap.objs.size + 1) hw1 as →
      acc.toList = as.map Value.ref → Qk (.ref s.heap.objs.size) { s with heap := hw1, toks := tkn }) :
    wpAny (model pgm wd) A (call (.type "list") [.ref en]) Qk E s := by
  refine callType_codes (Q₁ := fun obj s₁ => obj = .ref s.heap.objs.size ∧ s₁ = { s with heap := s.heap.push { cls := .type "list", data := .seq #[] } }) PySem.F.called_list (PySem.F.typeCall_list_1 _) PySem.F.entry_list_init (code_list_new _ ⟨rfl, rfl⟩) fun obj s₁ h₁ => ?_
  obtain ⟨rfl, rfl⟩ := h₁
  have kS : (s.heap.push { cls := .type "list", data := .seq #[] }).get? s.heap.objs.size = some { cls := .type "list", data := .seq #[] } := Heap.get?_push_size _ rfl
  have lE : en < s.heap.objs.size := Heap.lt_size kE
  have lT : it < s.heap.objs.size := by
    obtain ⟨_, q, _⟩ := kT
    exact Heap.lt_size q
  have lL : l < s.heap.objs.size := by
    obtain ⟨_, q, _⟩ := kL
    exact Heap.lt_size q
  refine ⟨⟨_, kS, rfl⟩, PySem.F.args_list_init_2 _ _, enl_init (A := A.in1) hh (Heap.get?_push_of_some _ kE) (kT.at fun o q => Heap.get?_push_of_some _ q) (kL.push _) kN le lt _ (Nat.ne_of_gt lE) (Nat.ne_of_gt lT) (Nat.ne_of_lt lL) kS hn fun hw1 tkn acc c as kk kS' zl kG kacc => ?_⟩
  have zz : (s.heap.push { cls := .type "list", data := .seq #[] }).objs.size = s.heap.objs.size + 1 := Heap.size_push ..
  exact ⟨rfl, hQ hw1 tkn acc c as (fun b o h2 h3 q => kk b o (Nat.ne_of_lt (Heap.lt_size q)) h2 h3 (Heap.get?_push_of_some _ q)) kS' zl (zz ▸ kG) kacc⟩
end
/-! ### the rule -/
def layT (H : Hp) : Nat → List Addr → List V → Hp
  | i, a :: as, x :: xs => upd (layT H (i + 1) as xs) a (.tup [.int (i : Nat), x])
  | _, _, _ => H
theorem layT_ne {H : Hp} {b : Addr} : ∀ {i : Nat} {as : List Addr} {xs : List V}, b ∉ as → layT H i as xs b = H b
  | i, a :: as, x :: xs, hw0 => by
    show upd (layT H (i + 1) as xs) a _ b = _
    rw [upd_ne (fun z => hw0 (by rw [z]; exact List.mem_cons_self))]
    exact layT_ne fun z => hw0 (List.mem_cons_of_mem _ z)
  | _, [], _, _ => rfl
  | _, _ :: _, [], _ => rfl
theorem layT_at {H : Hp} {a : Addr} {x : V} : ∀ {j i : Nat} {as : List Addr} {xs : List V}, as.Nodup → as[j]? = some a → xs[j]? = some x → layT H i as xs a = some (.tup [.int ((i + j : Nat)), x])
  | 0, i, b :: as, y :: xs, _, h1, h2 => by
    cases h1
    cases h2
    exact upd_same
  | j + 1, i, b :: as, y :: xs, nd, h1, h2 => by
    have n := List.nodup_cons.mp nd
    have hm : a ∈ as := List.mem_of_getElem? (show as[j]? = some a from h1)
    show upd (layT H (i + 1) as xs) b _ a = _
    rw [upd_ne (fun z => n.1 (by rw [← z]; exact hm)), layT_at (j := j) n.2 h1 h2]
    have en : i + 1 + j = i + (j + 1) := by omega
    rw [en]
  | _, _, [], _, _, h1, _ => by simp at h1
  | _, _, _ :: _, [], _, _, h2 => by simp at h2
def tListEnum (K : PySem.W.Frag) (ta : TA) : TE := fun σ H Qk => ta σ H fun vs H1 => ∃ a xs, vs = [.ref a] ∧ SqL K H1 a xs ∧
  ∀ (p : Addr) (as : List Addr) (H2 : Hp), H1 p = none → as.length = xs.length → as.Nodup → (∀ b ∈ as, H1 b = none ∧ b ≠ p) → H2 = upd (layT H1 0 as xs) p (.lst (as.map V.ref)) → Qk (.ref p) H2
theorem Vals.refs : ∀ as : List Addr, Vals (as.map V.ref) (as.map Value.ref)
  | [] => .nil
  | _ :: as => .cons rfl (Vals.refs as)
theorem pe_listEnum {X : Cx} {en : Expr} {ta : TA} {p1 p2 pos1 pos2 : Pos} (hc : X.calm = true) (hg1 : Gl X "list") (hm1 : X.mg "list" = none) (hg : Gl X "enumerate") (hm : X.mg "enumerate" = none) (mha : PA X [en] ta) (hs : starEach [en] X.env = [(false, eval en X.env)] := by rfl) :
    PE X (.Call (.Name "list" p1) [.Call (.Name "enumerate" p2) [en] [] pos2] [] pos1) (tListEnum X.K ta) := by
  refine ⟨fun pins s σ H Qk I hw0 => ?_⟩
  refine Call_ (ld_blt I hg1 hm1 PyProof.Rows.boot_list (PyProof.Rows.callWith_type1 (PyProof.Rows.args_cons (Call_ (ld_blt I hg hm boot_enumerate (PyProof.Rows.callWith_type1 (thn (mha.run pos2 pins s σ H _ I hw0) fun us s1 ⟨vs, H1, I1, r1, q1⟩ => ?_) hs rfl))) rfl) rfl rfl))
  obtain ⟨a, xs, ex, hq, q⟩ := q1
  subst ex
  cases r1 with
  | cons r rr =>
    cases rr
    cases r
    obtain ⟨its, rv, p', hz⟩ := I1.list hq
    have hl := rv.length
    refine call_enumerate_list p'.isList fun hw1 kE kT kz kk => PyProof.Rows.args_nil ?_
    have I2 : Inv X pins σ H1 { s1 with heap := hw1 } := I1.kept (t' := s1.toks) kk
    have la : a < s1.heap.objs.size := by
      obtain ⟨_, _, q, _⟩ := p'
      exact Heap.lt_size q
    refine call_list_enum (s := { s1 with heap := hw1 }) (I1.ok.hd hc) kE kT (p'.isList.at fun o q => kk a o q) (Nat.succ_ne_self _) (Nat.ne_of_lt (Nat.lt_succ_of_lt la)) (Nat.ne_of_lt la) (by omega) fun h2 tkn acc c as k2 kS zl kG kacc => ?_
    dsimp only at k2 kS kG ⊢
    have fE : FpOk X pins H1 (s1.heap.objs.size + 1) := I1.fpOk (Nat.le_succ _) (I1.hok.fresh (Nat.le_succ _))
    have fT : FpOk X pins H1 s1.heap.objs.size := I1.fpOk (Nat.le_refl _) (I1.hok.fresh (Nat.le_refl _))
    have kk2 : ∀ b o, s1.heap.get? b = some o → h2.get? b = some o := fun b o q => k2 b o (Nat.ne_of_lt (Nat.lt_succ_of_lt (Heap.lt_size q))) (Nat.ne_of_lt (Heap.lt_size q)) (kk b o q)
    have fr : ∀ b ∈ as, H1 b = none ∧ b ≠ hw1.objs.size := fun b hb => by
      have z := kG.above b hb
      exact ⟨I2.hok.fresh (Nat.le_of_succ_le z), Nat.ne_of_gt z⟩
    have fp : H1 hw1.objs.size = none := I2.hok.fresh (Nat.le_refl _)
    have sm : ∀ b o, H1 b = some o → (upd (layT H1 0 as xs) hw1.objs.size (.lst (as.map V.ref))) b = some o := fun b o q => by
      rw [upd_ne (ne_of_none q fp), layT_ne (fun z => by rw [(fr b z).1] at q; cases q)]
      exact q
    refine ⟨.ref hw1.objs.size, _, I1.un (t' := tkn) (H' := upd (layT H1 0 as xs) hw1.objs.size (.lst (as.map V.ref))) ⟨fun b o z _ _ _ => kk2 b o z, fun b o z _ _ _ => ⟨o.slots, kk2 b o z⟩, fun b o z n _ => ?_, fun b o z _ => ⟨o, kk2 b o z⟩, fun b ys z => sm b _ z, fun b o u z => sm b _ z, fun b ps z => ⟨#[], by rw [sm b _ z]; simp⟩⟩ ?_, rfl, q _ as _ fp (by rw [zl, hl]) kG.nd fr rfl⟩
    · have lb : b < s1.heap.objs.size := Heap.lt_size z
      have lh : s1.heap.objs.size ≤ hw1.objs.size := by rw [kz]; omega
      rw [upd_ne (Nat.ne_of_lt (Nat.lt_of_lt_of_le lb lh)), layT_ne (fun zz => absurd (Nat.lt_of_lt_of_le (Nat.lt_of_lt_of_le lb lh) (Nat.le_of_succ_le (kG.above b zz))) (Nat.lt_irrefl _))]
      exact n
    · intro b u z
      by_cases hb : b = hw1.objs.size
      · subst hb
        rw [upd_same] at z
        cases z
        refine ⟨by rw [List.length_map, zl]; omega, as.map Value.ref, c, Vals.refs as, ?_⟩
        rw [kS, ← kacc]
      · rw [upd_ne hb] at z
        by_cases hm2 : b ∈ as
        · obtain ⟨j, jh⟩ := List.mem_iff_getElem?.mp hm2
          obtain ⟨x, t, e1, e2⟩ := kG.pairs j b jh
          obtain ⟨y, hy⟩ : ∃ y, xs[j]? = some y := by
            have := (List.getElem?_eq_some_iff.mp e1).1
            exact ⟨xs[j], List.getElem?_eq_getElem (by omega)⟩
          obtain ⟨u2, hu, ru⟩ := rv.get hy
          have eu : u2 = x := Option.some.inj (hu.symm.trans e1)
          rw [← eu] at e2
          rw [layT_at kG.nd jh hy] at z
          cases z
          exact ⟨by show 2 ≤ sizeLine; decide, [.int (j : Nat) t, u2], .cons ⟨_, by rw [Nat.zero_add]⟩ (.cons ru .nil), ⟨_, e2, rfl, _, rfl⟩⟩
        · rw [layT_ne hm2] at z
          refine (I1.hok b u z).stay (fun c v _ q => kk2 c v q) (fun c q => sm c _ q) fun c xs q => sm c _ q
end L2

/-! a law that asks for repr of nested data: its frame is the outermost, so nothing else is being shown -/
namespace L2
open PySem PySem.Spec PyProof.Rows
/-- the promise of a def where nothing is being shown around it -/
def FnG (P : Program) (w : World) (K : PySem.W.Frag) (mg : Str → Option Value) (base : Heap) (CX : CXT) (k : Nat) (f : Addr) (fd : FuncData) (ps : List Str) (sp : Sp) : Prop :=
  ∀ (A : Around) (outer : List Env) (s : Shared) (H : Hp) (xa : Args) (us : List Value) (vs : List V) (Q : VK) (E : XK), A.guards = some [] → Room k A → Env0 P w K mg base A outer s H → BindsTo s fd xa (ps.zip us) → Vals vs us → sp vs H Q E →
    codeAny (model P w) A (.call (.ref f) xa) (CR CX outer P w H s Q E) s
theorem fnG_of {P : Program} {w : World} {K : PySem.W.Frag} {mg : Str → Option Value} {base : Heap} {x qual : Str} {st : Stmt} {f : Addr} {fd : FuncData} {N ps : List Str} {k : Nat} {sp : Sp} (F : Fun K x qual st f fd) (S : FnScope N ps (defScope st)) (hlen : ∀ vs H Q E, sp vs H Q E → vs.length = ps.length)
    (hb : ∀ (cdv : Value) (A : Around) (outer : List Env) (s : Shared) (H : Hp) (vs : List V) (Q : VK) (E : XK), A.guards = some [] → Room k (A.deeper (envOfC qual (defScope st) s.heap.objs.size f cdv)) → sp vs H Q E →
      ∃ t, PSs (cxOf CX0 P w K mg base N qual (defScope st) f cdv A outer s H E).nox (defBody st) t ∧ t { nx := fun _ H' => Q .non H', rt := Q } (start N vs) H) : FnG P w K mg base CX0 (k + 1) f fd ps sp := by
  obtain ⟨oc, od, kV, doc, pm, an, cdv, ct, osl, rfl, lk, codeK⟩ := F.ex
  intro A outer s H xa us vs Q E gA rA eA bA vA spA
  have nl := hlen _ _ _ _ spA
  have Kn : K.In s.heap := eA.mod.kin.keeps fun b o q => (eA.bs b o q).1
  have lim : s.heap.NoLimit := eA.mod.nolimit.keeps fun b o q => (eA.bs b o q).1
  have kinds : ∀ y ∈ ps.zip us, (defScope st).names.lookup y.1 = some .local ∨ ((defScope st).names.lookup y.1 = some .cell ∧ ((cellsFrom (s.heap.objs.size + 1) (defScope st).names []).lookup y.1).isSome = true) := by
    rintro ⟨nm, v⟩ hy
    refine (S.par nm (List.of_mem_zip hy).1).imp (fun q => q) fun q => ⟨q, PySem.W.cellsFrom_some _ _ _ (.inl q)⟩
  refine codeAny_call_function rA.depth (Kn _ _ lk) rfl S.co S.gen rfl (PySem.W.codeRec_of Kn codeK) (bA _ _ _ _ (wpAny_newFunctionEnv_cells S.kind kinds fun env he s1 y => ?_))
  subst he
  refine ⟨lim.keeps y.toInCall.keep, codeAny_func ?_⟩
  obtain ⟨t, pt, qt⟩ := hb cdv A outer s H vs Q E gA (rA.deeper _) spA
  have J : Inv (cxOf CX0 P w K mg base N qual (defScope st) f cdv A outer s H E) [] (start N vs) H s1 := inv_start S rA.hd eA nl vA y
  refine wpAny_mono (pt.nox.run [] s1 (start N vs) H _ J qt) (fun fl s' hs => ?_) fun _ _ q => q
  cases fl with
  | ret u =>
    obtain ⟨v, σ', H', J', rv, q⟩ := hs
    exact ⟨v, H', J'.os, J'.bare, J'.base, J'.hok, rv, q⟩
  | next =>
    obtain ⟨σ', H', J', q⟩ := hs
    exact ⟨.non, H', J'.os, J'.bare, J'.base, J'.hok, rfl, q⟩
  | brk => exact (let ⟨_, _, _, q⟩ := hs; q : False).elim
  | cont => exact (let ⟨_, _, _, q⟩ := hs; q : False).elim
section
variable {P : Program} {w : World} {K : PySem.W.Frag} {mg mb : Str → Option Value} {k : Nat} {fa a : Addr} {fd : FuncData} {x : Str} {sp : Sp} {sB : Shared} {vs : List Value} {ns : List Int}
/-- from an abstract heap in which at most the script is tracked -/
theorem lawG_core (KX : K.In sB.heap) (hns : sB.heap.Ns mainGlobals mg) (hb : sB.heap.Ns builtinsNs mb) (hbb : ∀ x : Str, x ≠ "__name__" → mb x = bootBuiltins x) (hlim : sB.heap.NoLimit) (hg : sB.gens = #[])
    (hla : sB.heap.get? a = some { cls := .type "list", data := .seq vs.toArray }) (rK : Room k callerA)
    (F : ∀ base : Heap, K.In base → base.Ns mainGlobals mg → FnG P w K mg base CX0 k fa fd [x] sp) (hbind : ∀ (s : Shared) (u : Value), BindsTo s fd ⟨[u], []⟩ [(x, u)])
    (H : Hp) (onl : Only H) (spH : sp [.ref a] H (fun v _ => v = .bl true) fun _ _ _ => False) (ok : HOk P w H sB.heap) (atA : ∀ b, H b ≠ none → b = a) (noK : H a ≠ none → K.lookup a = none) :
    codeAny (model P w) callerA (.call (.ref fa) ⟨[.ref a], []⟩) (fun r s' => r = .ok (.ret (.bool true)) ∧ OldK sB.heap s'.heap ∧ s'.os = sB.os ∧ AllBare s'.gens) sB := by
  have notD : ∀ {b : Addr} {o : Obj} {es : Array DictEntry} {ep : Nat}, sB.heap.get? b = some o → o.data = .dict es ep → H b = none := by
    intro b o es ep q d
    by_cases z : H b = none
    · exact z
    · have e := atA b z
      subst e
      rw [hla] at q
      cases q
      exact Data.noConfusion d
  have nsG : ∀ {b : Addr} {m : Str → Option Value}, sB.heap.Ns b m → (hidT sB.heap H).Ns b m := by
    rintro b m ⟨o, es, ep, q, d, r⟩
    exact ⟨o, es, ep, hidT_get q (notD q d), d, r⟩
  have inK : K.In (hidT sB.heap H) := by
    intro b o q
    refine hidT_get (KX b o q) ?_
    by_cases z : H b = none
    · exact z
    · have e := atA b z
      subst e
      rw [noK z] at q
      cases q
  have eA : Env0 P w K mg (hidT sB.heap H) callerA [] sB H :=
    ⟨rfl, ⟨inK, nsG hns, ⟨mb, nsG hb, hbb⟩, let ⟨mc, q1, q2⟩ := hlim; ⟨mc, nsG q1, q2⟩⟩, fun b o q => of_hidT q, Nat.le_of_eq (hidT_size _ _), trivial, (fun b q => nomatch (show b ∈ ([] : List Addr) from q)), ok, .of_eq hg⟩
  refine codeAny_mono (F _ inK (nsG hns) callerA [] sB H ⟨[.ref a], []⟩ [.ref a] [.ref a] _ _ rfl rK eA (hbind sB (.ref a)) (.cons rfl .nil) spH) fun r s' q => ?_
  cases r with
  | error e => exact (show False from q).elim
  | ok fl =>
    cases fl with
    | ret u =>
      obtain ⟨v, H', os, bare, un, ok', rv, qv⟩ := q
      cases (show v = .bl true from qv)
      cases (show u = Value.bool true from rv)
      refine ⟨rfl, OldK.of_keep fun b o q => ?_, os, bare⟩
      rcases onl b with z | ⟨ob, xs, z⟩
      · exact un.keep b o q z (fun y => nomatch (show b ∈ ([] : List Addr) from y)) (by simp)
      · have q1 := (ok b _ z).1
        have q2 := (ok' b _ (un.frzs b ob _ z)).1
        rw [q] at q1
        cases q1
        exact q2
    | next => exact (show False from q).elim
    | brk => exact (show False from q).elim
    | cont => exact (show False from q).elim
theorem lawG_call (KX : K.In sB.heap) (hns : sB.heap.Ns mainGlobals mg) (hb : sB.heap.Ns builtinsNs mb) (hbb : ∀ x : Str, x ≠ "__name__" → mb x = bootBuiltins x) (hlim : sB.heap.NoLimit) (hg : sB.gens = #[])
    (hla : sB.heap.get? a = some { cls := .type "list", data := .seq vs.toArray }) (hi : IntsAre vs ns) (hl : ns.length ≤ sizeLine) (rK : Room k callerA)
    (F : ∀ base : Heap, K.In base → base.Ns mainGlobals mg → FnG P w K mg base CX0 k fa fd [x] sp) (hbind : ∀ (s : Shared) (u : Value), BindsTo s fd ⟨[u], []⟩ [(x, u)])
    (hsp : ∀ H : Hp, Only H → SqL K H a (ns.map V.int) → sp [.ref a] H (fun v _ => v = .bl true) fun _ _ _ => False) :
    codeAny (model P w) callerA (.call (.ref fa) ⟨[.ref a], []⟩) (fun r s' => r = .ok (.ret (.bool true)) ∧ OldK sB.heap s'.heap ∧ s'.os = sB.os ∧ AllBare s'.gens) sB := by
  have rv := vals_ints hi
  have nv := hi.length
  by_cases hk : K.lookup a = none
  · have on : (fun b => if b = a then some (HO.frz { cls := .type "list", data := .seq vs.toArray } (.lst (ns.map V.int))) else none : Hp) a = some (.frz { cls := .type "list", data := .seq vs.toArray } (.lst (ns.map V.int))) := if_pos rfl
    have off : ∀ b, b ≠ a → (fun b => if b = a then some (HO.frz { cls := .type "list", data := .seq vs.toArray } (.lst (ns.map V.int))) else none : Hp) b = none := fun b z => if_neg z
    generalize (fun b => if b = a then some (HO.frz { cls := .type "list", data := .seq vs.toArray } (.lst (ns.map V.int))) else none : Hp) = H at on off
    have onl : Only H := fun b => by
      by_cases z : b = a
      · subst z
        exact .inr ⟨_, _, on⟩
      · exact .inl (off b z)
    refine lawG_core KX hns hb hbb hlim hg hla rK F hbind H onl (hsp H onl (.inl (.inr ⟨_, on⟩))) (fun b u q => ?_) (fun b z => ?_) fun _ => hk
    · by_cases z : b = a
      · subst z
        rw [on] at q
        cases q
        exact ⟨hla, by rw [List.length_map]; exact hl, vs, _, rv, hla⟩
      · rw [off b z] at q
        cases q
    · by_cases y : b = a
      · exact y
      · exact absurd (off b y) z
  · obtain ⟨o, ho⟩ := Option.ne_none_iff_exists'.mp hk
    have q := KX a o ho
    rw [hla] at q
    cases q
    exact lawG_core KX hns hb hbb hlim hg hla rK F hbind (fun _ => none) (fun _ => .inl rfl) (hsp _ (fun _ => .inl rfl) (.inr ⟨_, vs.toArray, _, ho, rfl, rfl, rfl, by rw [List.size_toArray, nv]; exact hl, by simpa using rv⟩)) (fun b u z => nomatch (show (none : Option HO) = some u from z)) (fun b z => absurd rfl z) fun z => absurd rfl z
end
theorem walkG_of {l : PySem.W.OpenLaw} {n k : Nat} {q : Program} {lse : List Str} {XQ : (Str → Option Value) → Heap → Prop} {YQ : World → Heap → Prop} {d : DefRec} {K : Params → PySem.W.Frag} {sp : World → Sp} {x : Str}
    (hn : l.most = some n) (nle : n ≤ sizeLine) (dfe : d.params.defaults = []) (rK : Room k callerA) (hY : ∀ (w : World) (h : Heap), YQ w h → (K w.params).In h) (F : ∀ (w : World) (mg : Str → Option Value) (fa : Addr) (h : Heap), (K w.params).In h → h.Ns mainGlobals mg → mg d.name = some (.ref fa) →
      ∃ fd : FuncData, (∀ (s : Shared) (u : Value), BindsTo s fd ⟨[u], []⟩ [(x, u)]) ∧ ∀ base : Heap, (K w.params).In base → base.Ns mainGlobals mg → FnG l.prog w (K w.params) mg base CX0 k fa fd [x] (sp w))
    (hsp : ∀ (w : World) (H : Hp) (a : Addr) (ns : List Int), ns.length ≤ n → Only H → SqL (K w.params) H a (ns.map V.int) → sp w [.ref a] H (fun v _ => v = .bl true) fun _ _ _ => False) :
    PySem.W.WalkO q lse XQ YQ l.row.toRowW d [] (fun f vs => PySem.call f vs) :=
  Att.attach_call hn dfe fun w s₀ sB mg mb fa o pm cd doc a vs ns G Y ho hd hcd hmg hobj hints hlen hg => by
    obtain ⟨fd, bd, ok⟩ := F w mg fa _ (hY w _ Y) G.T.g hmg
    exact lawG_call (hY w _ Y) G.T.g G.T.b G.T.builtins G.T.nolimit hg hobj hints (Nat.le_trans hlen nle) rK ok bd fun H hO hS => hsp w H a ns hlen hO hS
/-! ### repr of nested data -/
theorem call_reprD {X : Cx} (gX : X.A.guards = some []) (hu : X.A.units + 100 < cLine) : CallR X (.builtin "repr") (fun xs H Q => ∃ a d, xs = [.ref a] ∧ Dp X.K H (.ref a) d ∧ d.showable = true ∧ d.hasDict = false ∧ d.depth ≤ 64 ∧ d.shown.length ≤ sizeLine ∧ Q (.str d.shown) H) := by
  intro pns s σ H xs uv Q I r h
  obtain ⟨a, d, rfl, hd, hs, hn, hz, hl, q⟩ := h
  obtain ⟨u, rfl, ru⟩ := vals1 r; cases ru
  obtain ⟨as, rd⟩ := Dp.reads I d _ _ hd rfl
  refine repr_of_reads' rd hs (fun z => by rw [hn] at z; cases z) gX (by omega) (fun _ _ q => q) (fun h' u tk kk => ⟨.str d.shown, H, I.kept kk, ⟨u, rfl⟩, q⟩) hl
end L2

namespace Sg
open PySem
def topS (i : Nat) : Stmt := PySem.Challenge.pw_sugartrue_k01_texts_come_back.main.body.getD i (.Pass ⟨0, 0, 0, 0⟩)
abbrev sSE : Stmt := topS 1
abbrev sTE : Stmt := topS 2
abbrev sMade : Stmt := topS 10
abbrev sIsInt : Stmt := topS 11
abbrev sIsName : Stmt := topS 12
abbrev sPieces : Stmt := topS 13
abbrev sRead : Stmt := topS 14
abbrev sWrite : Stmt := topS 15
abbrev sWriteP : Stmt := topS 16
abbrev sState : Stmt := topS 18
abbrev sDraw : Stmt := topS 19
abbrev sPick : Stmt := topS 20
abbrev sWord : Stmt := topS 21
abbrev sTree : Stmt := topS 22
abbrev sCounted : Stmt := topS 23
abbrev sTokens : Stmt := topS 24
abbrev sForm : Stmt := topS 25
abbrev sLaw : Stmt := topS 26
end Sg

namespace Sg
open PySem PySem.Spec PyProof.Rows L2
/-! ### the law's own helpers -/
structure StAt (H : Hp) (p c : Addr) (xs : List Int) (sd : Int) : Prop where
  hp : H p = some (.lst [.ref c, .int sd])
  hc : H c = some (.lst (xs.map V.int))
  ne : p ≠ c
  len : xs.length ≤ 63
  pos : ∀ x ∈ xs, 0 ≤ x
  s0 : 0 ≤ sd
  s1 : sd < 2147483647
def St (p c : Addr) (H : Hp) : Prop := ∃ xs sd, StAt H p c xs sd
/-- all but the state stands -/
def Kp (p c : Addr) (H H' : Hp) : Prop := ∀ b o, b ≠ p → b ≠ c → H b = some o → H' b = some o
theorem Kp.refl (p c : Addr) (H : Hp) : Kp p c H H := fun _ _ _ _ h => h
theorem Kp.trans {p c : Addr} {H H1 H2 : Hp} (a : Kp p c H H1) (b : Kp p c H1 H2) : Kp p c H H2 := fun x o n m h => b x o n m (a x o n m h)
theorem Same.kp {p c : Addr} {H H' : Hp} (a : Same H H') : Kp p c H H' := fun x o _ _ h => a x o h
theorem St.same {p c : Addr} {H H' : Hp} (a : Same H H') (s : St p c H) : St p c H' := by
  obtain ⟨xs, sd, s⟩ := s
  exact ⟨xs, sd, a _ _ s.hp, a _ _ s.hc, s.ne, s.len, s.pos, s.s0, s.s1⟩
theorem same_new {H : Hp} {p : Addr} (h : H p = none) (o : HO) : Same H (upd H p o) := fun b u q => by rw [upd_ne (ne_of_none q h)]; exact q
theorem same_mut {H H' : Hp} {p : Addr} (e : Same H H') (h : H p = none) (o : HO) : Same H (upd H' p o) := fun b u q => by
  rw [upd_ne (ne_of_none q h)]
  exact e b u q
theorem get_map {α β : Type} {g : α → β} {l : List α} {i : Nat} {y : β} (h : (l.map g)[i]? = some y) : ∃ x, l[i]? = some x ∧ g x = y := by
  rw [List.getElem?_map] at h
  cases e : l[i]? with
  | none =>
    rw [e] at h
    cases h
  | some z =>
    rw [e] at h
    exact ⟨z, rfl, Option.some.inj h⟩
theorem take_map {α β : Type} (g : α → β) {l : List α} {i : Nat} {x : α} (h : l[i]? = some x) : (l.take (i + 1)).map g = (l.take i).map g ++ [g x] := by
  rw [List.take_add_one, h, List.map_append]
  rfl
theorem yes_k {σ : L2.St} {H : Hp} {A B : Bool → Hp → Prop} (h : A true H) : tYes σ H fun b H3 => if b = true then A b H3 else B b H3 := by
  show (if true = true then A true H else B true H)
  rw [if_pos rfl]
  exact h
theorem if_true_of {c : Bool} {A B : Prop} (hc : c = true) (h : A) : if c = true then A else B := by
  rw [if_pos hc]
  exact h
theorem if_false_of {c : Bool} {A B : Prop} (hc : c = false) (h : B) : if c = true then A else B := by
  rw [hc, if_neg Bool.false_ne_true]
  exact h
theorem small {n : Nat} (h : n ≤ 100000) : n ≤ sizeLine := Nat.le_trans h (by decide)
theorem smallL {n : Nat} (h : n ≤ 100000) : n < sizeLine := Nat.lt_of_le_of_lt h (by decide)
section
variable {P : Program} {w : World} {K : PySem.W.Frag} {mg : Str → Option Value} {base : Heap}
def spState (K : PySem.W.Frag) : Sp := fun vs H Q _ => ∃ (a : Addr) (ns : List Int), vs = [.ref a] ∧ SqL K H a (ns.map V.int) ∧ ns.length ≤ 63 ∧
  ∀ H' p c, Same H H' → H p = none → H c = none → St p c H' → Q (.ref p) H'
theorem scState : FnScope ["script", "seed", "cell"] ["script"] (defScope sState) := ⟨rfl, rfl, rfl, by decide +kernel, rfl, by decide +kernel, by decide +kernel⟩
theorem ok_state {f : Addr} {fd : FuncData} {k : Nat} (F : Fun K "_law_state" "_law_state" sState f fd) (mi : mg "int" = none) (ma : mg "abs" = none) : FnOk P w K mg base CX0 (k + 1) f fd ["script"] (spState K) := by
  refine F.ok scState (fun vs H Q E h => ?_) (fun cdv A outer s H vs Q E hr h => ?_)
  · obtain ⟨a, ns, rfl, _⟩ := h
    rfl
  obtain ⟨a, ns, rfl, hS, hlen, q⟩ := h
  refine ⟨_, pss_cons (ps_set (i := 1) scState.nd rfl (.inl rfl) pe_int)
    (pss_cons (ps_for PassesOwn.never rfl (pi_list (pv 0)) (pg_name (i := 2) scState.nd rfl (.inl rfl))
      (pss_one (ps_set (i := 1) scState.nd rfl (.inl rfl) (pe_op op_mod (pe_callTy call_int1 (by rfl) mi (by decide +kernel) (pa_cons (pe_op op_add (pe_op op_mul (pv 1) pe_int) (pv 2)) pa_nil)) pe_int))))
    (pss_one (ps_ret (pe_lst (pa_cons (pe_lc (own := [("cell", 2)]) (g := gName 2) (tt := tYes) rfl scState.nd (pi_list (pv 0)) (blkOk_by (N := ["script", "seed", "cell"]) (sc := defScope sState) (by decide +kernel))
        (fun _ _ _ _ _ => pg_name (i := 2) scState.nd rfl (Or.inl rfl)) (fun _ _ _ _ _ => pts_nil)
        (fun _ _ _ _ _ => pe_callB call_abs (by rfl) ma (by decide +kernel) (pa_cons (pe_callTy call_int1 (by rfl) mi (by decide +kernel) (pa_cons (pv 2) pa_nil)) pa_nil)))
      (pa_cons (pe_op op_add (pv 1) pe_int) pa_nil)))))), ?_⟩
  refine ⟨_, rfl, a, rfl, ⟨_, hS⟩, for_list (K := K) (a := a) (xs := ns.map V.int) (fun i σ H' => ∃ (y : Option V) (sd : Int), σ = [some (.ref a), some (.int sd), y] ∧ 0 ≤ sd ∧ sd < 1000003 ∧ H' = H)
    ⟨none, 7, rfl, by decide, by decide, rfl⟩ (fun i σ H' _ ⟨_, _, _, _, _, e⟩ => e ▸ hS) ?_ ?_⟩
  · rintro i x σ H' hx ⟨y, sd, rfl, h0, h1, rfl⟩
    obtain ⟨z, hz, rfl⟩ := get_map hx
    refine ⟨_, rfl, _, _, rfl, rfl, .inl ⟨by omega, by omega⟩, _, rfl, _, _, rfl, rfl, .inl ⟨_, rfl, _, _, rfl, rfl, (by show (0 : Int) < 1000003; decide), ?_⟩⟩
    exact ⟨some (.int z), (sd * 31 + z) % 1000003, rfl, Int.emod_nonneg _ (by decide), Int.emod_lt_of_pos _ (by decide), rfl⟩
  · rintro σ H' ⟨y, sd, rfl, h0, h1, rfl⟩
    refine ⟨_, rfl, a, rfl, ⟨_, hS⟩, fun D hD => ?_⟩
    refine lc_list (K := K) (a := a) (xs := ns.map V.int) (fun i H2 => Same H' H2 ∧ H2 D = some (.lst ((ns.take i).map fun n => V.int (if n < 0 then -n else n)))) ⟨same_new hD _, upd_same⟩ (fun i H2 _ e => e.1.seq hS) ?_ ?_
    · rintro i x H2 hx ⟨sm, eD⟩
      obtain ⟨z, hz, rfl⟩ := get_map hx
      refine ⟨rfl, yes_k ⟨_, rfl, .inl ⟨z, rfl, z, rfl, _, eD, ?_, same_mut sm hD _, ?_⟩⟩⟩
      · rw [List.length_map, List.length_take]
        exact smallL (by omega)
      · rw [upd_same, take_map _ hz]
    · rintro H2 ⟨sm, eD⟩
      rw [List.length_map, List.take_length] at eD
      refine ⟨_, rfl, _, _, rfl, rfl, (by show 2 ≤ sizeLine; decide), fun p hp => ?_⟩
      have npD : p ≠ D := fun e => by
        rw [e, eD] at hp
        cases hp
      refine q _ p D (sm.trans (same_new hp _)) (sm.free hp) hD ⟨ns.map fun n => if n < 0 then -n else n, sd + 1, upd_same, ?_, npD, ?_, fun x hx => ?_, by omega, by omega⟩
      · rw [upd_ne (Ne.symm npD), eD, List.map_map]
        rfl
      · rw [List.length_map]
        exact hlen
      · obtain ⟨n, _, rfl⟩ := List.mem_map.mp hx
        by_cases c : n < 0
        · rw [if_pos c]
          omega
        · rw [if_neg c]
          omega
end
end Sg

namespace Sg
open PySem PySem.Spec PyProof.Rows L2
section
variable {P : Program} {w : World} {K : PySem.W.Frag} {mg : Str → Option Value} {base : Heap}
/-- draw(state, many): a number below many; of what stood only the state's two lists change -/
def spDraw : Sp := fun vs H Q _ => ∃ (p c : Addr) (m : Int), vs = [.ref p, .int m] ∧ 0 < m ∧ m < 1073741824 ∧ St p c H ∧
  ∀ H' r, Kp p c H H' → St p c H' → 0 ≤ r → r < m → Q (.int r) H'
theorem scDraw : FnScope ["state", "many", "cells", "value", "mixed"] ["state", "many"] (defScope sDraw) := ⟨rfl, rfl, rfl, by decide +kernel, rfl, by decide +kernel, by decide +kernel⟩
theorem at0 {v : V} {r : List V} : atI (v :: r) 0 = some v := atI_nat (j := 0) rfl
theorem at1 {u v : V} {r : List V} : atI (u :: v :: r) 1 = some v := atI_nat (j := 1) rfl
/-- a store at p or c -/
theorem Kp.put {p c a : Addr} {H H' : Hp} (k : Kp p c H H') (ha : a = p ∨ a = c) (o : HO) : Kp p c H (upd H' a o) := fun b u nb nc e => by
  rw [upd_ne (fun z => by rcases ha with h | h; exact nb (z.trans h); exact nc (z.trans h))]
  exact k b u nb nc e
theorem Kp.mut {p c a : Addr} {H H' : Hp} (k : Kp p c H H') (ha : H a = none) (o : HO) : Kp p c H (upd H' a o) := fun b u nb nc e => by
  rw [upd_ne (ne_of_none e ha)]
  exact k b u nb nc e
theorem St.put {p c a : Addr} {H : Hp} (s : St p c H) (h1 : a ≠ p) (h2 : a ≠ c) (o : HO) : St p c (upd H a o) := by
  obtain ⟨xs, sd, s⟩ := s
  exact ⟨xs, sd, by rw [upd_ne (Ne.symm h1)]; exact s.hp, by rw [upd_ne (Ne.symm h2)]; exact s.hc, s.ne, s.len, s.pos, s.s0, s.s1⟩
/-- a new place is none of the state's -/
theorem St.new {p c a : Addr} {H : Hp} (s : St p c H) (h : H a = none) : a ≠ p ∧ a ≠ c := by
  obtain ⟨xs, sd, s⟩ := s
  exact ⟨fun e => (by rw [e, s.hp] at h; cases h), fun e => (by rw [e, s.hc] at h; cases h)⟩
theorem Kp.free {p c a : Addr} {H H' : Hp} (k : Kp p c H H') (s : St p c H') (h : H' a = none) : H a = none := by
  have n := s.new h
  cases e : H a with
  | none => rfl
  | some u =>
    rw [k a u n.1 n.2 e] at h
    cases h
theorem StAt.cells {H : Hp} {p c : Addr} {xs ys : List Int} {sd : Int} (s : StAt H p c xs sd) (hl : ys.length ≤ 63) (hp : ∀ x ∈ ys, 0 ≤ x) : StAt (upd H c (.lst (ys.map V.int))) p c ys sd :=
  ⟨by rw [upd_ne s.ne]; exact s.hp, upd_same, s.ne, hl, hp, s.s0, s.s1⟩
theorem StAt.seed {H : Hp} {p c : Addr} {xs : List Int} {sd n : Int} (s : StAt H p c xs sd) (h0 : 0 ≤ n) (h1 : n < 2147483647) : StAt (upd H p (.lst [.ref c, .int n])) p c xs n :=
  ⟨upd_same, by rw [upd_ne (Ne.symm s.ne)]; exact s.hc, s.ne, s.len, s.pos, h0, h1⟩
theorem ok_draw {f : Addr} {fd : FuncData} {k : Nat} (F : Fun K "_law_draw" "_law_draw" sDraw f fd) (mi : mg "int" = none) (ml : mg "len" = none) : FnOk P w K mg base CX0 (k + 1) f fd ["state", "many"] spDraw := by
  refine F.ok scDraw (fun vs H Q E h => ?_) (fun cdv A outer s H vs Q E hr h => ?_)
  · obtain ⟨p, c, m, rfl, _⟩ := h
    rfl
  obtain ⟨p, c, m, rfl, hm0, hm1, ⟨xs, sd, S⟩, q⟩ := h
  refine ⟨_, pss_cons (ps_set (i := 2) scDraw.nd rfl (.inl rfl) (pe_ix ix_list (pv 0) pe_int (fun _ _ => rfl)))
    (pss_cons (ps_while PassesOwn.never (pw_and (pt_cmpR op_gt (pe_callB call_len_seq (by rfl) ml PySem.boot_len (pa_cons (pv 2) pa_nil)) pe_int (nomark _)) (pw_and1 (pt_cmpR op_eq (pe_ix ix_list (pv 2) pe_int (fun _ _ => rfl)) pe_int (nomark _)))).pt
      (pss_one (ps_expr (pe_bm PySem.F.plainAttrs_list PySem.F.slot_list_pop PySem.F.type_list_pop mt_popAt (pv 2) (pa_cons pe_int pa_nil)))))
    (pss_cons (ps_if (pt_cmpR op_gt (pe_callB call_len_seq (by rfl) ml PySem.boot_len (pa_cons (pv 2) pa_nil)) pe_int (nomark _))
      (pss_cons (ps_set (i := 3) scDraw.nd rfl (.inl rfl) (pe_ix ix_list (pv 2) pe_int (fun _ _ => rfl)))
      (pss_cons (ps_asg (pe_op op_fdivW (pv 3) (pv 1)) (pg_sub (pv 2) pe_int set_list (fun _ => rfl)))
      (pss_one (ps_ret (pe_op op_mod (pe_callTy call_int1 (by rfl) mi (by decide +kernel) (pa_cons (pv 3) pa_nil)) (pv 1)))))) pss_nil)
    (pss_cons (ps_set (i := 4) scDraw.nd rfl (.inl rfl) (pe_op op_mod (pe_callTy call_int1 (by rfl) mi (by decide +kernel) (pa_cons (pe_op op_add (pe_op op_mul (pe_ix ix_list (pv 0) pe_int (fun _ _ => rfl)) pe_int) pe_int) pa_nil)) pe_int))
    (pss_cons (ps_asg (pv 4) (pg_sub (pv 0) pe_int set_list (fun _ => rfl)))
    (pss_one (ps_ret (pe_op op_mod (pe_callTy call_int1 (by rfl) mi (by decide +kernel) (pa_cons (pe_op op_fdiv (pv 4) pe_int) pa_nil)) (pv 1)))))))), ?_⟩
  refine ⟨_, rfl, p, _, 0, .ref c, rfl, rfl, SqL.of S.hp, at0, ?_⟩
  refine ⟨fun n σ H' => ∃ (xs : List Int) (sd : Int), σ = [some (.ref p), some (.int m), some (.ref c), none, none] ∧ StAt H' p c xs sd ∧ Kp p c H H' ∧ n = xs.length, ⟨_, xs, sd, rfl, S, Kp.refl p c H, rfl⟩, ?_⟩
  rintro n σ H' ⟨xs, sd, rfl, S, kp, rfl⟩
  refine ⟨_, rfl, c, _, rfl, .inl (SqL.of S.hc), _, _, rfl, rfl, _, rfl, ?_⟩
  cases xs with
  | nil =>
    refine if_false_of (by simp) ?_
    refine if_false_of rfl ?_
    refine ⟨_, rfl, c, _, rfl, .inl (SqL.of S.hc), _, _, rfl, rfl, _, rfl, ?_⟩
    refine if_false_of (by simp) ?_
    refine ⟨_, rfl, p, _, 1, .int sd, rfl, rfl, SqL.of S.hp, at1, _, _, rfl, rfl, .inl ⟨by have := S.s0; omega, by have := S.s1; omega⟩, _, _, rfl, rfl, .inl ⟨_, rfl, _, _, rfl, rfl, (by show (0 : Int) < 2147483647; decide), ?_⟩⟩
    refine ⟨_, rfl, _, rfl, p, _, 1, 1, rfl, rfl, S.hp, rfl, ?_⟩
    refine ⟨_, rfl, _, _, rfl, rfl, ⟨by decide, by decide⟩, .inl ⟨_, rfl, _, rfl, _, _, rfl, rfl, hm0, ?_⟩⟩
    refine q _ _ (kp.put (.inl rfl) _) ⟨[], _, S.seed (Int.emod_nonneg _ (by decide)) (Int.emod_lt_of_pos _ (by decide))⟩ (Int.emod_nonneg _ (by omega)) (Int.emod_lt_of_pos _ hm0)
  | cons x r =>
    refine if_true_of (by simp) ?_
    refine ⟨_, rfl, c, _, 0, .int x, rfl, rfl, SqL.of S.hc, at0, rfl, _, rfl, ?_⟩
    by_cases hx : x = 0
    · refine if_true_of (by simp [hx]) ?_
      refine ⟨_, fun _ _ z => z, ?_⟩
      refine ⟨_, rfl, .inl ⟨rfl, _, SqL.of S.hc⟩, c, _, 0, 0, .int x, rfl, rfl, S.hc, by decide, by decide, ?_, rfl, ?_⟩
      · simp [seqIndex?]
      · refine ⟨r.length, Nat.lt_succ_self _, r, sd, rfl, S.cells ?_ ?_, kp.put (.inr rfl) _, rfl⟩
        · have := S.len
          rw [List.length_cons] at this
          omega
        · exact fun y hy => S.pos y (List.mem_cons_of_mem _ hy)
    · refine if_false_of (by simp [hx]) ?_
      refine ⟨_, rfl, c, _, rfl, .inl (SqL.of S.hc), _, _, rfl, rfl, _, rfl, ?_⟩
      refine if_true_of (by simp) ?_
      refine ⟨_, rfl, c, _, 0, .int x, rfl, rfl, SqL.of S.hc, at0, ?_⟩
      refine ⟨_, rfl, _, rfl, _, _, rfl, rfl, wide_div (b := 30) hm0 (by omega) (by decide) (by decide), _, rfl, c, _, 0, 0, rfl, rfl, S.hc, ?_, ?_⟩
      · simp [ixN]
      · refine ⟨_, rfl, .inl ⟨_, rfl, _, rfl, _, _, rfl, rfl, hm0, ?_⟩⟩
        have St2 : ((x / m) :: r).length ≤ 63 → (∀ y ∈ (x / m) :: r, 0 ≤ y) → StAt (upd H' c (.lst ((List.map V.int (x :: r)).set 0 (.int (x / m))))) p c ((x / m) :: r) sd := fun a b => S.cells a b
        refine q _ _ (kp.put (.inr rfl) _) ⟨(x / m) :: r, sd, St2 ?_ ?_⟩ (Int.emod_nonneg _ (by omega)) (Int.emod_lt_of_pos _ hm0)
        · have := S.len
          rw [List.length_cons] at this ⊢
          exact this
        · intro y hy
          rcases List.mem_cons.mp hy with e | e
          · rw [e]
            exact Int.ediv_nonneg (S.pos x List.mem_cons_self) (by omega)
          · exact S.pos y (List.mem_cons_of_mem _ e)
end
end Sg

namespace Sg
open PySem PySem.Spec PyProof.Rows L2
section
variable {P : Program} {w : World} {K : PySem.W.Frag} {mg : Str → Option Value} {base : Heap}
/-- pick(state, row): one of the row's items -/
def spPick : Sp := fun vs H Q _ => ∃ (p c b : Addr) (xs : List V), vs = [.ref p, .ref b] ∧ H b = some (.lst xs) ∧ b ≠ p ∧ b ≠ c ∧ xs ≠ [] ∧ xs.length ≤ 1000 ∧ St p c H ∧
  ∀ H' v, Kp p c H H' → St p c H' → v ∈ xs → Q v H'
theorem scPick : FnScope ["state", "row"] ["state", "row"] (defScope sPick) := ⟨rfl, rfl, rfl, by decide +kernel, rfl, by decide +kernel, by decide +kernel⟩
theorem ok_pick {f fD : Addr} {fd fdD : FuncData} {k : Nat} (F : Fun K "_law_pick" "_law_pick" sPick f fd) (G : FnOk P w K mg base CX0 k fD fdD ["state", "many"] spDraw) (bD : Binds K fdD ["state", "many"] []) (kD : PySem.W.keepIn K (.ref fD) = true)
    (mD : mg "_law_draw" = some (.ref fD)) (ml : mg "len" = none) : FnOk P w K mg base CX0 (k + 1) f fd ["state", "row"] spPick := by
  refine F.ok scPick (fun vs H Q E h => ?_) (fun cdv A outer s H vs Q E hr h => ?_)
  · obtain ⟨p, c, b, xs, rfl, _⟩ := h
    rfl
  obtain ⟨p, c, b, xs, rfl, hb, nbp, nbc, hne, hlen, S, q⟩ := h
  refine ⟨_, pss_one (ps_ret (pe_ix ix_list (pv 1) (pe_call G hr (by rfl) mD kD bD .nil pass0 (pa_cons (pv 0) (pa_cons (pe_callB call_len_seq (by rfl) ml PySem.boot_len (pa_cons (pv 1) pa_nil)) pa_nil))) (fun _ _ => rfl))), ?_⟩
  have hl : 0 < xs.length := List.length_pos_iff.mpr hne
  refine ⟨_, rfl, _, rfl, _, rfl, b, _, rfl, .inl (SqL.of hb), p, c, _, rfl, ?_, ?_, S, fun H' r kp S' h0 h1 => ?_⟩
  · omega
  · omega
  · obtain ⟨n, rfl⟩ : ∃ n : Nat, r = n := ⟨r.toNat, by omega⟩
    have hn : n < xs.length := by omega
    refine ⟨b, xs, n, xs[n], rfl, rfl, SqL.of (kp b _ nbp nbc hb), atI_nat (List.getElem?_eq_getElem hn), q H' _ kp S' (List.getElem_mem hn)⟩
end
end Sg

namespace Sg
open PySem PySem.Spec PyProof.Rows L2
section
variable {P : Program} {w : World} {K : PySem.W.Frag} {mg : Str → Option Value} {base : Heap}
/-- all signs of t stand in s -/
def madeOf (t s : Str) : Bool := t.cps.toList.all fun c => decide (c ∈ s.cps.toList)
def spMade : Sp := fun vs H Q _ => ∃ (t s : Str), vs = [.str t, .str s] ∧ t.length ≤ 100000 ∧ ∀ H', Same H H' → Q (.bl (madeOf t s)) H'
theorem scMade : FnScope ["text", "signs", "sign"] ["text", "signs"] (defScope sMade) := ⟨rfl, rfl, rfl, by decide +kernel, rfl, by decide +kernel, by decide +kernel⟩
theorem len_cps (x : Str) : x.cps.toList.length = x.length := by
  rw [Array.length_toList]
  rfl
theorem ok_made {f : Addr} {fd : FuncData} {k : Nat} (F : Fun K "made_of" "made_of" sMade f fd) (ma : mg "all" = none) : FnOk P w K mg base CX0 (k + 1) f fd ["text", "signs"] spMade := by
  refine F.ok scMade (fun vs H Q E h => ?_) (fun cdv A outer st H vs Q E hr h => ?_)
  · obtain ⟨t, s, rfl, _⟩ := h
    rfl
  obtain ⟨t, s, rfl, hlen, q⟩ := h
  refine ⟨_, pss_one (ps_ret (pe_callB (cr_all rfl) (by rfl) ma boot_all (pa_cons (pe_lc (own := [("sign", 2)]) (g := gName 2) (tt := tYes) rfl scMade.nd (pi_str (pv 0)) (blkOk_by (N := ["text", "signs", "sign"]) (sc := defScope sMade) (by decide +kernel))
        (fun _ _ _ _ _ => pg_name (i := 2) scMade.nd rfl (Or.inl rfl)) (fun _ _ _ _ _ => pts_nil)
        (fun _ _ _ _ _ => pe_cmpR op_in_sign (pv 2) (pv 1) rfl)) pa_nil))), ?_⟩
  refine ⟨_, rfl, t, rfl, fun D hD => ?_⟩
  refine lc_it walk_str (fun i H2 => Same H H2 ∧ H2 D = some (.lst ((t.cps.toList.take i).map fun c => V.bl (decide (c ∈ s.cps.toList))))) ⟨same_new hD _, upd_same⟩ (fun _ _ _ _ => trivial) ?_ ?_
  · rintro i x H2 H3 hi ⟨sm, eD⟩ ⟨rfl, c, hc, rfl⟩
    refine ⟨rfl, yes_k ⟨_, rfl, _, rfl, c, s, rfl, rfl, _, eD, ?_, same_mut sm hD _, ?_⟩⟩
    · rw [List.length_map, List.length_take, len_cps]
      exact smallL (by omega)
    · rw [upd_same, take_map _ (x := c) (by rw [Array.getElem?_toList]; exact hc)]
  · rintro H2 ⟨sm, eD⟩
    rw [List.take_of_length_le (by rw [Array.length_toList]; exact Nat.le_refl _)] at eD
    refine ⟨D, t.cps.toList.map fun c => decide (c ∈ s.cps.toList), rfl, SqL.of (by rw [eD, List.map_map]; rfl), ?_⟩
    have e : (t.cps.toList.map fun c => decide (c ∈ s.cps.toList)).all id = madeOf t s := by
      rw [List.all_map]
      rfl
    rw [e]
    exact q H2 sm
end
end Sg

namespace Sg
open PySem PySem.Spec PyProof.Rows L2
/-! ### names_an_integer, is_a_name -/
def isDig (c : Nat) : Bool := decide (48 ≤ c ∧ c ≤ 57)
def isLet (c : Nat) : Bool := decide (97 ≤ c ∧ c ≤ 122)
def stripDash : List Nat → List Nat
  | 45 :: r => r
  | l => l
def isIntL (l : List Nat) : Bool := l == [48] || (decide (1 ≤ (stripDash l).length ∧ (stripDash l).length ≤ 9) && ((stripDash l).head? != some 48 && (stripDash l).all isDig))
def specials : List (List Nat) := [[43], [45], [42], [60], [61], [95], [46, 46, 46]]
def isNameL (l : List Nat) : Bool := decide (l ∈ specials) || (decide (l.length ≤ 20) && ((l.head?.map isLet).getD false && l.all fun c => isLet c || isDig c))
structure Consts (K : PySem.W.Frag) (mg : Str → Option Value) : Prop where
  dl : ∃ t, mg "DEEPEST_LIST" = some (.int 30 t)
  md : ∃ t, mg "MOST_DIGITS" = some (.int 9 t)
  ln : ∃ t, mg "LONGEST_NAME" = some (.int 20 t)
  di : ∃ t, mg "DIGITS" = some (.str "0123456789" t)
  le : ∃ t, mg "LETTERS" = some (.str "abcdefghijklmnopqrstuvwxyz" t)
  sp : ∃ a, mg "SPECIAL_NAMES" = some (.ref a) ∧ ∀ H, SqT K H a (specials.map fun l => V.str ⟨l.toArray⟩)
theorem digits_all (x : Str) : madeOf x "0123456789" = x.cps.toList.all isDig := by
  have e : ("0123456789" : Str).cps.toList = [48, 49, 50, 51, 52, 53, 54, 55, 56, 57] := by decide +kernel
  unfold madeOf
  rw [e]
  refine congrArg (List.all x.cps.toList) (funext fun c => ?_)
  rw [isDig]
  by_cases h : 48 ≤ c ∧ c ≤ 57
  · rw [decide_eq_true h, decide_eq_true]
    simp only [List.mem_cons, List.not_mem_nil, or_false]
    omega
  · rw [decide_eq_false h, decide_eq_false]
    simp only [List.mem_cons, List.not_mem_nil, or_false]
    omega
theorem letters_cps : ("abcdefghijklmnopqrstuvwxyz" : Str).cps.toList = [97, 98, 99, 100, 101, 102, 103, 104, 105, 106, 107, 108, 109, 110, 111, 112, 113, 114, 115, 116, 117, 118, 119, 120, 121, 122] := by decide +kernel
theorem letter_in (c : Nat) : decide (c ∈ ("abcdefghijklmnopqrstuvwxyz" : Str).cps.toList) = isLet c := by
  rw [letters_cps, isLet]
  by_cases h : 97 ≤ c ∧ c ≤ 122
  · rw [decide_eq_true h, decide_eq_true]
    simp only [List.mem_cons, List.not_mem_nil, or_false]
    omega
  · rw [decide_eq_false h, decide_eq_false]
    simp only [List.mem_cons, List.not_mem_nil, or_false]
    omega
theorem letters_all (x : Str) : madeOf x (("abcdefghijklmnopqrstuvwxyz" : Str) ++ ("0123456789" : Str)) = x.cps.toList.all fun c => isLet c || isDig c := by
  have e : (("abcdefghijklmnopqrstuvwxyz" : Str) ++ ("0123456789" : Str)).cps.toList = [97, 98, 99, 100, 101, 102, 103, 104, 105, 106, 107, 108, 109, 110, 111, 112, 113, 114, 115, 116, 117, 118, 119, 120, 121, 122, 48, 49, 50, 51, 52, 53, 54, 55, 56, 57] := by decide +kernel
  unfold madeOf
  rw [e]
  refine congrArg (List.all x.cps.toList) (funext fun c => ?_)
  rw [isLet, isDig, ← Bool.decide_or]
  refine decide_eq_decide.mpr ?_
  simp only [List.mem_cons, List.not_mem_nil, or_false]
  omega
theorem str_ext {x y : Str} (h : x.cps.toList = y.cps.toList) : x = y := by
  cases x with
  | mk a => cases y with
    | mk b => exact congrArg Str.mk (Array.ext' h)
theorem dash_cps (x : Str) : (Txt.removeprefix x "-").cps.toList = stripDash x.cps.toList := by
  have l1 : ("-" : Str).length = 1 := by decide +kernel
  have l2 : ("-" : Str).cps.toList = [45] := by decide +kernel
  rw [PySem.StrLaws.removeprefix_eq, PySem.StrLaws.subAt_eq, l1, l2, ← len_cps x]
  generalize hl : x.cps.toList = l
  cases l with
  | nil =>
    rw [if_neg (by simp)]
    exact hl
  | cons c r =>
    by_cases h : c = 45
    · subst h
      have e : stripDash (45 :: r) = r := rfl
      rw [e]
      simp
    · have e : stripDash (c :: r) = c :: r := by
        unfold stripDash
        split
        · rename_i r' e
          cases e
          exact absurd rfl h
        · rfl
      rw [e]
      simp [h]
      exact hl
section
variable {P : Program} {w : World} {K : PySem.W.Frag} {mg : Str → Option Value} {base : Heap}
def spIsInt : Sp := fun vs H Q _ => ∃ x : Str, vs = [.str x] ∧ x.length ≤ 100000 ∧ ∀ H', Same H H' → Q (.bl (isIntL x.cps.toList)) H'
theorem scIsInt : FnScope ["run", "digits"] ["run"] (defScope sIsInt) := ⟨rfl, rfl, rfl, by decide +kernel, rfl, by decide +kernel, by decide +kernel⟩
theorem ok_isInt {f fM : Addr} {fd fdM : FuncData} {k : Nat} (F : Fun K "names_an_integer" "names_an_integer" sIsInt f fd) (G : FnOk P w K mg base CX0 k fM fdM ["text", "signs"] spMade) (bM : Binds K fdM ["text", "signs"] []) (kM : PySem.W.keepIn K (.ref fM) = true)
    (mM : mg "made_of" = some (.ref fM)) (ml : mg "len" = none) (C : Consts K mg) : FnOk P w K mg base CX0 (k + 1) f fd ["run"] spIsInt := by
  refine F.ok scIsInt (fun vs H Q E h => ?_) (fun cdv A outer st H vs Q E hr h => ?_)
  · obtain ⟨x, rfl, _⟩ := h
    rfl
  obtain ⟨x, rfl, hlen, q⟩ := h
  obtain ⟨tM, gM⟩ := C.md
  obtain ⟨tD, gD⟩ := C.di
  refine ⟨_, pss_cons (ps_if (pt_cmpR op_eq (pv 0) pe_str (nomark _)) (pss_one (ps_ret pe_bl)) pss_nil)
    (pss_cons (ps_set (i := 1) scIsInt.nd rfl (.inl rfl) (pe_m1 PySem.F.slot_str_removeprefix PySem.F.type_str_removeprefix mt_removeprefix (pv 0) pe_str))
    (pss_cons (ps_if (pw_or (pt_not (pt_chain op_le op_le pe_int (pe_callB call_len_str (by rfl) ml PySem.boot_len (pa_cons (pv 1) pa_nil)) (pe_glob (v := .int 9) (by rfl) gM ⟨_, rfl⟩))) (pw_or1 (pt_cmpR op_eq (pe_ix ix_str (pv 1) pe_int (fun _ _ => rfl)) pe_str (nomark _)))).pt
        (pss_one (ps_ret pe_bl)) pss_nil)
    (pss_one (ps_ret (pe_call G hr (by rfl) mM kM bM .nil pass0 (pa_cons (pv 1) (pa_cons (pe_glob (v := .str "0123456789") (by rfl) gD ⟨_, rfl⟩) pa_nil))))))), ?_⟩
  refine ⟨_, rfl, rfl, _, rfl, ?_⟩
  by_cases h0 : x = "0"
  · refine if_true_of (by simp [h0]) ?_
    have e : isIntL x.cps.toList = true := by
      rw [h0]
      decide +kernel
    have q' := q H (Same.refl H)
    rw [e] at q'
    exact q'
  · refine if_false_of (by simp [h0]) ?_
    refine ⟨_, rfl, ⟨_, rfl⟩, x, "-", rfl, rfl, small hlen, ?_⟩
    have hd := dash_cps x
    generalize Txt.removeprefix x "-" = d at hd
    have hx : x.cps.toList ≠ [48] := fun e => h0 (str_ext e)
    have hdl : d.length ≤ x.length := by
      rw [← len_cps, ← len_cps, hd]
      generalize x.cps.toList = l
      unfold stripDash
      split
      · exact Nat.le_succ _
      · exact Nat.le_refl _
    have hdn : d.length = (stripDash x.cps.toList).length := by rw [← len_cps, hd]
    have eI : isIntL x.cps.toList = (decide (1 ≤ d.length ∧ d.length ≤ 9) && (d.cps.toList.head? != some 48 && d.cps.toList.all isDig)) := by
      unfold isIntL
      rw [hdn, hd, beq_eq_false_iff_ne.mpr hx, Bool.false_or]
    rw [eI] at q
    refine ⟨_, rfl, d, rfl, small (by omega), _, _, rfl, rfl, ?_⟩
    refine ⟨_, rfl, ?_⟩
    have no : (decide (1 ≤ d.length ∧ d.length ≤ 9) && (d.cps.toList.head? != some 48 && d.cps.toList.all isDig)) = false → Q (.bl false) H := fun e => by
      have q' := q H (Same.refl H)
      rw [e] at q'
      exact q'
    by_cases h1 : 1 ≤ d.length
    · refine if_true_of (decide_eq_true (by omega)) ?_
      refine ⟨_, _, rfl, rfl, _, rfl, ?_⟩
      by_cases h2 : d.length ≤ 9
      · refine if_false_of (by rw [decide_eq_true (show (d.length : Int) ≤ 9 by omega)]; rfl) ?_
        obtain ⟨c, r, hc⟩ : ∃ c r, d.cps.toList = c :: r := by
          cases e : d.cps.toList with
          | nil =>
            rw [← len_cps, e] at h1
            exact absurd h1 (by decide)
          | cons c r => exact ⟨c, r, rfl⟩
        refine ⟨_, rfl, d, 0, c, rfl, rfl, small (by omega), by rw [hc]; exact atI_nat (j := 0) rfl, rfl, _, rfl, ?_⟩
        have hz : (V.str ⟨#[c]⟩ = V.str "0") ↔ c = 48 := by
          have e0 : ("0" : Str) = ⟨#[48]⟩ := str_ext (by decide +kernel)
          rw [e0]
          constructor
          · intro e
            injection e with e
            injection e with e
            injection e with e
            injection e
          · rintro rfl
            rfl
        by_cases h3 : c = 48
        · refine if_true_of (decide_eq_true (hz.mpr h3)) ?_
          exact no (by rw [hc, h3]; simp)
        · refine if_false_of (decide_eq_false fun e => h3 (hz.mp e)) ?_
          refine ⟨_, rfl, d, _, rfl, by omega, fun H' sm => ?_⟩
          have q' := q H' sm
          rw [decide_eq_true ⟨h1, h2⟩, Bool.true_and, hc, List.head?_cons, ← hc, ← digits_all] at q'
          have e2 : (some c != some 48) = true := by simp [h3]
          rw [e2, Bool.true_and] at q'
          exact q'
      · refine if_true_of (by rw [decide_eq_false (show ¬ (d.length : Int) ≤ 9 by omega)]; rfl) ?_
        refine if_true_of rfl ?_
        exact no (by rw [decide_eq_false (fun e => h2 e.2)]; rfl)
    · refine if_false_of (decide_eq_false (by omega)) ?_
      refine ⟨_, rfl, ?_⟩
      refine if_true_of rfl ?_
      refine if_true_of rfl ?_
      exact no (by rw [decide_eq_false (fun e => h1 e.1)]; rfl)
end
end Sg

namespace Sg
open PySem PySem.Spec PyProof.Rows L2
section
variable {P : Program} {w : World} {K : PySem.W.Frag} {mg : Str → Option Value} {base : Heap}
theorem in_specials (x : Str) : inV (.str x) (specials.map fun l => V.str ⟨l.toArray⟩) = decide (x.cps.toList ∈ specials) := by
  have e : ∀ l : List Nat, eqV (.str ⟨l.toArray⟩) (.str x) = decide (x.cps.toList = l) := fun l => by
    by_cases h : x.cps.toList = l
    · rw [decide_eq_true h]
      have hx : x = ⟨l.toArray⟩ := str_ext (by rw [h])
      rw [hx]
      simp [eqV]
    · rw [decide_eq_false h]
      have hx : x ≠ ⟨l.toArray⟩ := fun z => h (by rw [z])
      simp [eqV, hx, Ne.symm hx]
  unfold inV
  rw [List.any_map]
  have e2 : (((fun y => eqV y (V.str x)) ∘ fun l : List Nat => V.str ⟨l.toArray⟩) : List Nat → Bool) = fun l => decide (x.cps.toList = l) := funext fun l => e l
  rw [e2]
  rw [List.any_eq]
  exact decide_eq_decide.mpr ⟨fun ⟨l, h1, h2⟩ => by rw [of_decide_eq_true h2]; exact h1, fun h => ⟨_, h, decide_eq_true rfl⟩⟩
theorem specials_vals (u1 u2 u3 u4 u5 u6 u7 : Tok) : Vals (specials.map fun l => V.str ⟨l.toArray⟩) (#[Value.str "+" u1, .str "-" u2, .str "*" u3, .str "<" u4, .str "=" u5, .str "_" u6, .str "..." u7] : Array Value).toList := by
  have e : (specials.map fun l => V.str ⟨l.toArray⟩) = [V.str "+", V.str "-", V.str "*", V.str "<", V.str "=", V.str "_", V.str "..."] := by decide +kernel
  rw [e]
  exact .cons ⟨_, rfl⟩ (.cons ⟨_, rfl⟩ (.cons ⟨_, rfl⟩ (.cons ⟨_, rfl⟩ (.cons ⟨_, rfl⟩ (.cons ⟨_, rfl⟩ (.cons ⟨_, rfl⟩ .nil))))))
def spIsName : Sp := fun vs H Q _ => ∃ x : Str, vs = [.str x] ∧ x.length ≤ 100000 ∧ 0 < x.length ∧ ∀ H', Same H H' → Q (.bl (isNameL x.cps.toList)) H'
theorem scIsName : FnScope ["run"] ["run"] (defScope sIsName) := ⟨rfl, rfl, rfl, by decide +kernel, rfl, by decide +kernel, by decide +kernel⟩
theorem ok_isName {f fM : Addr} {fd fdM : FuncData} {k : Nat} (F : Fun K "is_a_name" "is_a_name" sIsName f fd) (G : FnOk P w K mg base CX0 k fM fdM ["text", "signs"] spMade) (bM : Binds K fdM ["text", "signs"] []) (kM : PySem.W.keepIn K (.ref fM) = true)
    (mM : mg "made_of" = some (.ref fM)) (ml : mg "len" = none) (C : Consts K mg) : FnOk P w K mg base CX0 (k + 1) f fd ["run"] spIsName := by
  refine F.ok scIsName (fun vs H Q E h => ?_) (fun cdv A outer st H vs Q E hr h => ?_)
  · obtain ⟨x, rfl, _⟩ := h
    rfl
  obtain ⟨x, rfl, hlen, hpos, q⟩ := h
  obtain ⟨tN, gN⟩ := C.ln
  obtain ⟨tD, gD⟩ := C.di
  obtain ⟨tL, gL⟩ := C.le
  obtain ⟨aS, gS, hS⟩ := C.sp
  refine ⟨_, pss_cons (ps_if (pt_cmpR op_in_seq (pv 0) (pe_glob (v := .ref aS) (by rfl) gS rfl) rfl) (pss_one (ps_ret pe_bl)) pss_nil)
    (pss_cons (ps_if (pw_or (pt_cmpR op_gt (pe_callB call_len_str (by rfl) ml PySem.boot_len (pa_cons (pv 0) pa_nil)) (pe_glob (v := .int 20) (by rfl) gN ⟨_, rfl⟩) (nomark _))
          (pw_or1 (pt_cmpR op_notIn_sign (pe_ix ix_str (pv 0) pe_int (fun _ _ => rfl)) (pe_glob (v := .str "abcdefghijklmnopqrstuvwxyz") (by rfl) gL ⟨_, rfl⟩) rfl))).pt
        (pss_one (ps_ret pe_bl)) pss_nil)
    (pss_one (ps_ret (pe_call G hr (by rfl) mM kM bM .nil pass0 (pa_cons (pv 0) (pa_cons (pe_op op_add_str (pe_glob (v := .str "abcdefghijklmnopqrstuvwxyz") (by rfl) gL ⟨_, rfl⟩) (pe_glob (v := .str "0123456789") (by rfl) gD ⟨_, rfl⟩)) pa_nil)))))), ?_⟩
  have go : ∀ {b : Bool}, isNameL x.cps.toList = b → Q (.bl b) H := fun e => by
    rw [← e]
    exact q H (Same.refl H)
  refine ⟨_, rfl, aS, _, rfl, .inr (hS H), rfl, by decide +kernel, _, rfl, ?_⟩
  rw [if_neg Bool.false_ne_true, in_specials]
  by_cases h0 : x.cps.toList ∈ specials
  · refine if_true_of (decide_eq_true h0) ?_
    exact go (by unfold isNameL; rw [decide_eq_true h0]; rfl)
  · refine if_false_of (decide_eq_false h0) ?_
    have eN : isNameL x.cps.toList = (decide (x.length ≤ 20) && ((x.cps.toList.head?.map isLet).getD false && x.cps.toList.all fun c => isLet c || isDig c)) := by
      unfold isNameL
      rw [decide_eq_false h0, len_cps, Bool.false_or]
    refine ⟨_, rfl, x, rfl, small hlen, _, _, rfl, rfl, _, rfl, ?_⟩
    by_cases h1 : x.length ≤ 20
    · refine if_false_of (decide_eq_false (by omega)) ?_
      obtain ⟨c, r, hc⟩ : ∃ c r, x.cps.toList = c :: r := by
        cases e : x.cps.toList with
        | nil =>
          rw [← len_cps, e] at hpos
          exact absurd hpos (by decide)
        | cons c r => exact ⟨c, r, rfl⟩
      refine ⟨_, rfl, x, 0, c, rfl, rfl, small hlen, by rw [hc]; exact atI_nat (j := 0) rfl, c, _, rfl, rfl, _, rfl, ?_⟩
      rw [letter_in c]
      cases h2 : isLet c with
      | false =>
        refine if_true_of rfl ?_
        exact go (by rw [eN, hc, List.head?_cons]; simp [h2])
      | true =>
        refine if_false_of rfl ?_
        refine ⟨_, rfl, _, _, rfl, rfl, (by decide +kernel), x, _, rfl, hlen, fun H' sm => ?_⟩
        have q' := q H' sm
        rw [eN, decide_eq_true h1, Bool.true_and, ← letters_all] at q'
        have e2 : (x.cps.toList.head?.map isLet).getD false = true := by
          rw [hc]
          exact h2
        rw [e2, Bool.true_and] at q'
        exact q'
    · refine if_true_of (decide_eq_true (by omega)) ?_
      refine if_true_of rfl ?_
      exact go (by rw [eN, decide_eq_false h1]; rfl)
end
end Sg

namespace Sg
open PySem PySem.Spec PyProof.Rows L2
/-! ### pieces -/
def S (l : List Nat) : Str := ⟨l.toArray⟩
theorem S_cps (l : List Nat) : (S l).cps.toList = l := rfl
theorem S_of (x : Str) : S x.cps.toList = x := by
  cases x with
  | mk a => exact congrArg Str.mk (Array.toArray_toList)
def isSep (c : Nat) : Bool := decide (c = 32 ∨ c = 10 ∨ c = 40 ∨ c = 41)
def isPar (c : Nat) : Bool := decide (c = 40 ∨ c = 41)
abbrev Pc := Nat × List Nat
def runPart (l : List Nat) (start i : Nat) : List Pc := if start < i then [(start, (l.drop start).take (i - start))] else []
def parPart (i c : Nat) : List Pc := if isPar c then [(i, [c])] else []
def pstep (l : List Nat) (st : Nat × List Pc) (i c : Nat) : Nat × List Pc :=
  if isSep c then (i + 1, (st.2 ++ runPart l st.1 i) ++ parPart i c) else st
def prun (l : List Nat) : Nat → Nat × List Pc
  | 0 => (0, [])
  | n + 1 => match (l ++ [32])[n]? with
    | some c => pstep l (prun l n) n c
    | none => prun l n
def piecesL (l : List Nat) : List Pc := (prun l (l.length + 1)).2
theorem prun_more {l : List Nat} {n c : Nat} (h : (l ++ [32])[n]? = some c) : prun l (n + 1) = pstep l (prun l n) n c := by
  show (match (l ++ [32])[n]? with
    | some c => pstep l (prun l n) n c
    | none => prun l n) = _
  rw [h]
theorem prun_le (l : List Nat) : ∀ n, (prun l n).1 ≤ n ∧ (prun l n).2.length ≤ 2 * n
  | 0 => ⟨Nat.le_refl _, Nat.le_refl _⟩
  | n + 1 => by
    have ih := prun_le l n
    cases h : (l ++ [32])[n]? with
    | none =>
      have e : prun l (n + 1) = prun l n := by
        show (match (l ++ [32])[n]? with
          | some c => pstep l (prun l n) n c
          | none => prun l n) = _
        rw [h]
      rw [e]
      omega
    | some c =>
      rw [prun_more h]
      unfold pstep
      split
      · refine ⟨Nat.le_refl _, ?_⟩
        have h1 : (runPart l (prun l n).1 n).length ≤ 1 := by
          unfold runPart
          split
          · exact Nat.le_refl _
          · exact Nat.zero_le _
        have h2 : (parPart n c).length ≤ 1 := by
          unfold parPart
          split
          · exact Nat.le_refl _
          · exact Nat.zero_le _
        show ((prun l n).2 ++ runPart l (prun l n).1 n ++ parPart n c).length ≤ 2 * (n + 1)
        rw [List.length_append, List.length_append]
        omega
      · omega
/-- the pairs stand at the places -/
def PairAt (H : Hp) (v : V) (p : Pc) : Prop := ∃ a, v = .ref a ∧ H a = some (.tup [.int (p.1 : Nat), .str (S p.2)])
def PairsAt (H : Hp) : List V → List Pc → Prop := Paired (PairAt H)
theorem Paired.app {α β : Type} {R : α → β → Prop} {as cs : List α} {bs ds : List β} (h : Paired R as bs) (g : Paired R cs ds) : Paired R (as ++ cs) (bs ++ ds) := by
  induction h with
  | nil => exact g
  | cons r _ ih => exact .cons r ih
theorem PairsAt.same {H H' : Hp} {vs : List V} {ps : List Pc} (sm : Same H H') (h : PairsAt H vs ps) : PairsAt H' vs ps :=
  Paired.mapP h fun _ _ ⟨a, e, q⟩ => ⟨a, e, sm _ _ q⟩
theorem PairsAt.grow {H : Hp} {vs : List V} {ps : List Pc} {o t : Addr} {xs ys : List V} (p : Pc) (h : PairsAt H vs ps) (eo : H o = some (.lst xs)) (ht : H t = none) :
    PairsAt (upd (upd H t (.tup [.int (p.1 : Nat), .str (S p.2)])) o (.lst ys)) (vs ++ [.ref t]) (ps ++ [p]) := by
  refine Paired.snoc (Paired.mapP h fun v q ⟨a, e, z⟩ => ⟨a, e, ?_⟩) ⟨t, rfl, ?_⟩
  · have n1 : a ≠ o := fun y => by
      rw [y, eo] at z
      cases z
    rw [upd_ne n1, upd_ne (ne_of_none z ht)]
    exact z
  · rw [upd_ne (Ne.symm (ne_of_none eo ht)), upd_same]
theorem sep_in (c : Nat) : decide (c ∈ (" \n()" : Str).cps.toList) = isSep c := by
  have e : (" \n()" : Str).cps.toList = [32, 10, 40, 41] := by decide +kernel
  rw [e, isSep]
  exact decide_eq_decide.mpr (by simp)
theorem par_in (c : Nat) : decide (c ∈ ("()" : Str).cps.toList) = isPar c := by
  have e : ("()" : Str).cps.toList = [40, 41] := by decide +kernel
  rw [e, isPar]
  exact decide_eq_decide.mpr (by simp)
theorem cut_run (x : Str) (a b : Nat) (h : a ≤ b) (hb : b ≤ x.length) : cutS x (some (a : Int)) (some (b : Int)) = S ((x.cps.toList.drop a).take (b - a)) := by
  unfold cutS S
  rw [show HT.sIx x.length 0 (some (a : Int)) = min a x.length from HT.sIx_nat x.length 0 a, show HT.sIx x.length x.length (some (b : Int)) = min b x.length from HT.sIx_nat x.length x.length b]
  rw [Nat.min_eq_left (show a ≤ x.length by omega), Nat.min_eq_left hb]
theorem app_sp (x : Str) : (x ++ (" " : Str)).cps.toList = x.cps.toList ++ [32] := by
  have e : (" " : Str).cps.toList = [32] := by decide +kernel
  first
    | (rw [← e]; exact Array.toList_append)
    | (show (x.cps ++ (" " : Str).cps).toList = _; rw [Array.toList_append, e])
section
variable {P : Program} {w : World} {K : PySem.W.Frag} {mg : Str → Option Value} {base : Heap}
def spPieces : Sp := fun vs H Q _ => ∃ x : Str, vs = [.str x] ∧ x.length ≤ 20000 ∧ ∀ H' o vs, Same H H' → H o = none → H' o = some (.lst vs) → PairsAt H' vs (piecesL x.cps.toList) → Q (.ref o) H'
theorem scPieces : FnScope ["text", "found", "start", "at", "sign"] ["text"] (defScope sPieces) := ⟨rfl, rfl, rfl, by decide +kernel, rfl, by decide +kernel, by decide +kernel⟩
theorem ok_pieces {f : Addr} {fd : FuncData} {k : Nat} (F : Fun K "pieces" "pieces" sPieces f fd) (me : mg "enumerate" = none) : FnOk P w K mg base CX0 (k + 1) f fd ["text"] spPieces := by
  refine F.ok scPieces (fun vs H Q E h => ?_) (fun cdv A outer st H vs Q E hr h => ?_)
  · obtain ⟨x, rfl, _⟩ := h
    rfl
  obtain ⟨x, rfl, hlen, q⟩ := h
  refine ⟨_, pss_cons (ps_set (i := 1) scPieces.nd rfl (.inl rfl) (pe_lst pa_nil))
    (pss_cons (ps_set (i := 2) scPieces.nd rfl (.inl rfl) pe_int)
    (pss_cons (ps_for PassesOwn.never rfl (pi_enumS (by rfl) me (pa_cons (pe_op op_add_str (pv 0) pe_str) pa_nil)) (pg_tup rfl (pgs_cons (pg_name (i := 3) scPieces.nd rfl (.inl rfl)) (pgs_cons (pg_name (i := 4) scPieces.nd rfl (.inl rfl)) pgs_nil)))
      (pss_one (ps_if (pt_cmpR op_in_sign (pv 4) pe_str rfl)
        (Evl.pss_cut (ps_if (pt_cmpR op_lt (pv 2) (pv 3) (nomark _))
          (pss_one (ps_expr (pe_bm PySem.F.plainAttrs_list PySem.F.slot_list_append PySem.F.type_list_append mt_append (pv 1) (pa_cons (pe_tup (pa_cons (pv 2) (pa_cons (pe_slice sl_str (pv 0) (po_some (pv 2)) (po_some (pv 3))) pa_nil))) pa_nil)))) pss_nil)
        (Evl.pss_cut (ps_if (pt_cmpR op_in_sign (pv 4) pe_str rfl)
          (pss_one (ps_expr (pe_bm PySem.F.plainAttrs_list PySem.F.slot_list_append PySem.F.type_list_append mt_append (pv 1) (pa_cons (pe_tup (pa_cons (pv 3) (pa_cons (pv 4) pa_nil))) pa_nil)))) pss_nil)
        (pss_one (ps_set (i := 2) scPieces.nd rfl (.inl rfl) (pe_op op_add (pv 3) pe_int))))) pss_nil)))
    (pss_one (ps_ret (pv 1))))), ?_⟩
  refine ⟨Nat.zero_le _, fun o no => ?_⟩
  refine ⟨_, rfl, _, _, rfl, rfl, ?_, _, rfl, ?_⟩
  · have e : (" " : Str).length = 1 := by decide +kernel
    rw [e]
    exact small (by omega)
  refine for_it walk_enumS (fun i σ H' => ∃ (y3 y4 : Option V) (vs : List V), σ = [some (.str x), some (.ref o), some (.int ((prun x.cps.toList i).1 : Nat)), y3, y4] ∧ Same H H' ∧ H' o = some (.lst vs) ∧ PairsAt H' vs (prun x.cps.toList i).2)
    ⟨none, none, [], rfl, same_new no _, upd_same, .nil⟩ (fun _ _ _ _ _ => trivial) ?_ ?_
  · rintro i v σ H1 H2 hi ⟨y3, y4, vs, rfl, sm, eo, pa⟩ ⟨T, c, rfl, nT, rfl, hc⟩
    have hl : (x.cps.toList ++ [32])[i]? = some c := by
      rw [← app_sp, Array.getElem?_toList]
      exact hc
    have hi2 : i ≤ x.length := by
      have h1 := (List.getElem?_eq_some_iff.mp hl).1
      rw [List.length_append, len_cps] at h1
      have h2 : ([32] : List Nat).length = 1 := rfl
      omega
    have bd := prun_le x.cps.toList i
    have st1 := prun_more hl
    generalize hpr : prun x.cps.toList i = pr at bd st1 pa
    obtain ⟨start, out⟩ := pr
    have hlv : vs.length = out.length := Paired.length pa
    have sm1 : Same H1 (upd H1 T (.tup [.int (i : Nat), .str ⟨#[c]⟩])) := same_new nT _
    have eo1 := sm1 _ _ eo
    have pa1 := pa.same sm1
    have smA := sm.trans sm1
    have eT : (upd H1 T (.tup [.int (i : Nat), .str ⟨#[c]⟩])) T = some (.tup [.int (i : Nat), .str ⟨#[c]⟩]) := upd_same
    generalize upd H1 T (.tup [.int (i : Nat), .str ⟨#[c]⟩]) = H2 at sm1 eo1 pa1 smA eT
    refine ⟨T, _, rfl, .inl (.inl eT), rfl, _, _, rfl, _, _, rfl, rfl, ?_⟩
    refine ⟨_, rfl, c, _, rfl, rfl, _, rfl, ?_⟩
    rw [sep_in c]
    cases hs : isSep c with
    | false =>
      refine if_false_of rfl ?_
      have e : pstep x.cps.toList (start, out) i c = (start, out) := by
        unfold pstep
        rw [hs]
        rfl
      rw [e] at st1
      exact ⟨_, _, vs, by rw [st1]; rfl, smA, eo1, by rw [st1]; exact pa1⟩
    | true =>
      refine if_true_of rfl ?_
      have e : pstep x.cps.toList (start, out) i c = (i + 1, (out ++ runPart x.cps.toList start i) ++ parPart i c) := by
        unfold pstep
        rw [hs]
        rfl
      rw [e] at st1
      have hb1 : start ≤ i := bd.1
      have hb2 : out.length ≤ 2 * i := bd.2
      refine ⟨fun σ H' => ∃ ws : List V, σ = [some (.str x), some (.ref o), some (.int (start : Nat)), some (.int (i : Nat)), some (.str ⟨#[c]⟩)] ∧ Same H H' ∧ H' o = some (.lst ws) ∧ PairsAt H' ws (out ++ runPart x.cps.toList start i) ∧ ws.length ≤ 2 * i + 1, ?_, ?_⟩
      · refine ⟨_, rfl, _, rfl, _, _, rfl, rfl, _, rfl, ?_⟩
        by_cases hlt : start < i
        · refine if_true_of (decide_eq_true (show ((start : Nat) : Int) < (i : Nat) by omega)) ?_
          refine ⟨.ref o, rfl, .inl ⟨rfl, _, SqL.of eo1⟩, _, rfl, _, rfl, _, rfl, _, rfl, _, rfl, _, rfl, x, rfl, small (by omega), (by show 2 ≤ sizeLine; decide), fun t ht => ?_⟩
          rw [cut_run x start i (by omega) hi2]
          have ne : o ≠ t := ne_of_none eo1 ht
          refine ⟨o, _, _, rfl, rfl, by rw [upd_ne ne]; exact eo1, smallL (by omega), ?_⟩
          refine ⟨_, rfl, same_mut (smA.trans (same_new ht _)) no _, upd_same, ?_, ?_⟩
          · have er : runPart x.cps.toList start i = [(start, (x.cps.toList.drop start).take (i - start))] := if_pos hlt
            rw [er]
            exact PairsAt.grow (start, (x.cps.toList.drop start).take (i - start)) pa1 eo1 ht
          · rw [List.length_append]
            show vs.length + 1 ≤ 2 * i + 1
            omega
        · refine if_false_of (decide_eq_false (show ¬ ((start : Nat) : Int) < (i : Nat) by omega)) ?_
          have er : runPart x.cps.toList start i = [] := if_neg hlt
          refine ⟨vs, rfl, smA, eo1, by rw [er, List.append_nil]; exact pa1, by omega⟩
      · rintro σ H3 ⟨ws, rfl, sm3, eo3, pa3, hw⟩
        refine ⟨fun σ H' => ∃ ws : List V, σ = [some (.str x), some (.ref o), some (.int (start : Nat)), some (.int (i : Nat)), some (.str ⟨#[c]⟩)] ∧ Same H H' ∧ H' o = some (.lst ws) ∧ PairsAt H' ws ((out ++ runPart x.cps.toList start i) ++ parPart i c), ?_, ?_⟩
        · refine ⟨_, rfl, c, _, rfl, rfl, _, rfl, ?_⟩
          rw [par_in c]
          cases hp : isPar c with
          | false =>
            refine if_false_of rfl ?_
            have er : parPart i c = [] := by
              unfold parPart
              rw [hp]
              rfl
            exact ⟨ws, rfl, sm3, eo3, by rw [er, List.append_nil]; exact pa3⟩
          | true =>
            refine if_true_of rfl ?_
            have er : parPart i c = [(i, [c])] := by
              unfold parPart
              rw [hp]
              rfl
            refine ⟨.ref o, rfl, .inl ⟨rfl, _, SqL.of eo3⟩, _, rfl, _, rfl, (by show 2 ≤ sizeLine; decide), fun t ht => ?_⟩
            have ne : o ≠ t := ne_of_none eo3 ht
            refine ⟨o, _, _, rfl, rfl, by rw [upd_ne ne]; exact eo3, smallL (by omega), ?_⟩
            refine ⟨_, rfl, same_mut (sm3.trans (same_new ht _)) no _, upd_same, ?_⟩
            rw [er]
            exact PairsAt.grow (i, [c]) pa3 eo3 ht
        · rintro σ H4 ⟨us, rfl, sm4, eo4, pa4⟩
          refine ⟨_, rfl, _, _, rfl, rfl, ?_⟩
          exact ⟨_, _, us, by rw [st1]; rfl, sm4, eo4, by rw [st1]; exact pa4⟩
  · rintro σ H1 ⟨y3, y4, vs, rfl, sm, eo, pa⟩
    refine ⟨_, rfl, q H1 o vs sm no eo ?_⟩
    have e : (x ++ (" " : Str)).cps.size = x.cps.toList.length + 1 := by
      rw [← Array.length_toList, app_sp, List.length_append]
      rfl
    rw [e] at pa
    exact pa
end
end Sg

namespace Sg
open PySem PySem.Spec PyProof.Rows L2
/-! ### trees, and what stands of them in the heap -/
inductive Tree where
  | int (n : Int)
  | name (s : List Nat) (i : Nat)
  | list (ts : List Tree)
mutual
def TreeAt (F : Hp) : Tree → V → Prop
  | .int n, v => ∃ a, v = .ref a ∧ F a = some (.tup [.str "int", .int n])
  | .name s i, v => ∃ a, v = .ref a ∧ F a = some (.tup [.str "name", .str (S s), .int (i : Nat)])
  | .list ts, v => ∃ a l vs, v = .ref a ∧ F a = some (.tup [.str "list", .ref l]) ∧ F l = some (.lst vs) ∧ TreesAt F ts vs
def TreesAt (F : Hp) : List Tree → List V → Prop
  | [], vs => vs = []
  | t :: ts, vs => ∃ v r, vs = v :: r ∧ TreeAt F t v ∧ TreesAt F ts r
end
mutual
theorem TreeAt.same {F F' : Hp} (e : Same F F') : ∀ (t : Tree) (v : V), TreeAt F t v → TreeAt F' t v
  | .int n, v, h => by
    unfold TreeAt at h ⊢
    obtain ⟨a, h1, h2⟩ := h
    exact ⟨a, h1, e _ _ h2⟩
  | .name s i, v, h => by
    unfold TreeAt at h ⊢
    obtain ⟨a, h1, h2⟩ := h
    exact ⟨a, h1, e _ _ h2⟩
  | .list ts, v, h => by
    unfold TreeAt at h ⊢
    obtain ⟨a, l, vs, h1, h2, h3, h4⟩ := h
    exact ⟨a, l, vs, h1, e _ _ h2, e _ _ h3, TreesAt.same e ts vs h4⟩
theorem TreesAt.same {F F' : Hp} (e : Same F F') : ∀ (ts : List Tree) (vs : List V), TreesAt F ts vs → TreesAt F' ts vs
  | [], vs, h => by
    unfold TreesAt at h ⊢
    exact h
  | t :: ts, vs, h => by
    unfold TreesAt at h ⊢
    obtain ⟨v, r, h1, h2, h3⟩ := h
    exact ⟨v, r, h1, TreeAt.same e t v h2, TreesAt.same e ts r h3⟩
end
theorem TreesAt.snoc {F : Hp} {t : Tree} {v : V} (h2 : TreeAt F t v) : ∀ {ts : List Tree} {vs : List V}, TreesAt F ts vs → TreesAt F (ts ++ [t]) (vs ++ [v])
  | [], vs, h => by
    unfold TreesAt at h
    subst h
    show TreesAt F [t] [v]
    unfold TreesAt
    exact ⟨v, [], rfl, h2, by unfold TreesAt; rfl⟩
  | u :: ts, vs, h => by
    unfold TreesAt at h
    obtain ⟨w, r, rfl, h3, h4⟩ := h
    show TreesAt F (u :: (ts ++ [t])) (w :: (r ++ [v]))
    unfold TreesAt
    exact ⟨w, r ++ [v], rfl, h3, TreesAt.snoc h2 h4⟩
theorem TreesAt.nil {F : Hp} : TreesAt F [] [] := by
  unfold TreesAt
  rfl
/-! ### reading, by pieces -/
abbrev RSt := List (Nat × List Tree) × List Tree × Nat
def intVal (l : List Nat) : Int := (PySem.intText? (S l)).getD 0
def rstep (st : RSt) (p : Pc) : Except Nat RSt :=
  if p.2 = [40] then (if st.1.length = 30 then .error p.1 else .ok ((p.1, st.2.1) :: st.1, [], st.2.2))
  else if p.2 = [41] then (match st.1 with
    | [] => .error p.1
    | (_, ts) :: r => .ok (r, ts ++ [.list st.2.1], st.2.2))
  else if isIntL p.2 then .ok (st.1, st.2.1 ++ [.int (intVal p.2)], st.2.2)
  else if isNameL p.2 then .ok (st.1, st.2.1 ++ [.name p.2 st.2.2], st.2.2 + 1)
  else .error p.1
def rnext (a : Except Nat RSt) (p : Pc) : Except Nat RSt := match a with
  | .ok st => rstep st p
  | .error e => .error e
def rrun (ps : List Pc) : Except Nat RSt := ps.foldl rnext (.ok ([], [], 0))
def rend (a : Except Nat RSt) : Except Nat (List Tree) := match a with
  | .error e => .error e
  | .ok ([], cur, _) => .ok cur
  | .ok ((q, _) :: _, _, _) => .error q
def readM (ps : List Pc) : Except Nat (List Tree) := rend (rrun ps)
theorem rnext_err (e : Nat) : ∀ ps : List Pc, ps.foldl rnext (.error e) = .error e
  | [] => rfl
  | _ :: r => rnext_err e r
theorem rrun_take {ps : List Pc} {j : Nat} {p : Pc} (h : ps[j]? = some p) : rrun (ps.take (j + 1)) = rnext (rrun (ps.take j)) p := by
  unfold rrun
  rw [List.take_add_one, h, List.foldl_append]
  rfl
theorem rrun_err {ps : List Pc} {j e : Nat} (h : rrun (ps.take j) = .error e) : rrun ps = .error e := by
  have z : ps = ps.take j ++ ps.drop j := (List.take_append_drop j ps).symm
  unfold rrun at h ⊢
  rw [z, List.foldl_append, h]
  exact rnext_err e _
theorem rstep_pos {B : Nat → Prop} {st st1 : RSt} {p : Pc} (h : rstep st p = .ok st1) (h0 : ∀ s ∈ st.1, B s.1) (hp : B p.1) : ∀ s ∈ st1.1, B s.1 := by
  obtain ⟨stack, cur, names⟩ := st
  unfold rstep at h
  split at h
  · split at h
    · cases h
    · cases h
      intro s hs
      rcases List.mem_cons.mp hs with e | e
      · rw [e]
        exact hp
      · exact h0 s e
  · split at h
    · cases stack with
      | nil => cases h
      | cons q r =>
        obtain ⟨q, ts⟩ := q
        cases h
        exact fun s hs => h0 s (List.mem_cons_of_mem _ hs)
    · split at h
      · cases h
        exact h0
      · split at h
        · cases h
          exact h0
        · cases h
theorem rrun_pos {B : Nat → Prop} : ∀ (ps : List Pc) (st0 st : RSt), ps.foldl rnext (.ok st0) = .ok st → (∀ s ∈ st0.1, B s.1) → (∀ p ∈ ps, B p.1) → ∀ s ∈ st.1, B s.1
  | [], st0, st, h, h0, _ => by
    cases h
    exact h0
  | p :: r, st0, st, h, h0, hp => by
    have h' : r.foldl rnext (rstep st0 p) = .ok st := h
    cases e : rstep st0 p with
    | error x =>
      rw [e, rnext_err] at h'
      cases h'
    | ok st1 =>
      rw [e] at h'
      exact rrun_pos r st1 st h' (rstep_pos e h0 (hp p List.mem_cons_self)) fun q hq => hp q (List.mem_cons_of_mem _ hq)
/-! ### the open lists -/
structure Lv where
  l : Addr
  vs : List V
  t : Addr
  u : Addr
def LvOk (p : Addr) (F H : Hp) : Addr → List Lv → List (Nat × List Tree) → Prop
  | c, [], [] => c = p
  | c, v :: r, (pos, ts) :: st => TreesAt F ts v.vs ∧ H v.l = some (.lst (v.vs ++ [.ref v.t])) ∧ F v.t = some (.tup [.str "list", .ref c]) ∧ F v.u = some (.tup [.int (pos : Nat), .ref v.l]) ∧ LvOk p F H v.l r st
  | _, [], _ :: _ => False
  | _, _ :: _, [] => False
theorem LvOk.mono {p : Addr} {F F' H H' : Hp} (e : Same F F') : ∀ {c : Addr} {lv : List Lv} {st : List (Nat × List Tree)}, (∀ v ∈ lv, H' v.l = H v.l) → LvOk p F H c lv st → LvOk p F' H' c lv st
  | _, [], [], _, h => h
  | _, v :: r, (pos, ts) :: st, k, h => by
    obtain ⟨h1, h2, h3, h4, h5⟩ := h
    exact ⟨TreesAt.same e _ _ h1, (k v List.mem_cons_self).trans h2, e _ _ h3, e _ _ h4, LvOk.mono e (fun w hw => k w (List.mem_cons_of_mem _ hw)) h5⟩
  | _, [], _ :: _, _, h => h.elim
  | _, _ :: _, [], _, h => h.elim
theorem LvOk.len {p : Addr} {F H : Hp} : ∀ {c : Addr} {lv : List Lv} {st : List (Nat × List Tree)}, LvOk p F H c lv st → lv.length = st.length
  | _, [], [], _ => rfl
  | _, v :: r, (pos, ts) :: st, h => congrArg (· + 1) (LvOk.len h.2.2.2.2)
  | _, [], _ :: _, h => h.elim
  | _, _ :: _, [], h => h.elim
structure RInv (p : Addr) (F H : Hp) (o c : Addr) (cvs : List V) (lv : List Lv) (stack : List (Nat × List Tree)) (cur : List Tree) (n : Nat) : Prop where
  sm : Same F H
  ho : H o = some (.lst (lv.map fun v => V.ref v.u).reverse)
  hc : H c = some (.lst cvs)
  tc : TreesAt F cur cvs
  ok : LvOk p F H c lv stack
  nd : (o :: c :: lv.map (·.l)).Nodup
  fr : ∀ a ∈ o :: c :: lv.map (·.l), F a = none
  cb : cvs.length ≤ n
  lb : ∀ v ∈ lv, v.vs.length < n
/-- what stands at an open list's place -/
theorem RInv.some_at {p o c : Addr} {F H : Hp} {cvs : List V} {lv : List Lv} {stack : List (Nat × List Tree)} {cur : List Tree} {n : Nat} (R : RInv p F H o c cvs lv stack cur n) : ∀ v ∈ lv, ∃ x, H v.l = some x := by
  have key : ∀ {c : Addr} {lv : List Lv} {st : List (Nat × List Tree)}, LvOk p F H c lv st → ∀ v ∈ lv, ∃ x, H v.l = some x := by
    intro c lv
    induction lv generalizing c with
    | nil => intro st _ v hv; cases hv
    | cons w r ih =>
      intro st h v hv
      cases st with
      | nil => exact h.elim
      | cons q st =>
        obtain ⟨pos, ts⟩ := q
        obtain ⟨_, h2, _, _, h5⟩ := h
        rcases List.mem_cons.mp hv with e | e
        · rw [e]
          exact ⟨_, h2⟩
        · exact ih h5 v e
  exact key R.ok
section
variable {p o c : Addr} {F H : Hp} {cvs : List V} {lv : List Lv} {stack : List (Nat × List Tree)} {cur : List Tree} {n : Nat}
theorem RInv.heap (R : RInv p F H o c cvs lv stack cur n) {H' : Hp} (e : Same H H') : RInv p F H' o c cvs lv stack cur n :=
  ⟨R.sm.trans e, e _ _ R.ho, e _ _ R.hc, R.tc, R.ok.mono (Same.refl F) fun v hv => by
    obtain ⟨x, hx⟩ := R.some_at v hv
    rw [hx]
    exact e _ _ hx, R.nd, R.fr, R.cb, R.lb⟩
theorem RInv.up (R : RInv p F H o c cvs lv stack cur n) {m : Nat} (h : n ≤ m) : RInv p F H o c cvs lv stack cur m :=
  ⟨R.sm, R.ho, R.hc, R.tc, R.ok, R.nd, R.fr, Nat.le_trans R.cb h, fun v hv => Nat.lt_of_lt_of_le (R.lb v hv) h⟩
/-- a new tree without parts -/
theorem RInv.leaf (R : RInv p F H o c cvs lv stack cur n) {t : Addr} {xs : List V} {T : Tree} (ht : H t = none) (hT : ∀ F', F' t = some (.tup xs) → TreeAt F' T (.ref t)) :
    RInv p (upd F t (.tup xs)) (upd (upd H t (.tup xs)) c (.lst (cvs ++ [.ref t]))) o c (cvs ++ [.ref t]) lv stack (cur ++ [T]) (n + 1) := by
  have hF : F t = none := R.sm.free ht
  have tc : t ≠ c := fun e => by rw [e, R.hc] at ht; cases ht
  have to : t ≠ o := fun e => by rw [e, R.ho] at ht; cases ht
  have nd := R.nd
  have oc : o ≠ c := fun e => by
    rw [e] at nd
    exact (List.nodup_cons.mp nd).1 List.mem_cons_self
  have cl : ∀ v ∈ lv, v.l ≠ c := fun v hv e => (List.nodup_cons.mp (List.nodup_cons.mp nd).2).1 (by rw [← e]; exact List.mem_map_of_mem hv)
  have tl : ∀ v ∈ lv, v.l ≠ t := fun v hv e => by
    obtain ⟨x, hx⟩ := R.some_at v hv
    rw [e, ht] at hx
    cases hx
  have sF : Same F (upd F t (.tup xs)) := same_new hF _
  refine ⟨fun b u hb => ?_, ?_, upd_same, TreesAt.snoc (hT _ upd_same) (TreesAt.same sF _ _ R.tc), R.ok.mono sF fun v hv => ?_, nd, fun a ha => ?_, ?_, fun v hv => Nat.lt_succ_of_lt (R.lb v hv)⟩
  · by_cases e : b = t
    · subst e
      rw [upd_same] at hb
      rw [upd_ne tc, upd_same]
      exact hb
    · rw [upd_ne e] at hb
      have bc : b ≠ c := fun z => by
        rw [z, R.fr c (by simp)] at hb
        cases hb
      rw [upd_ne bc, upd_ne e]
      exact R.sm b u hb
  · rw [upd_ne oc, upd_ne (Ne.symm to)]
    exact R.ho
  · rw [upd_ne (cl v hv), upd_ne (tl v hv)]
  · have z := R.fr a ha
    rw [upd_ne (fun e => ?_)]
    · exact z
    · rw [e] at ha
      rcases List.mem_cons.mp ha with e2 | ha
      · exact to e2
      · rcases List.mem_cons.mp ha with e2 | ha
        · exact tc e2
        · obtain ⟨v, hv, e3⟩ := List.mem_map.mp ha
          exact tl v hv e3
  · rw [List.length_append]
    show cvs.length + 1 ≤ n + 1
    have := R.cb
    omega
/-- a list is closed -/
theorem RInv.shut {v : Lv} {pos : Nat} {ts : List Tree} (R : RInv p F H o c cvs (v :: lv) ((pos, ts) :: stack) cur n) :
    RInv p (upd F c (.lst cvs)) (upd H o (.lst (lv.map fun v => V.ref v.u).reverse)) o v.l (v.vs ++ [.ref v.t]) lv stack (ts ++ [.list cur]) n := by
  obtain ⟨k1, k2, k3, k4, k5⟩ := R.ok
  have nd := R.nd
  have oc : c ≠ o := fun e => by
    rw [e] at nd
    exact (List.nodup_cons.mp nd).1 List.mem_cons_self
  have ol : ∀ w ∈ v :: lv, w.l ≠ o := fun w hw e => (List.nodup_cons.mp nd).1 (List.mem_cons_of_mem _ (by rw [← e]; exact List.mem_map_of_mem hw))
  have cl : ∀ w ∈ v :: lv, w.l ≠ c := fun w hw e => (List.nodup_cons.mp (List.nodup_cons.mp nd).2).1 (by rw [← e]; exact List.mem_map_of_mem hw)
  have hF : F c = none := R.fr c (by simp)
  have sF : Same F (upd F c (.lst cvs)) := same_new hF _
  refine ⟨fun b u hb => ?_, upd_same, ?_, TreesAt.snoc ?_ (TreesAt.same sF _ _ k1), k5.mono sF fun w hw => ?_, ?_, fun a ha => ?_, ?_, fun w hw => R.lb w (List.mem_cons_of_mem _ hw)⟩
  · by_cases e : b = c
    · subst e
      rw [upd_same] at hb
      rw [upd_ne oc]
      exact R.hc.trans hb
    · rw [upd_ne e] at hb
      have bo : b ≠ o := fun z => by
        rw [z, R.fr o (by simp)] at hb
        cases hb
      rw [upd_ne bo]
      exact R.sm b u hb
  · rw [upd_ne (ol v List.mem_cons_self)]
    exact k2
  · unfold TreeAt
    refine ⟨v.t, c, cvs, rfl, sF _ _ k3, upd_same, TreesAt.same sF _ _ R.tc⟩
  · rw [upd_ne (ol w (List.mem_cons_of_mem _ hw))]
  · have n1 := List.nodup_cons.mp nd
    have n2 := List.nodup_cons.mp n1.2
    exact List.nodup_cons.mpr ⟨fun z => n1.1 (List.mem_cons_of_mem _ z), n2.2⟩
  · rw [upd_ne (fun e => ?_)]
    · refine R.fr a ?_
      rcases List.mem_cons.mp ha with e | ha
      · rw [e]
        exact List.mem_cons_self
      · exact List.mem_cons_of_mem _ (List.mem_cons_of_mem _ ha)
    · rw [e] at ha
      rcases List.mem_cons.mp ha with e2 | ha
      · exact oc e2
      · obtain ⟨w, hw, e3⟩ := List.mem_map.mp (show c ∈ (v :: lv).map (·.l) from ha)
        exact cl w hw e3
  · rw [List.length_append]
    show v.vs.length + 1 ≤ n
    have := R.lb v List.mem_cons_self
    omega
/-- a list is opened -/
theorem RInv.opn (R : RInv p F H o c cvs lv stack cur n) {u m t : Addr} {pos : Nat} (hu : H u = none)
    (hm : (upd (upd H u (.tup [.int (pos : Nat), .ref c])) o (.lst ((lv.map fun v => V.ref v.u).reverse ++ [.ref u]))) m = none)
    (ht : (upd (upd (upd H u (.tup [.int (pos : Nat), .ref c])) o (.lst ((lv.map fun v => V.ref v.u).reverse ++ [.ref u]))) m (.lst [])) t = none) :
    RInv p (upd (upd F u (.tup [.int (pos : Nat), .ref c])) t (.tup [.str "list", .ref m]))
      (upd (upd (upd (upd (upd H u (.tup [.int (pos : Nat), .ref c])) o (.lst ((lv.map fun v => V.ref v.u).reverse ++ [.ref u]))) m (.lst [])) t (.tup [.str "list", .ref m])) c (.lst (cvs ++ [.ref t])))
      o m [] (⟨c, cvs, t, u⟩ :: lv) ((pos, cur) :: stack) [] (n + 1) := by
  have nd := R.nd
  have oc : o ≠ c := fun e => by
    rw [e] at nd
    exact (List.nodup_cons.mp nd).1 List.mem_cons_self
  have ol : ∀ w ∈ lv, w.l ≠ o := fun w hw e => (List.nodup_cons.mp nd).1 (List.mem_cons_of_mem _ (by rw [← e]; exact List.mem_map_of_mem hw))
  have cl : ∀ w ∈ lv, w.l ≠ c := fun w hw e => (List.nodup_cons.mp (List.nodup_cons.mp nd).2).1 (by rw [← e]; exact List.mem_map_of_mem hw)
  have uo : u ≠ o := fun e => by rw [e, R.ho] at hu; cases hu
  have uc : u ≠ c := fun e => by rw [e, R.hc] at hu; cases hu
  have mo : m ≠ o := fun e => by rw [e, upd_same] at hm; cases hm
  rw [upd_ne mo] at hm
  have mu : m ≠ u := fun e => by rw [e, upd_same] at hm; cases hm
  rw [upd_ne mu] at hm
  have mc : m ≠ c := fun e => by rw [e, R.hc] at hm; cases hm
  have tm : t ≠ m := fun e => by rw [e, upd_same] at ht; cases ht
  rw [upd_ne tm] at ht
  have to : t ≠ o := fun e => by rw [e, upd_same] at ht; cases ht
  rw [upd_ne to] at ht
  have tu : t ≠ u := fun e => by rw [e, upd_same] at ht; cases ht
  rw [upd_ne tu] at ht
  have tc : t ≠ c := fun e => by rw [e, R.hc] at ht; cases ht
  have lne : ∀ {x : Addr}, H x = none → ∀ v ∈ lv, v.l ≠ x := fun {x} hx v hv e => by
    obtain ⟨y, hy⟩ := R.some_at v hv
    rw [e, hx] at hy
    cases hy
  have fu : F u = none := R.sm.free hu
  have fm : F m = none := R.sm.free hm
  have ft : F t = none := R.sm.free ht
  have sF : Same F (upd (upd F u (.tup [.int (pos : Nat), .ref c])) t (.tup [.str "list", .ref m])) := (same_new fu _).trans (same_new (by rw [upd_ne tu]; exact ft) _)
  refine ⟨fun b x hb => ?_, ?_, ?_, TreesAt.nil, ⟨TreesAt.same sF _ _ R.tc, upd_same, upd_same, ?_, R.ok.mono sF fun v hv => ?_⟩, ?_, fun a ha => ?_, Nat.zero_le _, fun v hv => ?_⟩
  · by_cases e : b = t
    · subst e
      rw [upd_same] at hb
      rw [upd_ne tc, upd_same]
      exact hb
    · rw [upd_ne e] at hb
      by_cases e2 : b = u
      · subst e2
        rw [upd_same] at hb
        rw [upd_ne uc, upd_ne e, upd_ne (Ne.symm mu), upd_ne uo, upd_same]
        exact hb
      · rw [upd_ne e2] at hb
        have bc : b ≠ c := fun z => by
          rw [z, R.fr c (by simp)] at hb
          cases hb
        have bo : b ≠ o := fun z => by
          rw [z, R.fr o (by simp)] at hb
          cases hb
        have bm : b ≠ m := fun z => by
          rw [z, fm] at hb
          cases hb
        rw [upd_ne bc, upd_ne e, upd_ne bm, upd_ne bo, upd_ne e2]
        exact R.sm b x hb
  · rw [upd_ne oc, upd_ne (Ne.symm to), upd_ne (Ne.symm mo), upd_same, List.map_cons, List.reverse_cons]
  · rw [upd_ne mc, upd_ne (Ne.symm tm), upd_same]
  · rw [upd_ne (Ne.symm tu), upd_same]
  · rw [upd_ne (cl v hv), upd_ne (lne ht v hv), upd_ne (lne hm v hv), upd_ne (ol v hv), upd_ne (lne hu v hv)]
  · have n1 := List.nodup_cons.mp nd
    refine List.nodup_cons.mpr ⟨fun z => ?_, List.nodup_cons.mpr ⟨fun z => ?_, n1.2⟩⟩
    · rcases List.mem_cons.mp z with e | z
      · exact mo e.symm
      · exact n1.1 z
    · rcases List.mem_cons.mp z with e | z
      · exact mc e
      · obtain ⟨v, hv, e⟩ := List.mem_map.mp z
        exact lne hm v hv e
  · have key : a ≠ t ∧ a ≠ u ∧ F a = none := by
      rcases List.mem_cons.mp ha with e | ha
      · rw [e]
        exact ⟨Ne.symm to, Ne.symm uo, R.fr o (by simp)⟩
      · rcases List.mem_cons.mp ha with e | ha
        · rw [e]
          exact ⟨Ne.symm tm, mu, fm⟩
        · rcases List.mem_cons.mp ha with e | ha
          · rw [e]
            exact ⟨Ne.symm tc, Ne.symm uc, R.fr c (by simp)⟩
          · obtain ⟨v, hv, e⟩ := List.mem_map.mp ha
            rw [← e]
            exact ⟨lne ht v hv, lne hu v hv, R.fr v.l (List.mem_cons_of_mem _ (List.mem_cons_of_mem _ (List.mem_map_of_mem hv)))⟩
    rw [upd_ne key.1, upd_ne key.2.1]
    exact key.2.2
  · rcases List.mem_cons.mp hv with e | hv
    · rw [e]
      exact Nat.lt_succ_of_le R.cb
    · exact Nat.lt_succ_of_lt (R.lb v hv)
end
end Sg

namespace Sg
open PySem PySem.Spec PyProof.Rows L2
/-! ### read -/
theorem all_dig {l : List Nat} (h : l.all isDig = true) : NumText.AllDigits l := fun c hc => by
  have z := List.all_eq_true.mp h c hc
  exact of_decide_eq_true z
theorem isInt_text {l : List Nat} (h : isIntL l = true) : PySem.intText? (S l) = some (intVal l) ∧ l.length ≤ 10 := by
  have key : ∃ n, PySem.intText? (S l) = some n ∧ l.length ≤ 10 := by
    unfold isIntL at h
    rw [Bool.or_eq_true] at h
    rcases h with h | h
    · have e : l = [48] := by simpa using h
      subst e
      exact ⟨_, intText_digits (x := S [48]) (all_dig (by decide)) (by decide) (by decide), by decide⟩
    · rw [Bool.and_eq_true, Bool.and_eq_true, decide_eq_true_eq] at h
      obtain ⟨⟨h1, h2⟩, _, h4⟩ := h
      cases l with
      | nil =>
        have e : stripDash [] = [] := rfl
        rw [e] at h1
        exact absurd h1 (by decide)
      | cons c r =>
        by_cases hc : c = 45
        · subst hc
          have e : stripDash (45 :: r) = r := rfl
          rw [e] at h1 h2 h4
          refine ⟨_, intText_neg (x := S (45 :: r)) (cs := r) rfl (all_dig h4) (fun z => by rw [z] at h1; exact absurd h1 (by decide)) ?_, ?_⟩
          · show (45 :: r).length ≤ 4300
            rw [List.length_cons]
            omega
          · rw [List.length_cons]
            omega
        · have e : stripDash (c :: r) = c :: r := by
            unfold stripDash
            split
            · rename_i r' e
              cases e
              exact absurd rfl hc
            · rfl
          rw [e] at h1 h2 h4
          refine ⟨_, intText_digits (x := S (c :: r)) (all_dig h4) (by simp [S]) ?_, by omega⟩
          show (c :: r).length ≤ 4300
          omega
  obtain ⟨n, h1, h2⟩ := key
  refine ⟨?_, h2⟩
  unfold intVal
  rw [h1]
  rfl
theorem prun_ok (l : List Nat) : ∀ n, ∀ p ∈ (prun l n).2, p.2 ≠ [] ∧ p.2.length ≤ n ∧ p.1 < n
  | 0, p, h => by cases h
  | n + 1, p, h => by
    cases e : (l ++ [32])[n]? with
    | none =>
      have e2 : prun l (n + 1) = prun l n := by
        show (match (l ++ [32])[n]? with
          | some c => pstep l (prun l n) n c
          | none => prun l n) = _
        rw [e]
      rw [e2] at h
      have z := prun_ok l n p h
      exact ⟨z.1, by omega, by omega⟩
    | some c =>
      rw [prun_more e] at h
      have hn : n ≤ l.length := by
        have h1 := (List.getElem?_eq_some_iff.mp e).1
        rw [List.length_append] at h1
        have h2 : ([32] : List Nat).length = 1 := rfl
        omega
      unfold pstep at h
      split at h
      · have h' : p ∈ (prun l n).2 ++ runPart l (prun l n).1 n ++ parPart n c := h
        rcases List.mem_append.mp h' with h | h
        · rcases List.mem_append.mp h with h | h
          · have z := prun_ok l n p h
            exact ⟨z.1, by omega, by omega⟩
          · unfold runPart at h
            split at h
            · rename_i hlt
              have ep := List.mem_singleton.mp h
              subst ep
              have hl : ((l.drop (prun l n).1).take (n - (prun l n).1)).length = n - (prun l n).1 := by
                rw [List.length_take, List.length_drop]
                omega
              refine ⟨fun z => ?_, ?_, by omega⟩
              · have z' : (l.drop (prun l n).1).take (n - (prun l n).1) = [] := z
                rw [z'] at hl
                have : ([] : List Nat).length = 0 := rfl
                omega
              · show ((l.drop (prun l n).1).take (n - (prun l n).1)).length ≤ n + 1
                omega
            · cases h
        · unfold parPart at h
          split at h
          · have ep := List.mem_singleton.mp h
            subst ep
            refine ⟨by simp, ?_, Nat.lt_succ_self _⟩
            show 1 ≤ n + 1
            omega
          · cases h
      · have z := prun_ok l n p h
        exact ⟨z.1, by omega, by omega⟩
theorem natLog {n : Nat} (h : n ≤ 1000000) : (n : Int).natAbs.log2 < 1920 := by
  have e : (n : Int).natAbs = n := rfl
  rw [e]
  have h2 : n < 2 ^ 20 := by
    have : (2 : Nat) ^ 20 = 1048576 := by decide
    omega
  by_cases h0 : n = 0
  · subst h0
    decide
  · have := (Nat.log2_lt h0).mpr h2
    omega
section
variable {P : Program} {w : World} {K : PySem.W.Frag} {mg : Str → Option Value} {base : Heap}
def spRead (C : Addr) : Sp := fun vs H Q E => ∃ x : Str, vs = [.str x] ∧ x.length ≤ 20000 ∧
  (∀ ts, readM (piecesL x.cps.toList) = .ok ts → ∀ H' p vs, Same H H' → H p = none → H' p = some (.lst vs) → TreesAt H' ts vs → Q (.ref p) H') ∧
  (∀ e, readM (piecesL x.cps.toList) = .error e → ∀ H' d, Same H H' → H d = none → H' d = some (.xd [(("at" : Str), .int (e : Nat))]) → E (.ref C) (some d) H')
theorem scRead : FnScope ["text", "program", "items", "opened", "names", "at", "piece", "inner", "_"] ["text"] (defScope sRead) := ⟨rfl, rfl, rfl, by decide +kernel, rfl, by decide +kernel, by decide +kernel⟩
theorem ok_read {f fP fI fN C tI cc cda : Addr} {fd fdP fdI fdN : FuncData} {k : Nat} (F : Fun K "read" "read" sRead f fd) (hk : 2 ≤ k) (T : PySem.TeX.TeTxt P K mg C tI cc cda)
    (GP : FnOk P w K mg base CX0 k fP fdP ["text"] spPieces) (bP : Binds K fdP ["text"] []) (kP : PySem.W.keepIn K (.ref fP) = true) (mP : mg "pieces" = some (.ref fP))
    (GI : FnOk P w K mg base CX0 k fI fdI ["run"] spIsInt) (bI : Binds K fdI ["run"] []) (kI : PySem.W.keepIn K (.ref fI) = true) (mI : mg "names_an_integer" = some (.ref fI))
    (GN : FnOk P w K mg base CX0 k fN fdN ["run"] spIsName) (bN : Binds K fdN ["run"] []) (kN : PySem.W.keepIn K (.ref fN) = true) (mN : mg "is_a_name" = some (.ref fN))
    (ml : mg "len" = none) (mi : mg "int" = none) (Cs : Consts K mg) : FnOk P w K mg base (L2.CX P w) (k + 1) f fd ["text"] (spRead C) := by
  obtain ⟨tD, gD⟩ := Cs.dl
  refine F.okX scRead (fun vs H Q E h => ?_) (fun cdv A outer st H vs Q E hr h => ?_)
  · obtain ⟨x, rfl, _⟩ := h
    rfl
  obtain ⟨x, rfl, hlen, qO, qE⟩ := h
  refine ⟨_, pss_cons (ps_set (i := 1) scRead.nd rfl (.inl rfl) (pe_lst pa_nil))
    (pss_cons (ps_set (i := 2) scRead.nd rfl (.inl rfl) (pv 1))
    (pss_cons (ps_set (i := 3) scRead.nd rfl (.inl rfl) (pe_lst pa_nil))
    (pss_cons (ps_set (i := 4) scRead.nd rfl (.inl rfl) pe_int)
    (pss_cons (ps_for (passes_of rfl) rfl (pi_list (pe_call GP hr (by rfl) mP kP bP .nil pass0 (pa_cons (pv 0) pa_nil))) (pg_tup rfl (pgs_cons (pg_name (i := 5) scRead.nd rfl (.inl rfl)) (pgs_cons (pg_name (i := 6) scRead.nd rfl (.inl rfl)) pgs_nil)))
      (pss_one (ps_if (pt_cmpR op_eq (pv 6) pe_str (nomark _))
        (pss_cons (ps_if (pt_cmpR op_eq (pe_callB call_len_seq (by rfl) ml PySem.boot_len (pa_cons (pv 3) pa_nil)) (pe_glob (v := .int 30) (by rfl) gD ⟨_, rfl⟩) (nomark _))
          (pss_one (ps_raiseTe rfl T (hr.mono hk) (takes_of rfl rfl rfl rfl) (pa_cons (pv 5) pa_nil))) pss_nil)
        (pss_cons (ps_expr (pe_bm PySem.F.plainAttrs_list PySem.F.slot_list_append PySem.F.type_list_append mt_append (pv 3) (pa_cons (pe_tup (pa_cons (pv 5) (pa_cons (pv 2) pa_nil))) pa_nil)))
        (pss_cons (ps_set (i := 7) scRead.nd rfl (.inl rfl) (pe_lst pa_nil))
        (pss_cons (ps_expr (pe_bm PySem.F.plainAttrs_list PySem.F.slot_list_append PySem.F.type_list_append mt_append (pv 2) (pa_cons (pe_tup (pa_cons pe_str (pa_cons (pv 7) pa_nil))) pa_nil)))
        (pss_one (ps_set (i := 2) scRead.nd rfl (.inl rfl) (pv 7)))))))
        (pss_one (ps_if (pt_cmpR op_eq (pv 6) pe_str (nomark _))
          (pss_cons (ps_if (pt_not (pt_truth (pv 3) (fun _ => by rfl))) (pss_one (ps_raiseTe rfl T (hr.mono hk) (takes_of rfl rfl rfl rfl) (pa_cons (pv 5) pa_nil))) pss_nil)
          (pss_one (ps_asg (pe_bm0 PySem.F.plainAttrs_list PySem.F.slot_list_pop PySem.F.type_list_pop mt_pop (pv 3)) (pg_tup rfl (pgs_cons (pg_name (i := 8) scRead.nd rfl (.inl rfl)) (pgs_cons (pg_name (i := 2) scRead.nd rfl (.inl rfl)) pgs_nil))))))
          (pss_one (ps_if (pt_val (pe_call GI hr (by rfl) mI kI bI .nil pass0 (pa_cons (pv 6) pa_nil)))
            (pss_one (ps_expr (pe_bm PySem.F.plainAttrs_list PySem.F.slot_list_append PySem.F.type_list_append mt_append (pv 2) (pa_cons (pe_tup (pa_cons pe_str (pa_cons (pe_callTy call_int_str (by rfl) mi (by decide +kernel) (pa_cons (pv 6) pa_nil)) pa_nil))) pa_nil))))
            (pss_one (ps_if (pt_val (pe_call GN hr (by rfl) mN kN bN .nil pass0 (pa_cons (pv 6) pa_nil)))
              (pss_cons (ps_expr (pe_bm PySem.F.plainAttrs_list PySem.F.slot_list_append PySem.F.type_list_append mt_append (pv 2) (pa_cons (pe_tup (pa_cons pe_str (pa_cons (pv 6) (pa_cons (pv 4) pa_nil)))) pa_nil)))
              (pss_one (ps_aug (i := 4) scRead.nd rfl (.inl rfl) pe_int ip_add)))
              (pss_one (ps_raiseTe rfl T (hr.mono hk) (takes_of rfl rfl rfl rfl) (pa_cons (pv 5) pa_nil))))))))))))
    (pss_cons (ps_if (pt_truth (pv 3) (fun _ => by rfl)) (pss_one (ps_raiseTe rfl T (hr.mono hk) (takes_of rfl rfl rfl rfl) (pa_cons (pe_ix ix_tup (pe_ix ix_list (pv 3) (pe_un un_neg pe_int) (fun _ _ => rfl)) pe_int (fun _ _ => rfl)) pa_nil))) pss_nil)
    (pss_one (ps_ret (pv 1)))))))), ?_⟩
  have hL : x.cps.toList.length = x.length := len_cps x
  generalize hps : piecesL x.cps.toList = ps at qO qE
  have pok : ∀ q ∈ ps, q.2 ≠ [] ∧ q.2.length ≤ 20001 ∧ q.1 ≤ 20001 := fun q hq => by
    rw [← hps] at hq
    have z := prun_ok x.cps.toList _ q hq
    exact ⟨z.1, by omega, by omega⟩
  have plen : ps.length ≤ 40002 := by
    rw [← hps]
    have z := (prun_le x.cps.toList (x.cps.toList.length + 1)).2
    unfold piecesL
    omega
  refine ⟨Nat.zero_le _, fun p np => ?_⟩
  refine ⟨_, rfl, ?_⟩
  refine ⟨Nat.zero_le _, fun o no => ?_⟩
  refine ⟨_, rfl, x, rfl, hlen, fun H3 ls vs sm3 nl el pa => ?_⟩
  rw [hps] at pa
  have ep : H3 p = some (.lst []) := sm3 _ _ (by rw [upd_ne (fun e => by rw [← e, upd_same] at no; cases no), upd_same])
  have eo : H3 o = some (.lst []) := sm3 _ _ upd_same
  have op : o ≠ p := fun e => by rw [e, upd_same] at no; cases no
  have sHH : Same H H3 := ((same_new np _).trans (same_new no _)).trans sm3
  obtain ⟨F0, hF0⟩ : ∃ F0 : Hp, F0 = fun b => if b = o ∨ b = p then none else H3 b := ⟨_, rfl⟩
  have f0 : ∀ b, b ≠ o → b ≠ p → F0 b = H3 b := fun b h1 h2 => by
    rw [hF0]
    show (if b = o ∨ b = p then none else H3 b) = _
    rw [if_neg (fun z => z.elim h1 h2)]
  have f0o : F0 o = none := by
    rw [hF0]
    show (if o = o ∨ o = p then none else H3 o) = _
    rw [if_pos (.inl rfl)]
  have f0p : F0 p = none := by
    rw [hF0]
    show (if p = o ∨ p = p then none else H3 p) = _
    rw [if_pos (.inr rfl)]
  have sF3 : Same F0 H3 := fun b u e => by
    have h1 : b ≠ o := fun z => by rw [z, f0o] at e; cases e
    have h2 : b ≠ p := fun z => by rw [z, f0p] at e; cases e
    rw [← f0 b h1 h2]
    exact e
  have sHF : Same H F0 := fun b u e => by
    have nu : H o = none := (same_new np (.lst [])).free no
    rw [f0 b (ne_of_none e nu) (ne_of_none e np)]
    exact sHH _ _ e
  have paF : PairsAt F0 vs ps := Paired.mapP pa fun v q ⟨a, e, z⟩ => ⟨a, e, by
    rw [f0 a (fun y => by rw [y, eo] at z; cases z) (fun y => by rw [y, ep] at z; cases z)]
    exact z⟩
  have elF : F0 ls = some (.lst vs) := by
    refine (f0 ls (fun y => ?_) (fun y => ?_)).trans el
    · rw [y, upd_same] at nl
      cases nl
    · rw [y, upd_ne (Ne.symm op), upd_same] at nl
      cases nl
  have fr0 : ∀ a ∈ o :: p :: ([] : List Lv).map (·.l), F0 a = none := fun a ha => by
    rcases List.mem_cons.mp ha with e | ha
    · rw [e]
      exact f0o
    · rcases List.mem_cons.mp ha with e | ha
      · rw [e]
        exact f0p
      · cases ha
  have R0 : RInv p F0 H3 o p [] [] [] [] 0 := ⟨sF3, eo, ep, TreesAt.nil, rfl, by simp [op], fr0, Nat.le_refl _, fun v hv => (by cases hv)⟩
  refine ⟨ls, rfl, ⟨_, SqL.of el⟩, for_list (K := K) (a := ls) (xs := vs) (fun j σ H' => ∃ (F : Hp) (c : Addr) (cvs : List V) (lv : List Lv) (stack : List (Nat × List Tree)) (cur : List Tree) (names : Nat) (y5 y6 y7 y8 : Option V),
      σ = [some (.str x), some (.ref p), some (.ref c), some (.ref o), some (.int (names : Nat)), y5, y6, y7, y8] ∧ Same F0 F ∧ RInv p F H' o c cvs lv stack cur j ∧ rrun (ps.take j) = .ok (stack, cur, names) ∧ stack.length ≤ 30)
    ⟨F0, p, [], [], [], [], 0, none, none, none, none, rfl, Same.refl _, R0, rfl, by decide⟩ ?_ ?_ ?_⟩
  · rintro j σ H' _ ⟨F, c, cvs, lv, stack, cur, names, y5, y6, y7, y8, _, sF, R, _, _⟩
    exact SqL.of (R.sm _ _ (sF _ _ elF))
  · rintro j v σ H' hj ⟨F, c, cvs, lv, stack, cur, names, y5, y6, y7, y8, rfl, sF, R, hrun, h30⟩
    obtain ⟨pc, hpc, a, rfl, ha⟩ := paired_get paF hj
    have step := rrun_take hpc
    rw [hrun] at step
    obtain ⟨pos, pl⟩ := pc
    obtain ⟨pk1, pk2, pk3⟩ := pok _ (List.mem_of_getElem? hpc)
    have pk1 : pl ≠ [] := pk1
    have pk2 : pl.length ≤ 20001 := pk2
    have pk3 : pos ≤ 20001 := pk3
    have hjl : j < 40002 := Nat.lt_of_lt_of_le (List.getElem?_eq_some_iff.mp hpc).1 plen
    have len1 := R.ok.len
    have cb := R.cb
    have hlp : (S pl).length ≤ 100000 := by
      show pl.length ≤ 100000
      omega
    have fail : ∀ H' d, Same F H' → rstep (stack, cur, names) (pos, pl) = .error pos → H' d = none → E (.ref C) (some d) (upd H' d (.xd [(("at" : Str), .int (pos : Nat))])) := fun H' d sm er hd => by
      have e1 : rrun ps = .error pos := rrun_err (j := j + 1) (step.trans er)
      have sm' : Same H H' := (sHF.trans sF).trans sm
      exact qE pos (by unfold readM; rw [e1]; rfl) _ d (sm'.trans (same_new hd _)) (sm'.free hd) upd_same
    refine ⟨a, _, rfl, .inl (.inl (R.sm _ _ (sF _ _ ha))), rfl, _, _, rfl, _, _, rfl, rfl, ?_⟩
    refine ⟨_, rfl, rfl, _, rfl, ?_⟩
    have eq1 : ∀ (l : List Nat) (s : Str), s.cps.toList = l → ((V.str (S pl) = V.str s) ↔ pl = l) := fun l s hs => by
      constructor
      · intro e
        injection e with e
        rw [← hs, ← e]
        rfl
      · intro e
        rw [e, ← hs, S_of]
    by_cases h40 : pl = [40]
    · refine if_true_of (decide_eq_true ((eq1 [40] "(" (by decide +kernel)).mpr h40)) ?_
      refine ⟨_, rfl, o, _, rfl, .inl (SqL.of R.ho), rfl, _, rfl, ?_⟩
      by_cases h3 : stack.length = 30
      · refine if_true_of (decide_eq_true (by rw [List.length_reverse, List.length_map, len1, h3]; rfl)) ?_
        refine ⟨_, rfl, _, rfl, natLog (by omega), fun d hd => fail _ d R.sm (by unfold rstep; rw [if_pos h40, if_pos h3]) hd⟩
      · refine if_false_of (decide_eq_false fun z => ?_) ?_
        · rw [List.length_reverse, List.length_map, len1] at z
          injection z with z
          exact h3 (by omega)
        · have lvl : (lv.map fun v => V.ref v.u).reverse.length ≤ 30 := by
            rw [List.length_reverse, List.length_map, len1]
            exact h30
          refine ⟨.ref o, rfl, .inl ⟨rfl, _, SqL.of R.ho⟩, _, rfl, _, rfl, (by show 2 ≤ sizeLine; decide), fun u hu => ⟨o, _, _, rfl, rfl, (by rw [upd_ne (ne_of_none R.ho hu)]; exact R.ho), smallL (by omega), ?_⟩⟩
          refine ⟨Nat.zero_le _, fun m hm => ?_⟩
          have oc : c ≠ o := fun e => by
            have nd := R.nd
            rw [e] at nd
            exact (List.nodup_cons.mp nd).1 List.mem_cons_self
          have ec : (upd (upd H' u (.tup [.int (pos : Nat), .ref c])) o (.lst ((lv.map fun v => V.ref v.u).reverse ++ [.ref u]))) c = some (.lst cvs) := by
            rw [upd_ne oc, upd_ne (ne_of_none R.hc hu)]
            exact R.hc
          have ec2 := same_new hm (.lst []) _ _ ec
          refine ⟨.ref c, rfl, .inl ⟨rfl, _, SqL.of ec2⟩, _, rfl, (by show 2 ≤ sizeLine; decide), fun t ht => ⟨c, _, _, rfl, rfl, (by rw [upd_ne (ne_of_none ec2 ht)]; exact ec2), smallL (by omega), ?_⟩⟩
          have R2 := R.opn hu hm ht
          refine ⟨_, rfl, _, m, _, _, _, _, names, _, _, _, _, rfl, ?_, R2, ?_, ?_⟩
          · have fu : F u = none := R.sm.free hu
            have ft : F t = none := by
              have z1 := (same_new hm (.lst [])).free ht
              have nto : t ≠ o := fun e => by
                rw [e, upd_same] at z1
                cases z1
              rw [upd_ne nto] at z1
              exact R.sm.free ((same_new hu _).free z1)
            have ntu : t ≠ u := fun e => by
              have z1 := (same_new hm (.lst [])).free ht
              have nto : t ≠ o := fun e => by
                rw [e, upd_same] at z1
                cases z1
              rw [upd_ne nto, e, upd_same] at z1
              cases z1
            exact sF.trans ((same_new fu _).trans (same_new (by rw [upd_ne ntu]; exact ft) _))
          · rw [step]
            show rstep (stack, cur, names) (pos, pl) = _
            unfold rstep
            rw [if_pos h40, if_neg h3]
          · rw [List.length_cons]
            omega
    · refine if_false_of (decide_eq_false fun z => h40 ((eq1 [40] "(" (by decide +kernel)).mp z)) ?_
      refine ⟨_, rfl, rfl, _, rfl, ?_⟩
      by_cases h41 : pl = [41]
      · refine if_true_of (decide_eq_true ((eq1 [41] ")" (by decide +kernel)).mpr h41)) ?_
        refine ⟨_, rfl, _, .inl ⟨_, SqL.of R.ho, rfl⟩, ?_⟩
        cases lv with
        | nil =>
          cases stack with
          | cons q st => cases len1
          | nil =>
            refine if_true_of (by simp) ?_
            exact ⟨_, rfl, _, rfl, natLog (by omega), fun d hd => fail _ d R.sm (by unfold rstep; rw [if_neg h40, if_pos h41]) hd⟩
        | cons v lv =>
          cases stack with
          | nil => cases len1
          | cons q st =>
            obtain ⟨q, ts⟩ := q
            refine if_false_of (by simp) ?_
            obtain ⟨k1, k2, k3, k4, k5⟩ := id R.ok
            have ed : ((v :: lv).map fun v => V.ref v.u).reverse.dropLast = (lv.map fun v => V.ref v.u).reverse := by simp
            refine ⟨_, rfl, .inl ⟨rfl, _, SqL.of R.ho⟩, o, _, .ref v.u, rfl, rfl, R.ho, by simp, ?_⟩
            rw [ed]
            have uo : v.u ≠ o := fun z => by
              have z2 := R.fr o (by simp)
              rw [← z, k4] at z2
              cases z2
            refine ⟨v.u, _, rfl, .inl (.inl (by rw [upd_ne uo]; exact R.sm _ _ k4)), rfl, _, _, rfl, _, _, rfl, rfl, ?_⟩
            refine ⟨_, v.l, _, lv, st, _, names, _, _, _, _, rfl, sF.trans (same_new (R.fr c (by simp)) _), R.shut.up (Nat.le_succ _), ?_, ?_⟩
            · rw [step]
              show rstep ((q, ts) :: st, cur, names) (pos, pl) = _
              unfold rstep
              rw [if_neg h40, if_pos h41]
            · rw [List.length_cons] at h30
              omega
      · refine if_false_of (decide_eq_false fun z => h41 ((eq1 [41] ")" (by decide +kernel)).mp z)) ?_
        refine ⟨_, rfl, S pl, rfl, hlp, fun H4 sm4 => ⟨_, rfl, ?_⟩⟩
        have R4 := R.heap sm4
        have eI : isIntL (S pl).cps.toList = isIntL pl := rfl
        rw [eI]
        cases hI : isIntL pl with
        | true =>
          refine if_true_of rfl ?_
          have it := isInt_text hI
          refine ⟨.ref c, rfl, .inl ⟨rfl, _, SqL.of R4.hc⟩, _, rfl, S pl, _, rfl, it.1, ?_, (by show 2 ≤ sizeLine; decide), fun t ht => ⟨c, _, _, rfl, rfl, (by rw [upd_ne (ne_of_none R4.hc ht)]; exact R4.hc), smallL (by omega), ?_⟩⟩
          · show pl.length ≤ 640
            omega
          · refine ⟨_, c, _, lv, stack, _, names, _, _, _, _, rfl, sF.trans (same_new (R4.sm.free ht) _), R4.leaf (T := .int (intVal pl)) ht (fun F' e => by unfold TreeAt; exact ⟨t, rfl, e⟩), ?_, h30⟩
            rw [step]
            show rstep (stack, cur, names) (pos, pl) = _
            unfold rstep
            rw [if_neg h40, if_neg h41, hI, if_pos rfl]
        | false =>
          refine if_false_of rfl ?_
          refine ⟨_, rfl, S pl, rfl, hlp, List.length_pos_iff.mpr pk1, fun H5 sm5 => ⟨_, rfl, ?_⟩⟩
          have R5 := R4.heap sm5
          have eN : isNameL (S pl).cps.toList = isNameL pl := rfl
          rw [eN]
          cases hN : isNameL pl with
          | true =>
            refine if_true_of rfl ?_
            refine ⟨.ref c, rfl, .inl ⟨rfl, _, SqL.of R5.hc⟩, _, rfl, _, rfl, (by show 3 ≤ sizeLine; decide), fun t ht => ⟨c, _, _, rfl, rfl, (by rw [upd_ne (ne_of_none R5.hc ht)]; exact R5.hc), smallL (by omega), ?_⟩⟩
            refine ⟨_, rfl, _, _, rfl, rfl, ?_⟩
            refine ⟨_, c, _, lv, stack, _, names + 1, _, _, _, _, rfl, sF.trans (same_new (R5.sm.free ht) _), R5.leaf (T := .name pl names) ht (fun F' e => by unfold TreeAt; exact ⟨t, rfl, e⟩), ?_, h30⟩
            rw [step]
            show rstep (stack, cur, names) (pos, pl) = _
            unfold rstep
            rw [if_neg h40, if_neg h41, hI, if_neg Bool.false_ne_true, hN, if_pos rfl]
          | false =>
            refine if_false_of rfl ?_
            exact ⟨_, rfl, _, rfl, natLog (by omega), fun d hd => fail _ d R5.sm (by unfold rstep; rw [if_neg h40, if_neg h41, hI, if_neg Bool.false_ne_true, hN, if_neg Bool.false_ne_true]) hd⟩
  · rintro σ H' ⟨F, c, cvs, lv, stack, cur, names, y5, y6, y7, y8, rfl, sF, R, hrun, h30⟩
    have hlv : vs.length = ps.length := Paired.length paF
    rw [hlv, List.take_length] at hrun
    refine ⟨_, rfl, _, .inl ⟨_, SqL.of R.ho, rfl⟩, ?_⟩
    have len1 := R.ok.len
    have sH' : Same H H' := (sHF.trans sF).trans R.sm
    cases lv with
    | nil =>
      cases stack with
      | cons q st => cases len1
      | nil =>
        refine if_false_of (by simp) ?_
        have ecp : c = p := R.ok
        refine ⟨_, rfl, qO cur (by unfold readM; rw [hrun]; rfl) H' p cvs sH' np (by rw [← ecp]; exact R.hc) (TreesAt.same R.sm _ _ R.tc)⟩
    | cons v lv =>
      cases stack with
      | nil => cases len1
      | cons q st =>
        obtain ⟨q, ts⟩ := q
        obtain ⟨k1, k2, k3, k4, k5⟩ := id R.ok
        refine if_true_of (by simp) ?_
        have hq : q ≤ 20001 := rrun_pos (B := fun n => n ≤ 20001) ps ([], [], 0) _ hrun (fun s hs => by cases hs) (fun r hr => (pok r hr).2.2) (q, ts) List.mem_cons_self
        have gl : atI ((v :: lv).map fun v => V.ref v.u).reverse (-1) = some (.ref v.u) := by
          rw [List.map_cons, List.reverse_cons]
          exact atI_last _ _
        refine ⟨_, rfl, 1, rfl, o, _, -1, _, rfl, rfl, SqL.of R.ho, gl, v.u, _, 0, _, rfl, rfl, SqT.of (R.sm _ _ k4), at0, q, rfl, natLog (by omega), fun d hd => ?_⟩
        exact qE q (by unfold readM; rw [hrun]; rfl) _ d (sH'.trans (same_new hd _)) (sH'.free hd) upd_same
end
end Sg

namespace Sg
open PySem PySem.Spec PyProof.Rows L2
/-! ### the law's trees, their texts, their tokens -/
mutual
def UTreeAt (F : Hp) : Tree → V → Prop
  | .int n, v => ∃ a, v = .ref a ∧ F a = some (.tup [.str "int", .int n])
  | .name s _, v => ∃ a, v = .ref a ∧ F a = some (.tup [.str "name", .str (S s)])
  | .list ts, v => ∃ a l vs, v = .ref a ∧ F a = some (.tup [.str "list", .ref l]) ∧ F l = some (.lst vs) ∧ UTreesAt F ts vs
def UTreesAt (F : Hp) : List Tree → List V → Prop
  | [], vs => vs = []
  | t :: ts, vs => ∃ v r, vs = v :: r ∧ UTreeAt F t v ∧ UTreesAt F ts r
end
mutual
theorem UTreeAt.same {F F' : Hp} (e : Same F F') : ∀ (t : Tree) (v : V), UTreeAt F t v → UTreeAt F' t v
  | .int n, v, h => by
    unfold UTreeAt at h ⊢
    obtain ⟨a, h1, h2⟩ := h
    exact ⟨a, h1, e _ _ h2⟩
  | .name s i, v, h => by
    unfold UTreeAt at h ⊢
    obtain ⟨a, h1, h2⟩ := h
    exact ⟨a, h1, e _ _ h2⟩
  | .list ts, v, h => by
    unfold UTreeAt at h ⊢
    obtain ⟨a, l, vs, h1, h2, h3, h4⟩ := h
    exact ⟨a, l, vs, h1, e _ _ h2, e _ _ h3, UTreesAt.same e ts vs h4⟩
theorem UTreesAt.same {F F' : Hp} (e : Same F F') : ∀ (ts : List Tree) (vs : List V), UTreesAt F ts vs → UTreesAt F' ts vs
  | [], vs, h => by
    unfold UTreesAt at h ⊢
    exact h
  | t :: ts, vs, h => by
    unfold UTreesAt at h ⊢
    obtain ⟨v, r, h1, h2, h3⟩ := h
    exact ⟨v, r, h1, UTreeAt.same e t v h2, UTreesAt.same e ts r h3⟩
end
theorem UTreesAt.snoc {F : Hp} {t : Tree} {v : V} (h2 : UTreeAt F t v) : ∀ {ts : List Tree} {vs : List V}, UTreesAt F ts vs → UTreesAt F (ts ++ [t]) (vs ++ [v])
  | [], vs, h => by
    unfold UTreesAt at h
    subst h
    show UTreesAt F [t] [v]
    unfold UTreesAt
    exact ⟨v, [], rfl, h2, by unfold UTreesAt; rfl⟩
  | u :: ts, vs, h => by
    unfold UTreesAt at h
    obtain ⟨w, r, rfl, h3, h4⟩ := h
    show UTreesAt F (u :: (ts ++ [t])) (w :: (r ++ [v]))
    unfold UTreesAt
    exact ⟨w, r ++ [v], rfl, h3, UTreesAt.snoc h2 h4⟩
theorem UTreesAt.nil {F : Hp} : UTreesAt F [] [] := by
  unfold UTreesAt
  rfl
theorem UTreesAt.len {F : Hp} : ∀ {ts : List Tree} {vs : List V}, UTreesAt F ts vs → vs.length = ts.length
  | [], vs, h => by
    unfold UTreesAt at h
    rw [h]
    rfl
  | t :: ts, vs, h => by
    unfold UTreesAt at h
    obtain ⟨v, r, rfl, _, h3⟩ := h
    rw [List.length_cons, List.length_cons, UTreesAt.len h3]
theorem UTreesAt.get {F : Hp} : ∀ {ts : List Tree} {vs : List V} {i : Nat} {v : V}, UTreesAt F ts vs → vs[i]? = some v → ∃ t, ts[i]? = some t ∧ UTreeAt F t v
  | [], vs, i, v, h, e => by
    unfold UTreesAt at h
    rw [h] at e
    simp at e
  | t :: ts, vs, i, v, h, e => by
    unfold UTreesAt at h
    obtain ⟨w, r, rfl, h2, h3⟩ := h
    cases i with
    | zero =>
      cases e
      exact ⟨t, rfl, h2⟩
    | succ i => exact UTreesAt.get (i := i) h3 e
theorem TreesAt.len {F : Hp} : ∀ {ts : List Tree} {vs : List V}, TreesAt F ts vs → vs.length = ts.length
  | [], vs, h => by
    unfold TreesAt at h
    rw [h]
    rfl
  | t :: ts, vs, h => by
    unfold TreesAt at h
    obtain ⟨v, r, rfl, _, h3⟩ := h
    rw [List.length_cons, List.length_cons, TreesAt.len h3]
theorem TreesAt.get {F : Hp} : ∀ {ts : List Tree} {vs : List V} {i : Nat} {v : V}, TreesAt F ts vs → vs[i]? = some v → ∃ t, ts[i]? = some t ∧ TreeAt F t v
  | [], vs, i, v, h, e => by
    unfold TreesAt at h
    rw [h] at e
    simp at e
  | t :: ts, vs, i, v, h, e => by
    unfold TreesAt at h
    obtain ⟨w, r, rfl, h2, h3⟩ := h
    cases i with
    | zero =>
      cases e
      exact ⟨t, rfl, h2⟩
    | succ i => exact TreesAt.get (i := i) h3 e
/-- the heap but for these -/
def rmL (bs : List Addr) (H : Hp) : Hp := fun a => if a ∈ bs then none else H a
theorem rm_in {bs : List Addr} {H : Hp} {a : Addr} {o : HO} (n : a ∉ bs) (h : H a = some o) : rmL bs H a = some o := by
  unfold rmL
  rw [if_neg n]
  exact h
theorem rm_of {bs : List Addr} {H : Hp} {a : Addr} {o : HO} (h : rmL bs H a = some o) : a ∉ bs ∧ H a = some o := by
  unfold rmL at h
  by_cases z : a ∈ bs
  · rw [if_pos z] at h
    cases h
  · rw [if_neg z] at h
    exact ⟨z, h⟩
theorem rm_sub {bs : List Addr} {H : Hp} : Same (rmL bs H) H := fun b o h => (rm_of h).2
/-- all but these stand -/
def Kb (bs : List Addr) (H H' : Hp) : Prop := ∀ b o, b ∉ bs → H b = some o → H' b = some o
theorem Kb.refl (bs : List Addr) (H : Hp) : Kb bs H H := fun _ _ _ h => h
theorem Kb.trans {bs : List Addr} {H H1 H2 : Hp} (a : Kb bs H H1) (b : Kb bs H1 H2) : Kb bs H H2 := fun x o n h => b x o n (a x o n h)
theorem Same.kb {bs : List Addr} {H H' : Hp} (a : Same H H') : Kb bs H H' := fun x o _ h => a x o h
theorem Kb.wide {bs cs : List Addr} {H H' : Hp} (a : Kb bs H H') (h : ∀ b ∈ bs, b ∈ cs) : Kb cs H H' := fun x o n q => a x o (fun z => n (h x z)) q
theorem Kb.rm {bs cs : List Addr} {H H' : Hp} (a : Kb bs H H') (h : ∀ b ∈ bs, b ∈ cs) : Same (rmL cs H) (rmL cs H') := fun x o q => by
  have z := rm_of q
  exact rm_in z.1 (a x o (fun y => z.1 (h x y)) z.2)
theorem rm_cut {bs cs : List Addr} {H : Hp} (h : ∀ b ∈ bs, b ∈ cs) : Same (rmL cs H) (rmL bs H) := fun x o q => by
  have z := rm_of q
  exact rm_in (fun y => z.1 (h x y)) z.2
theorem Kp.kb {p c : Addr} {H H' : Hp} (a : Kp p c H H') : Kb [p, c] H H' := fun x o n h => a x o (fun z => n (by simp [z])) (fun z => n (by simp [z])) h
theorem Kb.kp {p c : Addr} {H H' : Hp} (a : Kb [p, c] H H') : Kp p c H H' := fun x o n1 n2 h => a x o (by simp [n1, n2]) h
theorem Kb.put {bs : List Addr} {H H' : Hp} {a : Addr} (k : Kb bs H H') (h : a ∈ bs) (o : HO) : Kb bs H (upd H' a o) := fun x u n q => by
  rw [upd_ne (fun z => n (by rw [z]; exact h))]
  exact k x u n q
theorem Kb.new {bs : List Addr} {H H' : Hp} {a : Addr} (k : Kb bs H H') (h : H a = none) (o : HO) : Kb bs H (upd H' a o) := fun x u n q => by
  rw [upd_ne (ne_of_none q h)]
  exact k x u n q
theorem Kb.free {bs : List Addr} {H H' : Hp} {a : Addr} (k : Kb bs H H') (n : a ∉ bs) (h : H' a = none) : H a = none := by
  cases e : H a with
  | none => rfl
  | some u =>
    rw [k a u n e] at h
    cases h
/-! ### sizes -/
mutual
def tsz : Tree → Nat
  | .int _ => 1
  | .name _ _ => 1
  | .list ts => 1 + tszs ts
def tszs : List Tree → Nat
  | [] => 0
  | t :: ts => tsz t + tszs ts
end
mutual
def tht : Tree → Nat
  | .int _ => 0
  | .name _ _ => 0
  | .list ts => 1 + thts ts
def thts : List Tree → Nat
  | [] => 0
  | t :: ts => max (tht t) (thts ts)
end
mutual
def twf : Tree → Prop
  | .int n => n.natAbs ≤ 999999999
  | .name s _ => isNameL s = true
  | .list ts => twfs ts
def twfs : List Tree → Prop
  | [] => True
  | t :: ts => twf t ∧ twfs ts
end
def intL (n : Int) : List Nat := (Str.ofString (toString n)).cps.toList
def joinSp : List (List Nat) → List Nat
  | [] => []
  | [x] => x
  | x :: y :: r => x ++ 32 :: joinSp (y :: r)
mutual
def form : Tree → List Nat
  | .int n => intL n
  | .name s _ => s
  | .list ts => 40 :: (joinSp (forms ts) ++ [41])
def forms : List Tree → List (List Nat)
  | [] => []
  | t :: ts => form t :: forms ts
end
mutual
def toks : Tree → List (List Nat)
  | .int n => [intL n]
  | .name s _ => [s]
  | .list ts => [40] :: (tokss ts ++ [[41]])
def tokss : List Tree → List (List Nat)
  | [] => []
  | t :: ts => toks t ++ tokss ts
end
mutual
def cnt : Tree → Nat → Tree × Nat
  | .int n, k => (.int n, k)
  | .name s _, k => (.name s k, k + 1)
  | .list ts, k => (.list (cnts ts k).1, (cnts ts k).2)
def cnts : List Tree → Nat → List Tree × Nat
  | [], k => ([], k)
  | t :: ts, k => ((cnt t k).1 :: (cnts ts (cnt t k).2).1, (cnts ts (cnt t k).2).2)
end
theorem tszs_app : ∀ (a b : List Tree), tszs (a ++ b) = tszs a + tszs b
  | [], b => by
    show tszs b = tszs [] + tszs b
    simp only [tszs]
    omega
  | t :: a, b => by
    show tszs (t :: (a ++ b)) = _
    simp only [tszs]
    rw [tszs_app a b]
    omega
theorem thts_app : ∀ (a b : List Tree), thts (a ++ b) = max (thts a) (thts b)
  | [], b => by
    show thts b = _
    simp only [thts]
    omega
  | t :: a, b => by
    show thts (t :: (a ++ b)) = _
    simp only [thts]
    rw [thts_app a b]
    omega
theorem twfs_app : ∀ (a b : List Tree), twfs a → twfs b → twfs (a ++ b)
  | [], b, _, h => h
  | t :: a, b, h, g => by
    simp only [twfs] at h
    show twfs (t :: (a ++ b))
    simp only [twfs]
    exact ⟨h.1, twfs_app a b h.2 g⟩
theorem tokss_app : ∀ (a b : List Tree), tokss (a ++ b) = tokss a ++ tokss b
  | [], b => by
    show tokss b = tokss [] ++ tokss b
    simp only [tokss, List.nil_append]
  | t :: a, b => by
    show tokss (t :: (a ++ b)) = _
    simp only [tokss]
    rw [tokss_app a b, List.append_assoc]
theorem cnts_app : ∀ (a b : List Tree) (k : Nat), cnts (a ++ b) k = ((cnts a k).1 ++ (cnts b (cnts a k).2).1, (cnts b (cnts a k).2).2)
  | [], b, k => by
    show cnts b k = _
    simp only [cnts, List.nil_append]
  | t :: a, b, k => by
    show cnts (t :: (a ++ b)) k = _
    simp only [cnts]
    rw [cnts_app a b]
    rfl
theorem twfs_get : ∀ {ts : List Tree} {i : Nat} {t : Tree}, twfs ts → ts[i]? = some t → twf t
  | [], i, t, _, e => by simp at e
  | u :: ts, i, t, h, e => by
    simp only [twfs] at h
    cases i with
    | zero =>
      cases e
      exact h.1
    | succ i => exact twfs_get (i := i) h.2 e
theorem thts_get : ∀ {ts : List Tree} {i : Nat} {t : Tree}, ts[i]? = some t → tht t ≤ thts ts
  | [], i, t, e => by simp at e
  | u :: ts, i, t, e => by
    simp only [thts]
    cases i with
    | zero =>
      cases e
      omega
    | succ i =>
      have := thts_get (ts := ts) (i := i) e
      omega
theorem tszs_get : ∀ {ts : List Tree} {i : Nat} {t : Tree}, ts[i]? = some t → tsz t ≤ tszs ts
  | [], i, t, e => by simp at e
  | u :: ts, i, t, e => by
    simp only [tszs]
    cases i with
    | zero =>
      cases e
      omega
    | succ i =>
      have := tszs_get (ts := ts) (i := i) e
      omega
theorem tsz_pos : ∀ t : Tree, 1 ≤ tsz t
  | .int _ => by simp only [tsz]; omega
  | .name _ _ => by simp only [tsz]; omega
  | .list _ => by simp only [tsz]; omega
theorem len_tszs : ∀ ts : List Tree, ts.length ≤ tszs ts
  | [] => Nat.zero_le _
  | t :: ts => by
    have := len_tszs ts
    have := tsz_pos t
    simp only [tszs, List.length_cons]
    omega
mutual
theorem cnt_tsz : ∀ (t : Tree) (k : Nat), tsz (cnt t k).1 = tsz t ∧ tht (cnt t k).1 = tht t ∧ (twf t → twf (cnt t k).1) ∧ form (cnt t k).1 = form t ∧ toks (cnt t k).1 = toks t ∧ k ≤ (cnt t k).2 ∧ (cnt t k).2 ≤ k + tsz t
  | .int n, k => ⟨rfl, rfl, fun h => h, rfl, rfl, Nat.le_refl _, Nat.le_add_right _ _⟩
  | .name s i, k => by
    refine ⟨rfl, rfl, fun h => ?_, rfl, rfl, Nat.le_succ _, ?_⟩
    · simp only [cnt, twf] at h ⊢
      exact h
    · simp only [cnt, tsz]
      omega
  | .list ts, k => by
    have q := cnts_tsz ts k
    simp only [cnt, tsz, tht, twf, form, toks]
    refine ⟨by rw [q.1], by rw [q.2.1], q.2.2.1, by rw [q.2.2.2.1], by rw [q.2.2.2.2.1], q.2.2.2.2.2.1, by omega⟩
theorem cnts_tsz : ∀ (ts : List Tree) (k : Nat), tszs (cnts ts k).1 = tszs ts ∧ thts (cnts ts k).1 = thts ts ∧ (twfs ts → twfs (cnts ts k).1) ∧ forms (cnts ts k).1 = forms ts ∧ tokss (cnts ts k).1 = tokss ts ∧ k ≤ (cnts ts k).2 ∧ (cnts ts k).2 ≤ k + tszs ts
  | [], k => ⟨rfl, rfl, fun h => h, rfl, rfl, Nat.le_refl _, Nat.le_refl _⟩
  | t :: ts, k => by
    have q := cnt_tsz t k
    have r := cnts_tsz ts (cnt t k).2
    simp only [cnts, tszs, thts, twfs, forms, tokss]
    refine ⟨by rw [q.1, r.1], by rw [q.2.1, r.2.1], fun h => ⟨q.2.2.1 h.1, r.2.2.1 h.2⟩, by rw [q.2.2.2.1, r.2.2.2.1], by rw [q.2.2.2.2.1, r.2.2.2.2.1], by omega, by omega⟩
end
end Sg

namespace Sg
open PySem PySem.Spec PyProof.Rows L2
/-! ### pieces without their places -/
def fl (run : List Nat) : List (List Nat) := if run = [] then [] else [run]
def tk : List Nat → List Nat → List (List Nat)
  | run, [] => fl run
  | run, c :: r => if isSep c then fl run ++ ((if isPar c then [[c]] else []) ++ tk [] r) else tk (run ++ [c]) r
theorem tk_sep {run r : List Nat} {c : Nat} (h : isSep c = true) : tk run (c :: r) = fl run ++ tk [] (c :: r) := by
  have e : ∀ run, tk run (c :: r) = fl run ++ ((if isPar c then [[c]] else []) ++ tk [] r) := fun run => by
    show (if isSep c then _ else _) = _
    rw [if_pos h]
  rw [e run, e []]
  rfl
theorem tk_more {run r : List Nat} {c : Nat} (h : isSep c = false) : tk run (c :: r) = tk (run ++ [c]) r := by
  show (if isSep c then _ else _) = _
  rw [h, if_neg Bool.false_ne_true]
theorem tk_end : ∀ (l run : List Nat), tk run (l ++ [32]) = tk run l
  | [], run => by
    show tk run [32] = fl run
    rw [tk_sep (by decide)]
    show fl run ++ tk [] [32] = fl run
    have e : tk [] [32] = [] := by decide
    rw [e, List.append_nil]
  | c :: l, run => by
    show tk run (c :: (l ++ [32])) = tk run (c :: l)
    by_cases h : isSep c = true
    · have e : ∀ x, tk run (c :: x) = fl run ++ ((if isPar c then [[c]] else []) ++ tk [] x) := fun x => by
        show (if isSep c then _ else _) = _
        rw [if_pos h]
      rw [e, e, tk_end l []]
    · have h' : isSep c = false := Bool.eq_false_iff.mpr h
      rw [tk_more h', tk_more h', tk_end l _]
theorem tk_prun (l : List Nat) : ∀ n, n ≤ l.length + 1 → tk [] (l ++ [32]) = (prun l n).2.map (·.2) ++ tk ((l.drop (prun l n).1).take (n - (prun l n).1)) ((l ++ [32]).drop n)
  | 0, _ => by
    show tk [] (l ++ [32]) = [] ++ tk [] (l ++ [32])
    rfl
  | n + 1, hn => by
    have ih := tk_prun l n (by omega)
    have hlt : n < (l ++ [32]).length := by
      rw [List.length_append]
      show n < l.length + 1
      omega
    have hc : (l ++ [32])[n]? = some (l ++ [32])[n] := List.getElem?_eq_getElem hlt
    rw [List.drop_eq_getElem_cons hlt] at ih
    generalize (l ++ [32])[n] = c at hc ih
    have bd := prun_le l n
    rw [ih, prun_more hc]
    generalize prun l n = pr at bd
    obtain ⟨start, out⟩ := pr
    have hb : start ≤ n := bd.1
    show out.map (·.2) ++ tk ((l.drop start).take (n - start)) (c :: (l ++ [32]).drop (n + 1)) = _
    unfold pstep
    by_cases hs : isSep c = true
    · rw [if_pos hs]
      show out.map (·.2) ++ tk ((l.drop start).take (n - start)) (c :: (l ++ [32]).drop (n + 1)) = ((out ++ runPart l start n) ++ parPart n c).map (·.2) ++ tk ((l.drop (n + 1)).take (n + 1 - (n + 1))) ((l ++ [32]).drop (n + 1))
      have e0 : n + 1 - (n + 1) = 0 := by omega
      rw [e0, List.take_zero, tk_sep hs, List.map_append, List.map_append, List.append_assoc, List.append_assoc]
      refine congrArg (out.map (·.2) ++ ·) ?_
      have e1 : fl ((l.drop start).take (n - start)) = (runPart l start n).map (·.2) := by
        unfold fl runPart
        by_cases hlt2 : start < n
        · rw [if_pos hlt2, if_neg]
          · rfl
          · intro z
            have y := congrArg List.length z
            rw [List.length_take, List.length_drop] at y
            have : ([] : List Nat).length = 0 := rfl
            rw [List.length_append] at hlt
            have : ([32] : List Nat).length = 1 := rfl
            omega
        · rw [if_neg hlt2, if_pos]
          · rfl
          · have e : n - start = 0 := by omega
            rw [e, List.take_zero]
      rw [e1]
      refine congrArg ((runPart l start n).map (·.2) ++ ·) ?_
      show (if isSep c then fl [] ++ ((if isPar c then [[c]] else []) ++ tk [] ((l ++ [32]).drop (n + 1))) else _) = _
      rw [if_pos hs]
      show (if isPar c then [[c]] else []) ++ tk [] ((l ++ [32]).drop (n + 1)) = (parPart n c).map (·.2) ++ _
      unfold parPart
      by_cases hp : isPar c = true
      · rw [if_pos hp, if_pos hp]
        rfl
      · rw [if_neg hp, if_neg hp]
        rfl
    · rw [if_neg hs]
      have hs' : isSep c = false := Bool.eq_false_iff.mpr hs
      have hn2 : n < l.length := by
        by_cases z : n < l.length
        · exact z
        · have e : n = l.length := by omega
          rw [e, List.getElem?_append_right (Nat.le_refl _), Nat.sub_self] at hc
          cases hc
          exact absurd rfl hs
      have hl : l[n]? = some c := by rw [← hc, List.getElem?_append_left hn2]
      show out.map (·.2) ++ tk ((l.drop start).take (n - start)) (c :: (l ++ [32]).drop (n + 1)) = out.map (·.2) ++ tk ((l.drop start).take (n + 1 - start)) ((l ++ [32]).drop (n + 1))
      rw [tk_more hs']
      have e : n + 1 - start = (n - start) + 1 := by omega
      have e2 : (l.drop start)[n - start]? = some c := by
        rw [List.getElem?_drop]
        have : start + (n - start) = n := by omega
        rw [this]
        exact hl
      rw [e, List.take_add_one, e2]
      rfl
theorem pieces_tk (l : List Nat) : (piecesL l).map (·.2) = tk [] l := by
  have q := tk_prun l (l.length + 1) (Nat.le_refl _)
  rw [tk_end] at q
  have hl : (l ++ [32])[l.length]? = some 32 := by
    rw [List.getElem?_append_right (Nat.le_refl _), Nat.sub_self]
    rfl
  have e : (prun l (l.length + 1)).1 = l.length + 1 := by
    rw [prun_more hl]
    rfl
  rw [e, Nat.sub_self, List.take_zero, List.drop_of_length_le (by rw [List.length_append]; exact Nat.le_refl _)] at q
  have e2 : tk [] [] = [] := rfl
  rw [e2, List.append_nil] at q
  exact q.symm
/-- read as these tokens whatever follows -/
def Cl (x : List Nat) (ts : List (List Nat)) : Prop := ∀ r, tk [] (x ++ r) = ts ++ tk [] r
/-- .. whatever separator follows -/
def Sc (x : List Nat) (ts : List (List Nat)) : Prop := ∀ c r, isSep c = true → tk [] (x ++ c :: r) = ts ++ tk [] (c :: r)
theorem Cl.nil : Cl [] [] := fun _ => rfl
theorem Cl.app {x y : List Nat} {a b : List (List Nat)} (h : Cl x a) (g : Cl y b) : Cl (x ++ y) (a ++ b) := fun r => by
  rw [List.append_assoc, h, g, List.append_assoc]
theorem Cl.sc {x : List Nat} {a : List (List Nat)} (h : Cl x a) : Sc x a := fun c r _ => h (c :: r)
theorem Cl.tk {x : List Nat} {a : List (List Nat)} (h : Cl x a) : Sg.tk [] x = a := by
  have q := h []
  rw [List.append_nil] at q
  rw [q]
  show a ++ [] = a
  rw [List.append_nil]
theorem Cl.ws {x : List Nat} (h : ∀ c ∈ x, c = 32 ∨ c = 10) : Cl x [] := by
  induction x with
  | nil => exact Cl.nil
  | cons c x ih =>
    intro r
    have hc := h c List.mem_cons_self
    have hs : isSep c = true := by
      rcases hc with z | z
      · rw [z]
        decide
      · rw [z]
        decide
    have hp : isPar c = false := by
      rcases hc with z | z
      · rw [z]
        decide
      · rw [z]
        decide
    show (if isSep c then fl [] ++ ((if isPar c then [[c]] else []) ++ Sg.tk [] (x ++ r)) else _) = _
    rw [if_pos hs, hp, if_neg Bool.false_ne_true, ih (fun d hd => h d (List.mem_cons_of_mem _ hd)) r]
    rfl
theorem Cl.par {c : Nat} (h : isPar c = true) : Cl [c] [[c]] := fun r => by
  have hs : isSep c = true := by
    have z : c = 40 ∨ c = 41 := of_decide_eq_true h
    rcases z with z | z
    · rw [z]
      decide
    · rw [z]
      decide
  show (if isSep c then fl [] ++ ((if isPar c then [[c]] else []) ++ Sg.tk [] r) else _) = _
  rw [if_pos hs, if_pos h]
  rfl
theorem tk_word : ∀ (s run r : List Nat), (∀ c ∈ s, isSep c = false) → tk run (s ++ r) = tk (run ++ s) r
  | [], run, r, _ => by rw [List.append_nil, List.nil_append]
  | c :: s, run, r, h => by
    show tk run (c :: (s ++ r)) = _
    rw [tk_more (h c List.mem_cons_self), tk_word s _ r fun d hd => h d (List.mem_cons_of_mem _ hd), List.append_assoc]
    rfl
theorem Sc.word {s : List Nat} (n : s ≠ []) (h : ∀ c ∈ s, isSep c = false) : Sc s [s] := fun c r hc => by
  rw [tk_word s [] _ h, tk_sep hc]
  show fl s ++ _ = _
  unfold fl
  rw [if_neg n]
theorem Sc.nil : Sc [] [] := fun _ _ _ => rfl
theorem Sc.sp {x : List Nat} {a : List (List Nat)} {c : Nat} (h : Sc x a) (hc : c = 32 ∨ c = 10) : Cl (x ++ [c]) a := fun r => by
  have hs : isSep c = true := by
    rcases hc with z | z
    · rw [z]
      decide
    · rw [z]
      decide
  have q := Cl.ws (x := [c]) (fun d hd => by rw [List.mem_singleton.mp hd]; exact hc) r
  rw [List.append_assoc]
  show Sg.tk [] (x ++ c :: r) = _
  rw [h c r hs]
  exact congrArg (a ++ ·) q
/-- a token as it may stand in a text -/
def TokOk (s : List Nat) : Prop := s ≠ [] ∧ ((∃ c, s = [c] ∧ isPar c = true) ∨ ∀ c ∈ s, isSep c = false)
/-- white signs -/
def Ws (x : List Nat) : Prop := ∀ c ∈ x, c = 32 ∨ c = 10
theorem Cl.loose {s a b : List Nat} (h : TokOk s) (ha : Ws a) (hb : Ws b) (nb : b ≠ []) : Cl (a ++ s ++ b) [s] := by
  have e : ([] : List (List Nat)) ++ [s] ++ [] = [s] := rfl
  obtain ⟨n, h⟩ := h
  rcases h with ⟨c, rfl, hp⟩ | h
  · exact ((Cl.ws ha).app (Cl.par hp)).app (Cl.ws hb)
  · cases b with
    | nil => exact absurd rfl nb
    | cons d b =>
      have q := ((Cl.ws ha).app (Sc.sp (Sc.word n h) (hb d List.mem_cons_self))).app (Cl.ws fun x hx => hb x (List.mem_cons_of_mem _ hx))
      have e2 : a ++ (s ++ [d]) ++ b = a ++ s ++ d :: b := by simp
      rw [e2] at q
      exact q
/-! ### what the tokens are -/
theorem name_ok {s : List Nat} (h : isNameL s = true) : s ≠ [] ∧ s.length ≤ 20 ∧ isIntL s = false ∧ (∀ c ∈ s, isSep c = false) ∧ s ≠ [40] ∧ s ≠ [41] := by
  have done : s ≠ [] → s.length ≤ 20 → isIntL s = false → (∀ c ∈ s, isSep c = false) → s ≠ [] ∧ s.length ≤ 20 ∧ isIntL s = false ∧ (∀ c ∈ s, isSep c = false) ∧ s ≠ [40] ∧ s ≠ [41] := fun a b c d =>
    ⟨a, b, c, d, fun z => (by rw [z] at d; exact absurd (d 40 List.mem_cons_self) (by decide)), fun z => (by rw [z] at d; exact absurd (d 41 List.mem_cons_self) (by decide))⟩
  unfold isNameL at h
  rw [Bool.or_eq_true] at h
  rcases h with h | h
  · have hm : s ∈ specials := of_decide_eq_true h
    have key : ∀ z ∈ specials, z ≠ [] ∧ z.length ≤ 20 ∧ isIntL z = false ∧ ∀ c ∈ z, isSep c = false := by decide
    obtain ⟨a, b, c, d⟩ := key s hm
    exact done a b c d
  · rw [Bool.and_eq_true, Bool.and_eq_true, decide_eq_true_eq] at h
    obtain ⟨h1, h2, h3⟩ := h
    cases s with
    | nil => cases h2
    | cons c r =>
      have hc : isLet c = true := h2
      have hc' : 97 ≤ c ∧ c ≤ 122 := of_decide_eq_true hc
      refine done (by simp) h1 ?_ fun d hd => ?_
      · unfold isIntL
        have e : stripDash (c :: r) = c :: r := by
          unfold stripDash
          split
          · rename_i r' e
            cases e
            omega
          · rfl
        have e2 : ((c :: r) == [48]) = false := by
          refine beq_eq_false_iff_ne.mpr fun z => ?_
          cases z
          omega
        have e3 : (c :: r).all isDig = false := by
          rw [List.all_cons]
          have : isDig c = false := decide_eq_false (by omega)
          rw [this]
          rfl
        rw [e, e2, e3]
        simp
      · have q := List.all_eq_true.mp h3 d hd
        rw [Bool.or_eq_true] at q
        have : (97 ≤ d ∧ d ≤ 122) ∨ (48 ≤ d ∧ d ≤ 57) := q.imp (fun z => of_decide_eq_true z) fun z => of_decide_eq_true z
        exact decide_eq_false (by omega)
theorem num_head {n : Nat} : (TL.numL n).head? = some 48 → n = 0 := by
  induction n using Nat.strongRecOn with
  | _ n ih =>
    intro h
    by_cases c : n < 10
    · rw [TL.numL_lt c] at h
      have : 48 + n = 48 := by simpa using h
      omega
    · rw [TL.numL_step (by omega)] at h
      have hn := TL.numL_ne (n / 10)
      have e : (TL.numL (n / 10) ++ [48 + n % 10]).head? = (TL.numL (n / 10)).head? := by
        cases z : TL.numL (n / 10) with
        | nil => exact absurd z hn
        | cons a b => rfl
      rw [e] at h
      have := ih (n / 10) (by omega) h
      omega
theorem intL_nat (n : Nat) : intL (n : Int) = TL.numL n := TL.tl_num n
theorem intL_neg {n : Nat} (h : 0 < n) : intL (-(n : Int)) = 45 :: TL.numL n := by
  have hn : (-(n : Int)) < 0 := by omega
  unfold intL
  rw [PyProof.Rows.toString_neg hn]
  have e : (0 : Int) - -(n : Int) = (n : Int) := by omega
  rw [e]
  have q : (Str.ofString (toString ((n : Nat) : Int))).cps.toList = TL.numL n := TL.tl_num n
  rw [Str.ofString_eq_toList] at q ⊢
  have q' : (toString ((n : Nat) : Int)).toList.map Char.toNat = TL.numL n := q
  show (("-" ++ toString ((n : Nat) : Int)).toList.map Char.toNat) = _
  rw [String.toList_append, List.map_append, q']
  rfl
theorem num_dig (n : Nat) : (TL.numL n).all isDig = true := List.all_eq_true.mpr fun c hc => decide_eq_true (TL.numL_digits n c hc)
theorem num_strip (n : Nat) : stripDash (TL.numL n) = TL.numL n := by
  unfold stripDash
  split
  · rename_i r e
    have := TL.numL_digits n 45 (by rw [e]; exact List.mem_cons_self)
    omega
  · rfl
theorem int_ok {n : Int} (h : n.natAbs ≤ 999999999) : intL n ≠ [] ∧ (intL n).length ≤ 10 ∧ isIntL (intL n) = true ∧ (∀ c ∈ intL n, isSep c = false) ∧ intL n ≠ [40] ∧ intL n ≠ [41] ∧ intVal (intL n) = n := by
  have fin : intL n ≠ [] → isIntL (intL n) = true → (∀ c ∈ intL n, c = 45 ∨ (48 ≤ c ∧ c ≤ 57)) → intVal (intL n) = n → intL n ≠ [] ∧ (intL n).length ≤ 10 ∧ isIntL (intL n) = true ∧ (∀ c ∈ intL n, isSep c = false) ∧ intL n ≠ [40] ∧ intL n ≠ [41] ∧ intVal (intL n) = n := fun a b c d => by
    refine ⟨a, (isInt_text b).2, b, fun x hx => ?_, fun z => ?_, fun z => ?_, d⟩
    · have := c x hx
      exact decide_eq_false (by omega)
    · have := c 40 (by rw [z]; exact List.mem_cons_self)
      omega
    · have := c 41 (by rw [z]; exact List.mem_cons_self)
      omega
  have hl : (TL.numL n.natAbs).length ≤ 9 := TL.numL_len (by decide) (by omega)
  have hl1 : 1 ≤ (TL.numL n.natAbs).length := List.length_pos_iff.mpr (TL.numL_ne _)
  by_cases hn : 0 ≤ n
  · have e : intL n = TL.numL n.natAbs := by
      have z : n = ((n.natAbs : Nat) : Int) := by omega
      rw [z, intL_nat]
      rfl
    refine fin (by rw [e]; exact TL.numL_ne _) ?_ (fun c hc => ?_) ?_
    · rw [e]
      unfold isIntL
      rw [num_strip, num_dig, Bool.and_true]
      by_cases h0 : n.natAbs = 0
      · rw [h0]
        have e0 : TL.numL 0 = [48] := by
          rw [TL.numL_lt (by decide)]
        rw [e0]
        rfl
      · rw [Bool.or_eq_true]
        refine .inr ?_
        rw [Bool.and_eq_true]
        refine ⟨decide_eq_true ⟨hl1, hl⟩, ?_⟩
        refine bne_iff_ne.mpr fun z => h0 (num_head z)
    · rw [e] at hc
      exact .inr (TL.numL_digits _ c hc)
    · unfold intVal
      have z := intText_digits (x := S (intL n)) (by rw [S_cps, e]; exact TL.numL_digits _) (by rw [S_cps, e]; exact TL.numL_ne _) (by
        show (intL n).length ≤ 4300
        rw [e]
        omega)
      rw [z, S_cps, e, TL.numL_val]
      show ((n.natAbs : Nat) : Int) = n
      omega
  · have h0 : 0 < n.natAbs := by omega
    have e : intL n = 45 :: TL.numL n.natAbs := by
      have z : n = -((n.natAbs : Nat) : Int) := by omega
      have q := intL_neg h0
      rw [← z] at q
      exact q
    refine fin (by rw [e]; simp) ?_ (fun c hc => ?_) ?_
    · rw [e]
      unfold isIntL
      have e1 : stripDash (45 :: TL.numL n.natAbs) = TL.numL n.natAbs := rfl
      rw [e1, num_dig, Bool.and_true, Bool.or_eq_true]
      refine .inr ?_
      rw [Bool.and_eq_true]
      refine ⟨decide_eq_true ⟨hl1, hl⟩, ?_⟩
      refine bne_iff_ne.mpr fun z => ?_
      have := num_head z
      omega
    · rw [e] at hc
      rcases List.mem_cons.mp hc with z | z
      · exact .inl z
      · exact .inr (TL.numL_digits _ c z)
    · unfold intVal
      have z := intText_neg (x := S (intL n)) (cs := TL.numL n.natAbs) (by rw [S_cps, e]) (TL.numL_digits _) (TL.numL_ne _) (by
        show (intL n).length ≤ 4300
        rw [e, List.length_cons]
        omega)
      rw [z, TL.numL_val]
      show -((n.natAbs : Nat) : Int) = n
      omega
end Sg

namespace Sg
open PySem PySem.Spec PyProof.Rows L2
/-! ### the tokens of trees are read as the trees, names counted -/
theorem rstep_int {st : RSt} {p : Pc} {n : Int} (h : n.natAbs ≤ 999999999) (e : p.2 = intL n) : rstep st p = .ok (st.1, st.2.1 ++ [.int n], st.2.2) := by
  obtain ⟨_, _, h3, _, h5, h6, h7⟩ := int_ok h
  unfold rstep
  rw [e, if_neg h5, if_neg h6, if_pos h3, h7]
theorem rstep_name {st : RSt} {p : Pc} {s : List Nat} (h : isNameL s = true) (e : p.2 = s) : rstep st p = .ok (st.1, st.2.1 ++ [.name s st.2.2], st.2.2 + 1) := by
  obtain ⟨_, _, h3, _, h5, h6⟩ := name_ok h
  unfold rstep
  rw [e, if_neg h5, if_neg h6, h3, if_neg Bool.false_ne_true, if_pos h]
theorem one_piece {ps : List Pc} {s : List Nat} (h : ps.map (·.2) = [s]) : ∃ p, ps = [p] ∧ p.2 = s := by
  match ps, h with
  | [p], h => exact ⟨p, rfl, by simpa using h⟩
mutual
theorem read_tree : ∀ (t : Tree) (ps : List Pc) (st : List (Nat × List Tree)) (cur : List Tree) (k : Nat), twf t → st.length + tht t ≤ 30 → ps.map (·.2) = toks t → ps.foldl rnext (.ok (st, cur, k)) = .ok (st, cur ++ [(cnt t k).1], (cnt t k).2)
  | .int n, ps, st, cur, k, hw, _, e => by
    simp only [twf] at hw
    simp only [toks] at e
    obtain ⟨p, rfl, ep⟩ := one_piece e
    show rstep (st, cur, k) p = _
    rw [rstep_int hw ep]
    rfl
  | .name s i, ps, st, cur, k, hw, _, e => by
    simp only [twf] at hw
    simp only [toks] at e
    obtain ⟨p, rfl, ep⟩ := one_piece e
    show rstep (st, cur, k) p = _
    rw [rstep_name hw ep]
    rfl
  | .list ts, ps, st, cur, k, hw, hh, e => by
    simp only [twf] at hw
    simp only [tht] at hh
    simp only [toks] at e
    obtain ⟨p, ps, rfl, e1, e2⟩ := List.map_eq_cons_iff.mp e
    obtain ⟨ms, ls, rfl, e3, e4⟩ := List.map_eq_append_iff.mp e2
    obtain ⟨q, rfl, e5⟩ := one_piece e4
    show (ms ++ [q]).foldl rnext (rstep (st, cur, k) p) = _
    have o : rstep (st, cur, k) p = .ok ((p.1, cur) :: st, [], k) := by
      unfold rstep
      rw [if_pos e1]
      show (if st.length = 30 then _ else _) = _
      rw [if_neg (by omega)]
    rw [o, List.foldl_append, read_trees ts ms _ [] k hw (by rw [List.length_cons]; omega) e3]
    show rstep ((p.1, cur) :: st, [] ++ (cnts ts k).1, (cnts ts k).2) q = _
    unfold rstep
    rw [e5, if_neg (by decide), if_pos rfl]
    show Except.ok (st, cur ++ [.list ([] ++ (cnts ts k).1)], (cnts ts k).2) = _
    rw [List.nil_append]
    simp only [cnt]
theorem read_trees : ∀ (ts : List Tree) (ps : List Pc) (st : List (Nat × List Tree)) (cur : List Tree) (k : Nat), twfs ts → st.length + thts ts ≤ 30 → ps.map (·.2) = tokss ts → ps.foldl rnext (.ok (st, cur, k)) = .ok (st, cur ++ (cnts ts k).1, (cnts ts k).2)
  | [], ps, st, cur, k, _, _, e => by
    simp only [tokss] at e
    have z : ps = [] := List.map_eq_nil_iff.mp e
    rw [z]
    simp only [cnts, List.append_nil]
    rfl
  | t :: ts, ps, st, cur, k, hw, hh, e => by
    simp only [twfs] at hw
    simp only [thts] at hh
    simp only [tokss] at e
    obtain ⟨ms, ls, rfl, e3, e4⟩ := List.map_eq_append_iff.mp e
    rw [List.foldl_append, read_tree t ms st cur k hw.1 (by omega) e3, read_trees ts ls st _ _ hw.2 (by omega) e4]
    simp only [cnts, List.append_assoc]
    rfl
end
theorem read_cl {x : List Nat} {ts : List Tree} (hw : twfs ts) (hh : thts ts ≤ 30) (h : Cl x (tokss ts)) : readM (piecesL x) = .ok (cnts ts 0).1 := by
  have e : (piecesL x).map (·.2) = tokss ts := by rw [pieces_tk, h.tk]
  have q := read_trees ts (piecesL x) [] [] 0 hw (by rw [List.length_nil]; omega) e
  unfold readM rrun
  rw [q]
  rfl
/-! ### the form of a tree -/
mutual
theorem form_sc : ∀ t : Tree, twf t → Sc (form t) (toks t)
  | .int n, h => by
    simp only [twf] at h
    simp only [form, toks]
    exact Sc.word (int_ok h).1 (int_ok h).2.2.2.1
  | .name s i, h => by
    simp only [twf] at h
    simp only [form, toks]
    exact Sc.word (name_ok h).1 (name_ok h).2.2.2.1
  | .list ts, h => by
    simp only [twf] at h
    simp only [form, toks]
    intro c r hc
    have q := forms_sc ts h 41 (c :: r) (by decide)
    have e1 : 40 :: (joinSp (forms ts) ++ [41]) ++ c :: r = [40] ++ (joinSp (forms ts) ++ 41 :: c :: r) := by simp
    rw [e1, Cl.par (c := 40) (by decide), q]
    have e2 := Cl.par (c := 41) (by decide) (c :: r)
    show [40] :: (tokss ts ++ Sg.tk [] ([41] ++ c :: r)) = _
    rw [e2]
    simp
theorem forms_sc : ∀ ts : List Tree, twfs ts → Sc (joinSp (forms ts)) (tokss ts)
  | [], _ => Sc.nil
  | [t], h => by
    simp only [twfs] at h
    simp only [forms, tokss, joinSp, List.append_nil]
    exact form_sc t h.1
  | t :: u :: ts, h => by
    simp only [twfs] at h
    have q := forms_sc (u :: ts) (by simp only [twfs]; exact h.2)
    have p := form_sc t h.1
    have e : joinSp (forms (t :: u :: ts)) = (form t ++ [32]) ++ joinSp (forms (u :: ts)) := by
      simp only [forms, joinSp]
      simp
    have e2 : tokss (t :: u :: ts) = toks t ++ tokss (u :: ts) := by simp only [tokss]
    rw [e, e2]
    intro c r hc
    rw [List.append_assoc, p.sp (.inl rfl), q c r hc, List.append_assoc]
end
theorem form_cl {t : Tree} (h : twf t) : Cl (form t ++ [10]) (toks t) := (form_sc t h).sp (.inr rfl)
/-! ### tokens are tokens -/
mutual
theorem toks_tok : ∀ t : Tree, twf t → ∀ s ∈ toks t, TokOk s ∧ s.length ≤ 20
  | .int n, h, s, hs => by
    simp only [twf] at h
    simp only [toks] at hs
    rw [List.mem_singleton.mp hs]
    have q := int_ok h
    exact ⟨⟨q.1, .inr q.2.2.2.1⟩, by omega⟩
  | .name z i, h, s, hs => by
    simp only [twf] at h
    simp only [toks] at hs
    rw [List.mem_singleton.mp hs]
    have q := name_ok h
    exact ⟨⟨q.1, .inr q.2.2.2.1⟩, q.2.1⟩
  | .list ts, h, s, hs => by
    simp only [twf] at h
    simp only [toks] at hs
    have par : ∀ c, isPar c = true → TokOk [c] ∧ [c].length ≤ 20 := fun c hc => ⟨⟨by simp, .inl ⟨c, rfl, hc⟩⟩, by show 1 ≤ 20; decide⟩
    rcases List.mem_cons.mp hs with e | e
    · rw [e]
      exact par 40 (by decide)
    · rcases List.mem_append.mp e with e | e
      · exact tokss_tok ts h s e
      · rw [List.mem_singleton.mp e]
        exact par 41 (by decide)
theorem tokss_tok : ∀ ts : List Tree, twfs ts → ∀ s ∈ tokss ts, TokOk s ∧ s.length ≤ 20
  | [], _, s, hs => by
    simp only [tokss] at hs
    cases hs
  | t :: ts, h, s, hs => by
    simp only [twfs] at h
    simp only [tokss] at hs
    rcases List.mem_append.mp hs with e | e
    · exact toks_tok t h.1 s e
    · exact tokss_tok ts h.2 s e
end
mutual
theorem toks_len : ∀ t : Tree, (toks t).length ≤ 2 * tsz t
  | .int _ => by
    simp only [toks, tsz, List.length_cons, List.length_nil]
    decide
  | .name _ _ => by
    simp only [toks, tsz, List.length_cons, List.length_nil]
    decide
  | .list ts => by
    have := tokss_len ts
    simp only [toks, tsz, List.length_cons, List.length_append, List.length_nil]
    omega
theorem tokss_len : ∀ ts : List Tree, (tokss ts).length ≤ 2 * tszs ts
  | [] => Nat.le_refl _
  | t :: ts => by
    have := toks_len t
    have := tokss_len ts
    simp only [tokss, tszs, List.length_append]
    omega
end
mutual
theorem form_len : ∀ t : Tree, twf t → (form t).length + 1 ≤ 22 * tsz t
  | .int n, h => by
    simp only [twf] at h
    have := (int_ok h).2.1
    simp only [form, tsz]
    omega
  | .name s i, h => by
    simp only [twf] at h
    have := (name_ok h).2.1
    simp only [form, tsz]
    omega
  | .list ts, h => by
    simp only [twf] at h
    have := forms_len ts h
    simp only [form, tsz, List.length_cons, List.length_append, List.length_nil]
    omega
theorem forms_len : ∀ ts : List Tree, twfs ts → (joinSp (forms ts)).length ≤ 22 * tszs ts
  | [], _ => Nat.le_refl _
  | [t], h => by
    simp only [twfs] at h
    have := form_len t h.1
    simp only [forms, tszs, joinSp]
    omega
  | t :: u :: ts, h => by
    simp only [twfs] at h
    have q := forms_len (u :: ts) (by simp only [twfs]; exact h.2)
    have p := form_len t h.1
    have e : joinSp (forms (t :: u :: ts)) = form t ++ 32 :: joinSp (forms (u :: ts)) := by simp only [forms, joinSp]
    rw [e, List.length_append, List.length_cons]
    have e2 : tszs (t :: u :: ts) = tsz t + tszs (u :: ts) := by simp only [tszs]
    rw [e2]
    omega
end
end Sg

namespace Sg
open PySem PySem.Spec PyProof.Rows L2
section
variable {P : Program} {w : World} {K : PySem.W.Frag} {mg : Str → Option Value} {base : Heap}
def wordRows : List (List Nat) := [[43], [45], [42], [60], [61], [95], [46, 46, 46], [109, 97, 99, 114, 111], [105, 102]]
def spWord : Sp := fun vs H Q _ => ∃ (p c : Addr), vs = [.ref p] ∧ St p c H ∧ ∀ H' l, Kp p c H H' → St p c H' → isNameL l = true → Q (.str (S l)) H'
theorem scWord : FnScope ["state", "rest", "word", "k"] ["state"] (defScope sWord) := ⟨rfl, rfl, rfl, by decide +kernel, rfl, by decide +kernel, by decide +kernel⟩
def restL : List Nat := [97, 98, 99, 100, 101, 102, 103, 104, 105, 106, 107, 108, 109, 110, 111, 112, 113, 114, 115, 116, 117, 118, 119, 120, 121, 122, 48, 49, 50, 51, 52, 53, 54, 55, 56, 57]
theorem rest_eq : ("abcdefghijklmnopqrstuvwxyz0123456789" : Str) = S restL := by decide +kernel
theorem rest_at {r : Int} (h0 : 0 ≤ r) (h1 : r < 36) : ∃ c, atI restL r = some c ∧ (isLet c || isDig c) = true ∧ (r < 26 → isLet c = true) := by
  obtain ⟨n, rfl⟩ : ∃ n : Nat, r = n := ⟨r.toNat, by omega⟩
  have hn : n < 36 := by omega
  have key : ∀ m : Fin 36, (isLet restL[m.val] || isDig restL[m.val]) = true ∧ (m.val < 26 → isLet restL[m.val] = true) := by decide
  exact ⟨restL[n], atI_nat (List.getElem?_eq_getElem hn), (key ⟨n, hn⟩).1, fun z => (key ⟨n, hn⟩).2 (by show n < 26; omega)⟩
theorem S_snoc (l : List Nat) (c : Nat) : S l ++ (⟨#[c]⟩ : Str) = S (l ++ [c]) := str_ext (by
  show ((S l).cps ++ #[c]).toList = l ++ [c]
  rw [Array.toList_append]
  rfl)
theorem ok_word {f fD fK : Addr} {fd fdD fdK : FuncData} {k : Nat} (F : Fun K "_law_word" "_law_word" sWord f fd)
    (GD : FnOk P w K mg base CX0 k fD fdD ["state", "many"] spDraw) (bD : Binds K fdD ["state", "many"] []) (kD : PySem.W.keepIn K (.ref fD) = true) (mD : mg "_law_draw" = some (.ref fD))
    (GK : FnOk P w K mg base CX0 k fK fdK ["state", "row"] spPick) (bK : Binds K fdK ["state", "row"] []) (kK : PySem.W.keepIn K (.ref fK) = true) (mK : mg "_law_pick" = some (.ref fK))
    (mr : mg "range" = none) : FnOk P w K mg base CX0 (k + 1) f fd ["state"] spWord := by
  refine F.ok scWord (fun vs H Q E h => ?_) (fun cdv A outer st H vs Q E hr h => ?_)
  · obtain ⟨p, c, rfl, _⟩ := h
    rfl
  obtain ⟨p, c, rfl, S0, q⟩ := h
  refine ⟨_, pss_cons (ps_set (i := 1) scWord.nd rfl (.inl rfl) pe_str)
    (pss_cons (ps_if (pt_cmpR op_eq (pe_call GD hr (by rfl) mD kD bD .nil pass0 (pa_cons (pv 0) (pa_cons pe_int pa_nil))) pe_int (nomark _))
      (pss_one (ps_ret (pe_call GK hr (by rfl) mK kK bK .nil pass0 (pa_cons (pv 0) (pa_cons (pe_lst (pa_cons pe_str (pa_cons pe_str (pa_cons pe_str (pa_cons pe_str (pa_cons pe_str (pa_cons pe_str (pa_cons pe_str (pa_cons pe_str (pa_cons pe_str pa_nil)))))))))) pa_nil))))) pss_nil)
    (pss_cons (ps_set (i := 2) scWord.nd rfl (.inl rfl) (pe_ix ix_str (pv 1) (pe_call GD hr (by rfl) mD kD bD .nil pass0 (pa_cons (pv 0) (pa_cons pe_int pa_nil))) (fun _ _ => rfl)))
    (pss_cons (ps_for PassesOwn.never rfl (pi_range1 (by rfl) mr (pa_cons (pe_call GD hr (by rfl) mD kD bD .nil pass0 (pa_cons (pv 0) (pa_cons (pe_call GK hr (by rfl) mK kK bK .nil pass0 (pa_cons (pv 0) (pa_cons (pe_lst (pa_cons pe_int (pa_cons pe_int pa_nil))) pa_nil))) pa_nil))) pa_nil)) (pg_name (i := 3) scWord.nd rfl (.inl rfl))
      (pss_one (ps_set (i := 2) scWord.nd rfl (.inl rfl) (pe_op op_add_str (pv 2) (pe_ix ix_str (pv 1) (pe_call GD hr (by rfl) mD kD bD .nil pass0 (pa_cons (pv 0) (pa_cons pe_int pa_nil))) (fun _ _ => rfl))))))
    (pss_one (ps_ret (pv 2)))))), ?_⟩
  rw [rest_eq]
  refine ⟨_, rfl, p, c, 3, rfl, by decide, by decide, S0, fun H1 r1 kp1 S1 _ _ => ?_⟩
  refine ⟨rfl, _, rfl, ?_⟩
  by_cases z : r1 = 0
  · refine if_true_of (by simp [z]) ?_
    refine ⟨_, rfl, (by show 9 ≤ sizeLine; decide), fun b nb => ?_⟩
    have hrows : ([V.str "+", V.str "-", V.str "*", V.str "<", V.str "=", V.str "_", V.str "...", V.str "macro", V.str "if"] : List V) = wordRows.map fun l => V.str (S l) := by decide +kernel
    rw [hrows]
    have nbs := S1.new nb
    refine ⟨p, c, b, _, rfl, upd_same, nbs.1, nbs.2, by decide, by decide, S1.same (same_new nb _), fun H2 v kp2 S2 hv => ?_⟩
    obtain ⟨l, hl, rfl⟩ := List.mem_map.mp hv
    have key : ∀ l ∈ wordRows, isNameL l = true := by decide
    exact q H2 l ((kp1.trans (Same.kp (same_new nb _))).trans kp2) S2 (key l hl)
  · refine if_false_of (by simp [z]) ?_
    refine ⟨_, rfl, _, rfl, p, c, 26, rfl, by decide, by decide, S1, fun H2 r2 kp2 S2 a2 b2 => ?_⟩
    obtain ⟨c2, e2, _, l2⟩ := rest_at a2 (by omega)
    refine ⟨S restL, r2, c2, rfl, rfl, (by show 36 ≤ sizeLine; decide), e2, ?_⟩
    refine ⟨_, rfl, _, rfl, (by show 2 ≤ sizeLine; decide), fun b nb => ?_⟩
    have nbs := S2.new nb
    refine ⟨p, c, b, _, rfl, upd_same, nbs.1, nbs.2, by simp, by show 2 ≤ 1000; decide, S2.same (same_new nb _), fun H3 v kp3 S3 hv => ?_⟩
    obtain ⟨m, rfl, m0, m1⟩ : ∃ m : Int, v = .int m ∧ 0 < m ∧ m ≤ 20 := by
      rcases List.mem_cons.mp hv with e | e
      · exact ⟨3, e, by decide, by decide⟩
      · exact ⟨20, List.mem_singleton.mp e, by decide, by decide⟩
    have kpA : Kp p c H H3 := ((kp1.trans kp2).trans (Same.kp (same_new nb _))).trans kp3
    refine ⟨p, c, m, rfl, m0, by omega, S3, fun H4 r4 kp4 S4 a4 b4 => ⟨r4, rfl, by omega, by omega, ?_⟩⟩
    refine for_range (lo := 0) (n := r4.toNat) (fun i σ H' => ∃ (y : Option V) (l : List Nat), σ = [some (.ref p), some (.str (S restL)), some (.str (S l)), y] ∧ Kp p c H H' ∧ St p c H' ∧ l.length = i + 1 ∧ l.head? = some c2 ∧ l.all (fun c => isLet c || isDig c) = true)
      ⟨none, [c2], rfl, kpA.trans kp4, S4, rfl, rfl, by rw [List.all_cons, l2 b2]; rfl⟩ ?_ ?_
    · rintro i σ H' hi ⟨y, l, rfl, kp5, S5, hl, hh, ha⟩
      refine ⟨_, rfl, _, rfl, _, rfl, p, c, 36, rfl, by decide, by decide, S5, fun H6 r6 kp6 S6 a6 b6 => ?_⟩
      obtain ⟨c6, e6, l6, _⟩ := rest_at a6 b6
      refine ⟨S restL, r6, c6, rfl, rfl, (by show 36 ≤ sizeLine; decide), e6, ?_⟩
      refine ⟨_, _, rfl, rfl, ?_, ?_⟩
      · show l.length + 1 ≤ sizeLine
        exact small (by omega)
      rw [S_snoc]
      refine ⟨_, _, rfl, kp5.trans kp6, S6, by rw [List.length_append, hl]; rfl, ?_, ?_⟩
      · cases l with
        | nil => cases hh
        | cons a b => exact hh
      · rw [List.all_append, ha, List.all_cons, l6]
        rfl
    · rintro σ H' ⟨y, l, rfl, kp5, S5, hl, hh, ha⟩
      refine ⟨_, rfl, q H' l kp5 S5 ?_⟩
      unfold isNameL
      rw [ha, hh]
      have e1 : l.length ≤ 20 := by omega
      have e3 : ((some c2).map isLet).getD false = true := l2 b2
      rw [e3, decide_eq_true e1]
      simp
end
end Sg

namespace Sg
open PySem PySem.Spec PyProof.Rows L2
/-! ### what stands and is no list of before -/
def nl (H H' : Hp) : Hp := fun a => match H a with
  | some (.lst _) => none
  | _ => H' a
theorem nl_in {H H' : Hp} {a : Addr} {o : HO} (n : ∀ xs, H a ≠ some (.lst xs)) (h : H' a = some o) : nl H H' a = some o := by
  unfold nl
  split
  · rename_i xs e
    exact absurd e (n xs)
  · exact h
theorem nl_of {H H' : Hp} {a : Addr} {o : HO} (h : nl H H' a = some o) : (∀ xs, H a ≠ some (.lst xs)) ∧ H' a = some o := by
  unfold nl at h
  split at h
  · cases h
  · rename_i n
    exact ⟨fun xs e => n xs e, h⟩
theorem nl_new {H H' : Hp} {a : Addr} {o : HO} (n : H a = none) (h : H' a = some o) : nl H H' a = some o := nl_in (fun xs e => by rw [n] at e; cases e) h
/-- lists stay lists -/
def Ls (H H1 : Hp) : Prop := ∀ a xs, H a = some (.lst xs) → ∃ ys, H1 a = some (.lst ys)
theorem Ls.refl (H : Hp) : Ls H H := fun _ xs e => ⟨xs, e⟩
theorem Ls.trans {H H1 H2 : Hp} (a : Ls H H1) (b : Ls H1 H2) : Ls H H2 := fun x xs e => by
  obtain ⟨ys, q⟩ := a x xs e
  exact b x ys q
theorem Same.ls {H H1 : Hp} (a : Same H H1) : Ls H H1 := fun x xs e => ⟨xs, a _ _ e⟩
theorem nl_base {H H1 H' : Hp} (h : Ls H H1) : Same (nl H1 H') (nl H H') := fun b o q => by
  have z := nl_of q
  refine nl_in (fun xs e => ?_) z.2
  obtain ⟨ys, y⟩ := h b xs e
  exact z.1 ys y
theorem nl_grow {H H' H'' : Hp} (h : ∀ b o, (∀ xs, H b ≠ some (.lst xs)) → H' b = some o → H'' b = some o) : Same (nl H H') (nl H H'') := fun b o q => by
  have z := nl_of q
  exact nl_in z.1 (h b o z.1 z.2)
theorem nl_sub {H H' : Hp} : Same (nl H H') H' := fun _ _ q => (nl_of q).2
theorem nl_put {H H' : Hp} {D : Addr} {xs : List V} (h : H D = some (.lst xs)) (o : HO) : Same (nl H H') (nl H (upd H' D o)) := nl_grow fun b u n q => by
  rw [upd_ne (fun e => n xs (by rw [e]; exact h))]
  exact q
theorem nl_fresh {H H' : Hp} {t : Addr} (h : H' t = none) (o : HO) : Same (nl H H') (nl H (upd H' t o)) := nl_grow fun b u _ q => same_new h o b u q
theorem St.lsts {p c : Addr} {H : Hp} (s : St p c H) : (∃ xs, H p = some (.lst xs)) ∧ ∃ xs, H c = some (.lst xs) := by
  obtain ⟨xs, sd, s⟩ := s
  exact ⟨⟨_, s.hp⟩, ⟨_, s.hc⟩⟩
theorem Kp.nl {p c : Addr} {H H' H'' : Hp} (S : St p c H) (k : Kp p c H' H'') : Same (Sg.nl H H') (Sg.nl H H'') := nl_grow fun b o n q => by
  obtain ⟨⟨x1, e1⟩, ⟨x2, e2⟩⟩ := S.lsts
  exact k b o (fun z => n x1 (by rw [z]; exact e1)) (fun z => n x2 (by rw [z]; exact e2)) q
theorem Kp.ls {p c : Addr} {H H' : Hp} (k : Kp p c H H') (S' : St p c H') : Ls H H' := fun a xs e => by
  obtain ⟨⟨x1, e1⟩, ⟨x2, e2⟩⟩ := S'.lsts
  by_cases h1 : a = p
  · exact ⟨x1, by rw [h1]; exact e1⟩
  · by_cases h2 : a = c
    · exact ⟨x2, by rw [h2]; exact e2⟩
    · exact ⟨xs, k a _ h1 h2 e⟩
/-! ### _law_tree -/
def bnd : Nat → Nat
  | 0 => 1
  | r + 1 => 1 + 3 * bnd r
def chainT : Nat → Tree
  | 0 => .name [120] 0
  | i + 1 => .list [chainT i]
theorem chain_ok : ∀ i, twf (chainT i) ∧ tht (chainT i) = i ∧ tsz (chainT i) = i + 1
  | 0 => by
    simp only [chainT, twf, tht, tsz]
    decide
  | i + 1 => by
    have q := chain_ok i
    simp only [chainT, twf, tht, tsz, twfs, thts, tszs]
    refine ⟨⟨q.1, trivial⟩, ?_, ?_⟩
    · rw [q.2.1]
      omega
    · rw [q.2.2]
      omega
/-- n calls are left, r of them are needed -/
def spTree (n : Nat) : Sp := fun vs H Q _ => ∃ (p c : Addr) (d r : Nat), vs = [.ref p, .int (d : Nat)] ∧ d ≤ 30 ∧ (d = r ∨ (4 ≤ d ∧ r = 4)) ∧ r ≤ 4 ∧ r < n ∧ St p c H ∧
  ∀ H' t v, Kp p c H H' → St p c H' → UTreeAt (nl H H') t v → twf t → tht t ≤ d → tsz t ≤ bnd r → Q v H'
theorem scTree : FnScope ["state", "deep", "kind", "n", "tree", "k"] ["state", "deep"] (defScope sTree) := ⟨rfl, rfl, rfl, by decide +kernel, rfl, by decide +kernel, by decide +kernel⟩
theorem bnd_pos : ∀ r, 1 ≤ bnd r
  | 0 => Nat.le_refl _
  | r + 1 => Nat.le_add_right _ _
theorem tree_none {f : Addr} {fd : FuncData} {P : Program} {w : World} {K : PySem.W.Frag} {mg : Str → Option Value} {base : Heap} {k : Nat} : FnOk P w K mg base CX0 k f fd ["state", "deep"] (spTree 0) := by
  have no : ∀ vs H Q E, ¬ spTree 0 vs H Q E := fun vs H Q E h => by
    obtain ⟨p, c, d, r, _, _, _, _, h1, _⟩ := h
    omega
  exact ⟨fun vs H Q E h => absurd h (no vs H Q E), fun A outer s H args us vs Q E _ _ _ _ h => absurd h (no vs H Q E)⟩
section
variable {P : Program} {w : World} {K : PySem.W.Frag} {mg : Str → Option Value} {base : Heap}
theorem ok_tree {f fD fK fW : Addr} {fd fdD fdK fdW : FuncData} {k n : Nat} (F : Fun K "_law_tree" "_law_tree" sTree f fd)
    (G : FnOk P w K mg base CX0 k f fd ["state", "deep"] (spTree n)) (bF : Binds K fd ["state", "deep"] []) (mF : mg "_law_tree" = some (.ref f))
    (GD : FnOk P w K mg base CX0 k fD fdD ["state", "many"] spDraw) (bD : Binds K fdD ["state", "many"] []) (kD : PySem.W.keepIn K (.ref fD) = true) (mD : mg "_law_draw" = some (.ref fD))
    (GK : FnOk P w K mg base CX0 k fK fdK ["state", "row"] spPick) (bK : Binds K fdK ["state", "row"] []) (kK : PySem.W.keepIn K (.ref fK) = true) (mK : mg "_law_pick" = some (.ref fK))
    (GW : FnOk P w K mg base CX0 k fW fdW ["state"] spWord) (bW : Binds K fdW ["state"] []) (kW : PySem.W.keepIn K (.ref fW) = true) (mW : mg "_law_word" = some (.ref fW))
    (mr : mg "range" = none) (mi : mg "min" = none) : FnOk P w K mg base CX0 (k + 1) f fd ["state", "deep"] (spTree (n + 1)) := by
  refine F.ok scTree (fun vs H Q E h => ?_) (fun cdv A outer st H vs Q E hr h => ?_)
  · obtain ⟨p, c, d, r, rfl, _⟩ := h
    rfl
  obtain ⟨p, c, d, r, rfl, hd, hdr, hr4, hrn, S0, q⟩ := h
  refine ⟨_, pss_cons (ps_set (i := 2) scTree.nd rfl (.inl rfl) (pe_call GD hr (by rfl) mD kD bD .nil pass0 (pa_cons (pv 0) (pa_cons pe_int pa_nil))))
    (pss_cons (ps_if (pt_cmpR op_eq (pv 2) pe_int (nomark _))
      (pss_cons (ps_set (i := 3) scTree.nd rfl (.inl rfl) (pe_call GK hr (by rfl) mK kK bK .nil pass0 (pa_cons (pv 0) (pa_cons (pe_lst (pa_cons pe_int (pa_cons pe_int (pa_cons pe_int (pa_cons (pe_call GD hr (by rfl) mD kD bD .nil pass0 (pa_cons (pv 0) (pa_cons pe_int pa_nil))) pa_nil))))) pa_nil))))
      (pss_one (ps_ret (pe_tup (pa_cons pe_str (pa_cons (pe_call GK hr (by rfl) mK kK bK .nil pass0 (pa_cons (pv 0) (pa_cons (pe_lst (pa_cons (pv 3) (pa_cons (pe_op op_sub pe_int (pv 3)) pa_nil))) pa_nil))) pa_nil)))))) pss_nil)
    (pss_cons (ps_if (pw_or (pt_cmpR op_lt (pv 2) pe_int (nomark _)) (pw_or1 (pt_cmpR op_eq (pv 1) pe_int (nomark _)))).pt
      (pss_one (ps_ret (pe_tup (pa_cons pe_str (pa_cons (pe_call GW hr (by rfl) mW kW bW .nil pass0 (pa_cons (pv 0) pa_nil)) pa_nil))))) pss_nil)
    (Evl.pss_cut (ps_if (pw_and (pt_cmpR op_eq (pv 2) pe_int (nomark _)) (pw_and1 (pt_cmpR op_eq (pe_call GD hr (by rfl) mD kD bD .nil pass0 (pa_cons (pv 0) (pa_cons pe_int pa_nil))) pe_int (nomark _)))).pt
      (pss_cons (ps_set (i := 4) scTree.nd rfl (.inl rfl) (pe_tup (pa_cons pe_str (pa_cons pe_str pa_nil))))
      (pss_cons (ps_for PassesOwn.never rfl (pi_range1 (by rfl) mr (pa_cons (pe_call GD hr (by rfl) mD kD bD .nil pass0 (pa_cons (pv 0) (pa_cons (pe_op op_add (pv 1) pe_int) pa_nil))) pa_nil)) (pg_name (i := 5) scTree.nd rfl (.inl rfl))
        (pss_one (ps_set (i := 4) scTree.nd rfl (.inl rfl) (pe_tup (pa_cons pe_str (pa_cons (pe_lst (pa_cons (pv 4) pa_nil)) pa_nil))))))
      (pss_one (ps_ret (pv 4))))) pss_nil)
    (pss_one (ps_ret (pe_tup (pa_cons pe_str (pa_cons (pe_lc (own := [("k", 5)]) (g := gName 5) (tt := tYes) rfl scTree.nd (pi_range1 (by rfl) mr (pa_cons (pe_call GD hr (by rfl) mD kD bD .nil pass0 (pa_cons (pv 0) (pa_cons pe_int pa_nil))) pa_nil))
        (blkOk_by (N := ["state", "deep", "kind", "n", "tree", "k"]) (sc := defScope sTree) (by decide +kernel))
        (fun _ _ _ _ _ => pg_name (i := 5) scTree.nd rfl (Or.inl rfl)) (fun _ _ _ _ _ => pts_nil)
        (fun _ _ _ _ _ => pe_call G hr (by rfl) mF F.kp bF .nil pass0 (pa_cons (pv 0) (pa_cons (pe_callB (call_min2 rfl) (by rfl) mi boot_min (pa_cons (pe_op op_sub (pv 1) pe_int) (pa_cons pe_int pa_nil))) pa_nil)))) pa_nil)))))))), ?_⟩
  refine ⟨_, rfl, p, c, 5, rfl, by decide, by decide, S0, fun H1 kd kp1 S1 a1 b1 => ?_⟩
  refine ⟨_, rfl, rfl, _, rfl, ?_⟩
  by_cases z0 : kd = 0
  · refine if_true_of (by simp [z0]) ?_
    refine ⟨_, rfl, _, rfl, p, c, 1000000000, rfl, by decide, by decide, S1, fun H2 big kp2 S2 a2 b2 => ?_⟩
    refine ⟨by show 4 ≤ sizeLine; decide, fun b nb => ?_⟩
    have nbs := S2.new nb
    refine ⟨p, c, b, _, rfl, upd_same, nbs.1, nbs.2, by simp, by show 4 ≤ 1000; decide, S2.same (same_new nb _), fun H3 v kp3 S3 hv => ?_⟩
    obtain ⟨m, rfl, m0, m1⟩ : ∃ m : Int, v = .int m ∧ 0 ≤ m ∧ m ≤ 999999999 := by
      have z : v = .int 0 ∨ v = .int 7 ∨ v = .int 999999999 ∨ v = .int big := by simpa using hv
      rcases z with e | e | e | e
      · exact ⟨_, e, by decide, by decide⟩
      · exact ⟨_, e, by decide, by decide⟩
      · exact ⟨_, e, by decide, by decide⟩
      · exact ⟨_, e, a2, by omega⟩
    refine ⟨_, rfl, _, rfl, _, rfl, _, _, rfl, rfl, ?_⟩
    refine ⟨by show 2 ≤ sizeLine; decide, fun b2 nb2 => ?_⟩
    have nbs2 := S3.new nb2
    refine ⟨p, c, b2, _, rfl, upd_same, nbs2.1, nbs2.2, by simp, by show 2 ≤ 1000; decide, S3.same (same_new nb2 _), fun H4 v4 kp4 S4 hv4 => ?_⟩
    obtain ⟨m4, rfl, m5⟩ : ∃ m4 : Int, v4 = .int m4 ∧ m4.natAbs ≤ 999999999 := by
      have z : v4 = .int m ∨ v4 = .int (0 - m) := by simpa using hv4
      rcases z with e | e
      · exact ⟨_, e, by omega⟩
      · exact ⟨_, e, by omega⟩
    refine ⟨by show 2 ≤ sizeLine; decide, fun t nt => ?_⟩
    have kpA : Kp p c H H4 := (((((kp1.trans kp2).trans (Same.kp (same_new nb _))).trans kp3).trans (Same.kp (same_new nb2 _)))).trans kp4
    refine q _ (.int m4) _ (kpA.trans (Same.kp (same_new nt _))) (S4.same (same_new nt _)) ?_ m5 (Nat.zero_le _) (bnd_pos r)
    unfold UTreeAt
    exact ⟨t, rfl, nl_new (kpA.free S4 nt) upd_same⟩
  · refine if_false_of (by simp [z0]) ?_
    have wname : ∀ H4 t l, Kp p c H H4 → St p c H4 → H4 t = none → isNameL l = true → Q (.ref t) (upd H4 t (.tup [.str "name", .str (S l)])) := fun H4 t l kp S nt hl => by
      refine q _ (.name l 0) _ (kp.trans (Same.kp (same_new nt _))) (S.same (same_new nt _)) ?_ hl (Nat.zero_le _) (bnd_pos r)
      unfold UTreeAt
      exact ⟨t, rfl, nl_new (kp.free S nt) upd_same⟩
    have word : ∀ H4, Kp p c H H4 → St p c H4 → tRet (tTup (tCons (tC (.str "name")) (tCons (tCall spWord [] E0 (tCons (tVar 0) tNil)) tNil))) { nx := fun _ H' => Q .non H', rt := Q } [some (.ref p), some (.int (d : Nat)), some (.int kd), none, none, none] H4 := fun H4 kp S => by
      refine ⟨_, rfl, p, c, rfl, S, fun H5 l kp5 S5 hl => ?_⟩
      exact ⟨by show 2 ≤ sizeLine; decide, fun t nt => wname H5 t l (kp.trans kp5) S5 nt hl⟩
    refine ⟨_, rfl, _, _, rfl, rfl, _, rfl, ?_⟩
    by_cases z3 : kd < 3
    · refine if_true_of (decide_eq_true z3) ?_
      refine if_true_of rfl ?_
      exact word H1 kp1 S1
    · refine if_false_of (decide_eq_false z3) ?_
      refine ⟨_, rfl, rfl, _, rfl, ?_⟩
      by_cases zd : d = 0
      · refine if_true_of (by simp [zd]) ?_
        exact word H1 kp1 S1
      · refine if_false_of (by simp [zd]) ?_
        refine ⟨fun σ H2 => σ = [some (.ref p), some (.int (d : Nat)), some (.int kd), none, none, none] ∧ Kp p c H H2 ∧ St p c H2, ?_, ?_⟩
        · refine ⟨_, rfl, rfl, _, rfl, ?_⟩
          by_cases z4 : kd = 3
          · refine if_true_of (by simp [z4]) ?_
            refine ⟨_, rfl, p, c, 6, rfl, by decide, by decide, S1, fun H2 r2 kp2 S2 a2 b2 => ?_⟩
            refine ⟨rfl, _, rfl, ?_⟩
            by_cases z5 : r2 = 0
            · refine if_true_of (by simp [z5]) ?_
              refine ⟨by show 2 ≤ sizeLine; decide, fun t nt => ?_⟩
              have S2t : St p c (upd H2 t (.tup [.str "name", .str "x"])) := S2.same (same_new nt _)
              have kp2t : Kp p c H (upd H2 t (.tup [.str "name", .str "x"])) := (kp1.trans kp2).trans (Same.kp (same_new nt _))
              refine ⟨_, rfl, _, rfl, _, _, rfl, rfl, p, c, _, rfl, by omega, by omega, S2t, fun H3 r3 kp3 S3 a3 b3 => ⟨r3, rfl, by omega, by omega, ?_⟩⟩
              refine for_range (lo := 0) (n := r3.toNat) (fun i σ H' => ∃ (y : Option V) (v : V), σ = [some (.ref p), some (.int (d : Nat)), some (.int kd), none, some v, y] ∧ Kp p c H H' ∧ St p c H' ∧ UTreeAt (nl H H') (chainT i) v)
                ⟨none, _, rfl, kp2t.trans kp3, S3, ?_⟩ ?_ ?_
              · refine UTreeAt.same (kp3.nl S0) _ _ ?_
                show UTreeAt _ (.name [120] 0) _
                unfold UTreeAt
                refine ⟨t, rfl, nl_new ((kp1.trans kp2).free S2 nt) ?_⟩
                rw [upd_same]
                have e : ("x" : Str) = S [120] := by decide +kernel
                rw [e]
              · rintro i σ H' hi ⟨y, v, rfl, kp5, S5, u5⟩
                refine ⟨_, rfl, by show 1 ≤ sizeLine; decide, fun b nb => ⟨by show 2 ≤ sizeLine; decide, fun t2 nt2 => ?_⟩⟩
                have kb : Kp p c H (upd H' b (.lst [v])) := kp5.trans (Same.kp (same_new nb _))
                have Sb : St p c (upd H' b (.lst [v])) := S5.same (same_new nb _)
                have sm : Same (nl H (upd H' b (.lst [v]))) (nl H (upd (upd H' b (.lst [v])) t2 (.tup [.str "list", .ref b]))) := nl_fresh nt2 _
                refine ⟨_, _, rfl, kb.trans (Same.kp (same_new nt2 _)), Sb.same (same_new nt2 _), ?_⟩
                show UTreeAt _ (.list [chainT i]) _
                unfold UTreeAt
                refine ⟨t2, b, [v], rfl, nl_new (kb.free Sb nt2) upd_same, sm _ _ (nl_new (kp5.free S5 nb) upd_same), ?_⟩
                unfold UTreesAt
                exact ⟨v, [], rfl, UTreeAt.same ((nl_fresh nb _).trans sm) _ _ u5, UTreesAt.nil⟩
              · rintro σ H' ⟨y, v, rfl, kp5, S5, u5⟩
                have ch := chain_ok r3.toNat
                refine ⟨_, rfl, q H' _ v kp5 S5 u5 ch.1 (by omega) ?_⟩
                rw [ch.2.2]
                have hb : bnd 0 = 1 ∧ bnd 1 = 4 ∧ bnd 2 = 13 ∧ bnd 3 = 40 ∧ bnd 4 = 121 := by decide
                have hr' : r = 0 ∨ r = 1 ∨ r = 2 ∨ r = 3 ∨ r = 4 := by omega
                rcases hr' with e | e | e | e | e <;> subst e <;> omega
            · refine if_false_of (by simp [z5]) ?_
              exact ⟨rfl, kp1.trans kp2, S2⟩
          · refine if_false_of (by simp [z4]) ?_
            refine if_false_of rfl ?_
            exact ⟨rfl, kp1, S1⟩
        · rintro σ H2 ⟨rfl, kp2, S2⟩
          refine ⟨_, rfl, p, c, 4, rfl, by decide, by decide, S2, fun H3 r3 kp3 S3 a3 b3 => ⟨r3, rfl, by omega, by omega, fun D hD => ?_⟩⟩
          have kp23 := kp2.trans kp3
          have nD := S3.new hD
          have hDH := kp23.free S3 hD
          have r0 : 0 < r := by omega
          obtain ⟨r', rfl⟩ : ∃ r', r = r' + 1 := ⟨r - 1, by omega⟩
          have eH : (upd H3 D (.lst [])) D = some (.lst []) := upd_same
          have lsD : Ls H (upd H3 D (.lst [])) := (kp23.ls S3).trans (Same.ls (same_new hD _))
          obtain ⟨HD, hHD⟩ : ∃ HD, HD = upd H3 D (.lst []) := ⟨_, rfl⟩
          rw [← hHD] at eH lsD
          refine lc_range (lo := 0) (n := r3.toNat) (fun i H' => Kp p c H H' ∧ St p c H' ∧ Ls HD H' ∧ ∃ (ts : List Tree) (vs : List V), H' D = some (.lst vs) ∧ UTreesAt (nl HD H') ts vs ∧ ts.length = i ∧ twfs ts ∧ thts ts + 1 ≤ d ∧ tszs ts ≤ i * bnd r')
            ⟨kp23.trans (Same.kp (same_new hD _)), S3.same (same_new hD _), (show Ls HD (upd H3 D (.lst [])) from hHD ▸ Ls.refl _), [], [], upd_same, UTreesAt.nil, rfl, trivial, by show 0 + 1 ≤ d; omega, Nat.zero_le _⟩ ?_ ?_
          · rintro i H' hi ⟨kp5, S5, ls5, ts, vs, eD, ut, hl, hw, hh, hz⟩
            refine ⟨rfl, yes_k ?_⟩
            obtain ⟨d', hd', hdr'⟩ : ∃ d' : Nat, (if (3 : Int) < (d : Int) - 1 then (3 : Int) else (d : Int) - 1) = (d' : Nat) ∧ (d' = r' ∧ d' + 1 ≤ d) := by
              by_cases y : (3 : Int) < (d : Int) - 1
              · exact ⟨3, if_pos y, by omega, by omega⟩
              · exact ⟨d - 1, by rw [if_neg y]; omega, by omega, by omega⟩
            refine ⟨_, rfl, _, rfl, _, _, rfl, rfl, _, _, rfl, ?_⟩
            rw [hd']
            refine ⟨p, c, d', r', rfl, by omega, .inl hdr'.1, by omega, by omega, S5, fun H6 t v kp6 S6 u6 w6 h6 z6 => ?_⟩
            have eD6 := kp6 D _ nD.1 nD.2 eD
            refine ⟨vs, eD6, ?_, (kp5.trans kp6).mut hDH _, S6.put nD.1 nD.2 _, ?_, ts ++ [t], vs ++ [v], upd_same, ?_, by rw [List.length_append, hl]; rfl, twfs_app _ _ hw ⟨w6, trivial⟩, ?_, ?_⟩
            · rw [ut.len, hl]
              exact smallL (by omega)
            · intro a xs e
              obtain ⟨ys, y⟩ := (ls5.trans (kp6.ls S6)) a xs e
              by_cases z : a = D
              · exact ⟨_, by rw [z, upd_same]⟩
              · exact ⟨ys, by rw [upd_ne z]; exact y⟩
            · have sp : Same (nl HD H6) (nl HD (upd H6 D (.lst (vs ++ [v])))) := nl_put eH _
              have SD : St p c HD := by
                rw [hHD]
                exact S3.same (same_new hD _)
              refine UTreesAt.snoc (UTreeAt.same ((nl_base ls5).trans sp) _ _ u6) (UTreesAt.same ((kp6.nl SD).trans sp) _ _ ut)
            · rw [thts_app]
              simp only [thts]
              omega
            · rw [tszs_app]
              simp only [tszs]
              have e : (i + 1) * bnd r' = i * bnd r' + bnd r' := Nat.succ_mul _ _
              have e2 : d' = r' := hdr'.1
              omega
          · rintro H' ⟨kp5, S5, ls5, ts, vs, eD, ut, hl, hw, hh, hz⟩
            refine ⟨by show 2 ≤ sizeLine; decide, fun t nt => ?_⟩
            refine q _ (.list ts) _ (kp5.trans (Same.kp (same_new nt _))) (S5.same (same_new nt _)) ?_ hw (by show 1 + thts ts ≤ d; omega) ?_
            · unfold UTreeAt
              refine ⟨t, D, vs, rfl, nl_new (kp5.free S5 nt) upd_same, nl_new hDH (same_new nt _ _ _ eD), UTreesAt.same ((nl_base lsD).trans (nl_fresh nt _)) _ _ ut⟩
            · show 1 + tszs ts ≤ 1 + 3 * bnd r'
              have e : r3.toNat * bnd r' ≤ 3 * bnd r' := Nat.mul_le_mul_right _ (by omega)
              omega
end
end Sg

namespace Sg
open PySem PySem.Spec PyProof.Rows L2
/-! ### _law_counted -/
theorem str_ne {x y : Str} (h : x ≠ y) : decide (V.str x = V.str y) = false := decide_eq_false fun e => h (by injection e)
theorem str_eq {x : Str} : decide (V.str x = V.str x) = true := decide_eq_true rfl
theorem Kb.nl {bs : List Addr} {H H' H'' : Hp} (h : ∀ b ∈ bs, ∃ xs, H b = some (.lst xs)) (k : Kb bs H' H'') : Same (Sg.nl H H') (Sg.nl H H'') := nl_grow fun b o n q => k b o (fun z => by
  obtain ⟨xs, e⟩ := h b z
  exact n xs e) q
theorem Kb.ls {bs : List Addr} {H H' : Hp} (k : Kb bs H H') (h : ∀ b ∈ bs, ∃ xs, H' b = some (.lst xs)) : Ls H H' := fun a xs e => by
  by_cases z : a ∈ bs
  · exact h a z
  · exact ⟨xs, k a _ z e⟩
theorem Ls.put {H H' : Hp} {D : Addr} {xs : List V} (h : Ls H H') : Ls H (upd H' D (.lst xs)) := fun a ys e => by
  obtain ⟨zs, q⟩ := h a ys e
  by_cases z : a = D
  · exact ⟨xs, by rw [z, upd_same]⟩
  · exact ⟨zs, by rw [upd_ne z]; exact q⟩
/-- what stands at the entry and is not written -/
def Frz (bs : List Addr) (F H : Hp) : Prop := Same F H ∧ ∀ b ∈ bs, F b = none
theorem Frz.up {bs cs : List Addr} {F H H' : Hp} (f : Frz bs F H) (k : Kb cs H H') (h : ∀ b ∈ cs, F b = none) : Frz bs F H' := ⟨fun b o q => k b o (fun z => by rw [h b z] at q; cases q) (f.1 b o q), f.2⟩
def spCounted (n : Nat) : Sp := fun vs H Q _ => ∃ (F : Hp) (T : Tree) (v : V) (nm : Addr) (xs : List V), vs = [v, .ref nm] ∧ H nm = some (.lst xs) ∧ xs.length + tsz T ≤ 1000 ∧ Frz [nm] F H ∧ UTreeAt F T v ∧ tht T < n ∧
  ∀ H' v' zs, Kb [nm] H H' → H' nm = some (.lst zs) → zs.length = (cnt T xs.length).2 → TreeAt (nl H H') (cnt T xs.length).1 v' → Q v' H'
theorem scCounted : FnScope ["tree", "names", "item"] ["tree", "names"] (defScope sCounted) := ⟨rfl, rfl, rfl, by decide +kernel, rfl, by decide +kernel, by decide +kernel⟩
theorem counted_none {f : Addr} {fd : FuncData} {P : Program} {w : World} {K : PySem.W.Frag} {mg : Str → Option Value} {base : Heap} {k : Nat} : FnOk P w K mg base CX0 k f fd ["tree", "names"] (spCounted 0) := by
  have no : ∀ vs H Q E, ¬ spCounted 0 vs H Q E := fun vs H Q E h => by
    obtain ⟨F, T, v, nm, xs, _, _, _, _, _, h1, _⟩ := h
    omega
  exact ⟨fun vs H Q E h => absurd h (no vs H Q E), fun A outer s H args us vs Q E _ _ _ _ h => absurd h (no vs H Q E)⟩
section
variable {P : Program} {w : World} {K : PySem.W.Frag} {mg : Str → Option Value} {base : Heap}
theorem ok_counted {f : Addr} {fd : FuncData} {k n : Nat} (F : Fun K "_law_counted" "_law_counted" sCounted f fd)
    (G : FnOk P w K mg base CX0 k f fd ["tree", "names"] (spCounted n)) (bF : Binds K fd ["tree", "names"] []) (mF : mg "_law_counted" = some (.ref f)) (ml : mg "len" = none) : FnOk P w K mg base CX0 (k + 1) f fd ["tree", "names"] (spCounted (n + 1)) := by
  refine F.ok scCounted (fun vs H Q E h => ?_) (fun cdv A outer st H vs Q E hr h => ?_)
  · obtain ⟨F, T, v, nm, xs, rfl, _⟩ := h
    rfl
  obtain ⟨Fh, T, v, nm, xs, rfl, hnm, hsz, fz, ut, hht, q⟩ := h
  refine ⟨_, pss_cons (ps_if (pt_cmpR op_eq (pe_ix ix_tup (pv 0) pe_int (fun _ _ => rfl)) pe_str (nomark _)) (pss_one (ps_ret (pv 0))) pss_nil)
    (pss_cons (ps_if (pt_cmpR op_eq (pe_ix ix_tup (pv 0) pe_int (fun _ _ => rfl)) pe_str (nomark _))
      (pss_cons (ps_expr (pe_bm PySem.F.plainAttrs_list PySem.F.slot_list_append PySem.F.type_list_append mt_append (pv 1) (pa_cons (pe_ix ix_tup (pv 0) pe_int (fun _ _ => rfl)) pa_nil)))
      (pss_one (ps_ret (pe_tup (pa_cons pe_str (pa_cons (pe_ix ix_tup (pv 0) pe_int (fun _ _ => rfl)) (pa_cons (pe_op op_sub (pe_callB call_len_seq (by rfl) ml PySem.boot_len (pa_cons (pv 1) pa_nil)) pe_int) pa_nil))))))) pss_nil)
    (pss_one (ps_ret (pe_tup (pa_cons pe_str (pa_cons (pe_lc (own := [("item", 2)]) (g := gName 2) (tt := tYes) rfl scCounted.nd (pi_list (pe_ix ix_tup (pv 0) pe_int (fun _ _ => rfl)))
        (blkOk_by (N := ["tree", "names", "item"]) (sc := defScope sCounted) (by decide +kernel))
        (fun _ _ _ _ _ => pg_name (i := 2) scCounted.nd rfl (Or.inl rfl)) (fun _ _ _ _ _ => pts_nil)
        (fun _ _ _ _ _ => pe_call G hr (by rfl) mF F.kp bF .nil pass0 (pa_cons (pv 2) (pa_cons (pv 1) pa_nil)))) pa_nil)))))), ?_⟩
  have nmL : ∀ b ∈ [nm], ∃ xs, H b = some (.lst xs) := fun b hb => ⟨xs, by rw [List.mem_singleton.mp hb]; exact hnm⟩
  cases T with
  | int m =>
    unfold UTreeAt at ut
    obtain ⟨a, rfl, ea⟩ := ut
    have ea' := fz.1 _ _ ea
    refine ⟨_, rfl, a, _, 0, _, rfl, rfl, SqT.of ea', at0, rfl, _, rfl, ?_⟩
    refine if_true_of str_eq ?_
    refine ⟨_, rfl, q H _ xs (Kb.refl _ _) hnm rfl ?_⟩
    show TreeAt _ (.int m) _
    unfold TreeAt
    exact ⟨a, rfl, nl_in (fun xs e => by rw [ea'] at e; cases e) ea'⟩
  | name s i =>
    unfold UTreeAt at ut
    obtain ⟨a, rfl, ea⟩ := ut
    have ea' := fz.1 _ _ ea
    refine ⟨_, rfl, a, _, 0, _, rfl, rfl, SqT.of ea', at0, rfl, _, rfl, ?_⟩
    refine if_false_of (str_ne (by decide +kernel)) ?_
    refine ⟨_, rfl, a, _, 0, _, rfl, rfl, SqT.of ea', at0, rfl, _, rfl, ?_⟩
    refine if_true_of str_eq ?_
    simp only [tsz] at hsz
    have an : a ≠ nm := fun e => by
      rw [e, hnm] at ea'
      cases ea'
    refine ⟨.ref nm, rfl, .inl ⟨rfl, _, SqL.of hnm⟩, _, rfl, a, _, 1, _, rfl, rfl, SqT.of ea', at1, nm, _, _, rfl, rfl, hnm, smallL (by omega), ?_⟩
    refine ⟨_, rfl, a, _, 1, _, rfl, rfl, SqT.of (by rw [upd_ne an]; exact ea'), at1, ?_⟩
    refine ⟨_, rfl, nm, _, rfl, .inl (SqL.of upd_same), _, _, rfl, rfl, ?_⟩
    refine ⟨by show 3 ≤ sizeLine; decide, fun t nt => ?_⟩
    have tn : t ≠ nm := fun e => by
      rw [e, upd_same] at nt
      cases nt
    refine q _ _ (xs ++ [.str (S s)]) (((Kb.refl _ _).put List.mem_cons_self _).trans (Same.kb (same_new nt _))) (by rw [upd_ne (Ne.symm tn)]; exact upd_same) (by rw [List.length_append]; rfl) ?_
    show TreeAt _ (.name s xs.length) _
    unfold TreeAt
    have nt' : H t = none := by
      rw [upd_ne tn] at nt
      exact nt
    refine ⟨t, rfl, nl_new nt' ?_⟩
    rw [upd_same]
    have e : (((xs ++ [V.str (S s)]).length : Nat) : Int) - 1 = ((xs.length : Nat) : Int) := by
      rw [List.length_append]
      show ((xs.length + 1 : Nat) : Int) - 1 = _
      omega
    show some (HO.tup [V.str "name", V.str (S s), V.int ((((xs ++ [V.str (S s)]).length : Nat) : Int) - 1)]) = _
    rw [e]
  | list ts =>
    unfold UTreeAt at ut
    obtain ⟨a, l, vs, rfl, ea, el, uts⟩ := ut
    have ea' := fz.1 _ _ ea
    refine ⟨_, rfl, a, _, 0, _, rfl, rfl, SqT.of ea', at0, rfl, _, rfl, ?_⟩
    refine if_false_of (str_ne (by decide +kernel)) ?_
    refine ⟨_, rfl, a, _, 0, _, rfl, rfl, SqT.of ea', at0, rfl, _, rfl, ?_⟩
    refine if_false_of (str_ne (by decide +kernel)) ?_
    simp only [tsz] at hsz
    simp only [tht] at hht
    have lvs := uts.len
    have lts := len_tszs ts
    refine ⟨_, rfl, a, _, 1, _, rfl, rfl, SqT.of ea', at1, l, rfl, ⟨vs, SqL.of (fz.1 _ _ el)⟩, fun D hD => ?_⟩
    have Dn : D ≠ nm := fun e => by
      rw [e, hnm] at hD
      cases hD
    have FD : Fh D = none := by
      cases e : Fh D with
      | none => rfl
      | some o =>
        rw [fz.1 _ _ e] at hD
        cases hD
    obtain ⟨HD, hHD⟩ : ∃ HD, HD = upd H D (.lst []) := ⟨_, rfl⟩
    have smD : Same H HD := by
      rw [hHD]
      exact same_new hD _
    have eHD : HD D = some (.lst []) := by
      rw [hHD]
      exact upd_same
    have nmHD : ∀ b ∈ [nm], ∃ xs, HD b = some (.lst xs) := fun b hb => by
      rw [List.mem_singleton.mp hb]
      exact ⟨xs, smD _ _ hnm⟩
    refine lc_list (K := K) (a := l) (xs := vs) (fun i H' => Kb [nm] H H' ∧ Ls HD H' ∧ ∃ (ws zs : List V), H' D = some (.lst ws) ∧ H' nm = some (.lst zs) ∧ TreesAt (nl HD H') (cnts (ts.take i) xs.length).1 ws ∧ zs.length = (cnts (ts.take i) xs.length).2 ∧ ws.length = i ∧ i ≤ ts.length)
      ⟨Same.kb (same_new hD _), (show Ls HD (upd H D (.lst [])) from hHD ▸ Ls.refl _), [], xs, upd_same, same_new hD _ _ _ hnm, TreesAt.nil, rfl, rfl, Nat.zero_le _⟩ (fun i H' _ h' => SqL.of ((fz.up h'.1 fz.2).1 _ _ el)) ?_ ?_
    · rintro i x H' hx ⟨kb, ls, ws, zs, eD, en, ta, hz, hw, hi⟩
      refine ⟨rfl, yes_k ?_⟩
      obtain ⟨t, ht, ux⟩ := uts.get hx
      have tk1 : ts.take (i + 1) = ts.take i ++ [t] := by rw [List.take_add_one, ht]; rfl
      have b1 := cnts_tsz (ts.take i) xs.length
      have b2 : tszs (ts.take i) + tsz t ≤ tszs ts := by
        have e : ts = ts.take (i + 1) ++ ts.drop (i + 1) := (List.take_append_drop _ _).symm
        have e2 := congrArg tszs e
        rw [tszs_app, tk1, tszs_app] at e2
        simp only [tszs] at e2
        omega
      have hi' : i < ts.length := (List.getElem?_eq_some_iff.mp ht).1
      have fzn := fz.up kb fz.2
      refine ⟨_, rfl, _, rfl, Fh, t, x, nm, zs, rfl, en, by omega, fzn, ux, by have := thts_get ht; omega, fun H6 v6 zs6 kb6 en6 hz6 t6 => ?_⟩
      have eD6 := kb6 D _ (by simp [Dn]) eD
      have sp : Same (nl HD H6) (nl HD (upd H6 D (.lst (ws ++ [v6])))) := nl_put eHD _
      have ec : cnts (ts.take (i + 1)) xs.length = ((cnts (ts.take i) xs.length).1 ++ [(cnt t zs.length).1], (cnt t zs.length).2) := by
        rw [tk1, cnts_app, ← hz]
        rfl
      refine ⟨ws, eD6, by rw [hw]; exact smallL (by omega), (kb.trans kb6).new hD _, (ls.trans (kb6.ls fun b hb => ⟨zs6, by rw [List.mem_singleton.mp hb]; exact en6⟩)).put, ws ++ [v6], zs6, upd_same, by rw [upd_ne (Ne.symm Dn)]; exact en6, ?_, by rw [ec]; exact hz6, by rw [List.length_append, hw]; rfl, hi'⟩
      rw [ec]
      exact TreesAt.snoc (TreeAt.same ((nl_base ls).trans sp) _ _ t6) (TreesAt.same ((kb6.nl nmHD).trans sp) _ _ ta)
    · rintro H' ⟨kb, ls, ws, zs, eD, en, ta, hz, hw, hi⟩
      rw [lvs, List.take_length] at ta hz
      refine ⟨by show 2 ≤ sizeLine; decide, fun t nt => ?_⟩
      have tn : t ≠ nm := fun e => by
        rw [e, en] at nt
        cases nt
      refine q _ _ zs (kb.trans (Same.kb (same_new nt _))) (by rw [upd_ne (Ne.symm tn)]; exact en) hz ?_
      show TreeAt _ (.list (cnts ts xs.length).1) _
      unfold TreeAt
      have nt' : H t = none := kb.free (by simp [tn]) nt
      exact ⟨t, D, ws, rfl, nl_new nt' upd_same, nl_new hD (same_new nt _ _ _ eD), TreesAt.same ((nl_base (Same.ls smD)).trans (nl_fresh nt _)) _ _ ta⟩
end
end Sg

namespace Sg
open PySem PySem.Spec PyProof.Rows L2
/-! ### _law_tokens, _law_form -/
theorem join_sp : ∀ yl : List (List Nat), Txt.join (S [32]) (yl.map S) = S (joinSp yl) := fun yl => by
  have e := SX.join_S [32] yl
  have e2 : ∀ yl : List (List Nat), TL.joinL [32] yl = joinSp yl := by
    intro yl
    induction yl with
    | nil => rfl
    | cons x r ih =>
      cases r with
      | nil => rfl
      | cons y r =>
        show x ++ ([32] ++ TL.joinL [32] (y :: r)) = x ++ 32 :: joinSp (y :: r)
        rw [ih]
        rfl
  rw [← e2]
  exact e
theorem S_app (a b : List Nat) : S a ++ S b = S (a ++ b) := str_ext (by
  show ((S a).cps ++ (S b).cps).toList = a ++ b
  rw [Array.toList_append]
  rfl)
theorem int_log {n : Int} (h : n.natAbs ≤ 999999999) : n.natAbs.log2 < 1920 := Nat.lt_of_le_of_lt (Nat.log2_le_self _) (by omega) |> fun (_ : n.natAbs.log2 < 1000000000) => by
  by_cases z : n.natAbs = 0
  · rw [z]
    decide
  · have := Nat.log2_lt z (k := 30)
    have : n.natAbs.log2 < 30 := this.mpr (by omega)
    omega
theorem toString_S (n : Int) : (toString n : Str) = S (intL n) := (S_of _).symm
def spTokens (n : Nat) : Sp := fun vs H Q _ => ∃ (F : Hp) (T : Tree) (v : V), vs = [v] ∧ Same F H ∧ UTreeAt F T v ∧ twf T ∧ tht T < n ∧ tsz T ≤ 1000 ∧
  ∀ H' r, Same H H' → H r = none → H' r = some (.lst ((toks T).map fun l => V.str (S l))) → Q (.ref r) H'
theorem scTokens : FnScope ["tree", "tokens", "item"] ["tree"] (defScope sTokens) := ⟨rfl, rfl, rfl, by decide +kernel, rfl, by decide +kernel, by decide +kernel⟩
theorem tokens_none {f : Addr} {fd : FuncData} {P : Program} {w : World} {K : PySem.W.Frag} {mg : Str → Option Value} {base : Heap} {k : Nat} : FnOk P w K mg base CX0 k f fd ["tree"] (spTokens 0) := by
  have no : ∀ vs H Q E, ¬ spTokens 0 vs H Q E := fun vs H Q E h => by
    obtain ⟨F, T, v, _, _, _, _, h1, _⟩ := h
    omega
  exact ⟨fun vs H Q E h => absurd h (no vs H Q E), fun A outer s H args us vs Q E _ _ _ _ h => absurd h (no vs H Q E)⟩
def spForm (n : Nat) : Sp := fun vs H Q _ => ∃ (F : Hp) (T : Tree) (v : V), vs = [v] ∧ Same F H ∧ TreeAt F T v ∧ twf T ∧ tht T < n ∧ tsz T ≤ 1000 ∧ ∀ H', Same H H' → Q (.str (S (form T))) H'
theorem scForm : FnScope ["tree", "item"] ["tree"] (defScope sForm) := ⟨rfl, rfl, rfl, by decide +kernel, rfl, by decide +kernel, by decide +kernel⟩
theorem form_none {f : Addr} {fd : FuncData} {P : Program} {w : World} {K : PySem.W.Frag} {mg : Str → Option Value} {base : Heap} {k : Nat} : FnOk P w K mg base CX0 k f fd ["tree"] (spForm 0) := by
  have no : ∀ vs H Q E, ¬ spForm 0 vs H Q E := fun vs H Q E h => by
    obtain ⟨F, T, v, _, _, _, _, h1, _⟩ := h
    omega
  exact ⟨fun vs H Q E h => absurd h (no vs H Q E), fun A outer s H args us vs Q E _ _ _ _ h => absurd h (no vs H Q E)⟩
theorem forms_sum : ∀ ts : List Tree, twfs ts → ((forms ts).map fun l => (S l).length).sum + (forms ts).length ≤ 22 * tszs ts
  | [], _ => Nat.le_refl _
  | t :: ts, h => by
    simp only [twfs] at h
    have := forms_sum ts h.2
    have := form_len t h.1
    simp only [forms, tszs, List.map_cons, List.sum_cons, List.length_cons]
    have e : (S (form t)).length = (form t).length := rfl
    omega
theorem forms_take : ∀ {ts : List Tree} {i : Nat} {t : Tree}, ts[i]? = some t → forms (ts.take (i + 1)) = forms (ts.take i) ++ [form t]
  | [], i, t, e => by simp at e
  | u :: ts, 0, t, e => by
    cases e
    rfl
  | u :: ts, i + 1, t, e => by
    have := forms_take (ts := ts) (i := i) e
    show forms (u :: ts.take (i + 1)) = forms (u :: ts.take i) ++ _
    simp only [forms]
    rw [this]
    rfl
theorem forms_length : ∀ ts : List Tree, (forms ts).length = ts.length
  | [] => rfl
  | t :: ts => by
    simp only [forms, List.length_cons]
    rw [forms_length ts]
theorem tszs_take : ∀ (ts : List Tree) (i : Nat), tszs (ts.take i) ≤ tszs ts := fun ts i => by
  have e := congrArg tszs (List.take_append_drop i ts)
  rw [tszs_app] at e
  omega
section
variable {P : Program} {w : World} {K : PySem.W.Frag} {mg : Str → Option Value} {base : Heap}
theorem ok_tokens {f : Addr} {fd : FuncData} {k n : Nat} (F : Fun K "_law_tokens" "_law_tokens" sTokens f fd)
    (G : FnOk P w K mg base CX0 k f fd ["tree"] (spTokens n)) (bF : Binds K fd ["tree"] []) (mF : mg "_law_tokens" = some (.ref f)) (ms : mg "str" = none) : FnOk P w K mg base CX0 (k + 1) f fd ["tree"] (spTokens (n + 1)) := by
  refine F.ok scTokens (fun vs H Q E h => ?_) (fun cdv A outer st H vs Q E hr h => ?_)
  · obtain ⟨F, T, v, rfl, _⟩ := h
    rfl
  obtain ⟨Fh, T, v, rfl, sF, ut, hw, hht, hsz, q⟩ := h
  refine ⟨_, pss_cons (ps_if (pt_cmpR op_eq (pe_ix ix_tup (pv 0) pe_int (fun _ _ => rfl)) pe_str (nomark _))
      (pss_cons (ps_set (i := 1) scTokens.nd rfl (.inl rfl) (pe_lst (pa_cons pe_str pa_nil)))
      (pss_cons (ps_for PassesOwn.never rfl (pi_list (pe_ix ix_tup (pv 0) pe_int (fun _ _ => rfl))) (pg_name (i := 2) scTokens.nd rfl (.inl rfl))
        (pss_one (ps_set (i := 1) scTokens.nd rfl (.inl rfl) (pe_op op_cat (pv 1) (pe_call G hr (by rfl) mF F.kp bF .nil pass0 (pa_cons (pv 2) pa_nil))))))
      (pss_one (ps_ret (pe_op op_cat (pv 1) (pe_lst (pa_cons pe_str pa_nil))))))) pss_nil)
    (pss_one (ps_ret (pe_lst (pa_cons (pe_callTy (call_str_int.or SkE.call_str_str) (by rfl) ms PyProof.Rows.boot_str (pa_cons (pe_ix ix_tup (pv 0) pe_int (fun _ _ => rfl)) pa_nil)) pa_nil)))), ?_⟩
  cases T with
  | int m =>
    unfold UTreeAt at ut
    obtain ⟨a, rfl, ea⟩ := ut
    have ea' := sF _ _ ea
    refine ⟨_, rfl, a, _, 0, _, rfl, rfl, SqT.of ea', at0, rfl, _, rfl, ?_⟩
    refine if_false_of (str_ne (by decide +kernel)) ?_
    refine ⟨_, rfl, a, _, 1, _, rfl, rfl, SqT.of ea', at1, .inl ⟨_, rfl, int_log hw, by show 1 ≤ sizeLine; decide, fun t nt => ?_⟩⟩
    refine q _ t (same_new nt _) nt ?_
    rw [upd_same, toString_S]
    rfl
  | name s i =>
    unfold UTreeAt at ut
    obtain ⟨a, rfl, ea⟩ := ut
    have ea' := sF _ _ ea
    refine ⟨_, rfl, a, _, 0, _, rfl, rfl, SqT.of ea', at0, rfl, _, rfl, ?_⟩
    refine if_false_of (str_ne (by decide +kernel)) ?_
    refine ⟨_, rfl, a, _, 1, _, rfl, rfl, SqT.of ea', at1, .inr ⟨_, rfl, by show 1 ≤ sizeLine; decide, fun t nt => ?_⟩⟩
    refine q _ t (same_new nt _) nt ?_
    rw [upd_same]
    rfl
  | list ts =>
    unfold UTreeAt at ut
    obtain ⟨a, l, vs, rfl, ea, el, uts⟩ := ut
    have ea' := sF _ _ ea
    refine ⟨_, rfl, a, _, 0, _, rfl, rfl, SqT.of ea', at0, rfl, _, rfl, ?_⟩
    refine if_true_of str_eq ?_
    simp only [tsz] at hsz
    simp only [tht] at hht
    simp only [twf] at hw
    have lvs := uts.len
    have lts := len_tszs ts
    have e40 : ("(" : Str) = S [40] := by decide +kernel
    have e41 : (")" : Str) = S [41] := by decide +kernel
    rw [e40, e41]
    refine ⟨by show 1 ≤ sizeLine; decide, fun b nb => ?_⟩
    refine ⟨_, rfl, a, _, 1, _, rfl, rfl, SqT.of (same_new nb _ _ _ ea'), at1, l, rfl, ⟨vs, SqL.of (same_new nb _ _ _ (sF _ _ el))⟩, ?_⟩
    refine for_list (K := K) (a := l) (xs := vs) (fun i σ H' => ∃ (y : Option V) (b : Addr), σ = [some (.ref a), some (.ref b), y] ∧ Same H H' ∧ H b = none ∧ H' b = some (.lst (([40] :: tokss (ts.take i)).map fun l => V.str (S l))))
      ⟨none, b, rfl, same_new nb _, nb, upd_same⟩ (fun i σ H' _ ⟨_, _, _, sm, _⟩ => SqL.of (sm _ _ (sF _ _ el))) ?_ ?_
    · rintro i x σ H' hx ⟨y, b, rfl, sm, nb, eb⟩
      obtain ⟨t, ht, ux⟩ := uts.get hx
      have tk1 : ts.take (i + 1) = ts.take i ++ [t] := by rw [List.take_add_one, ht]; rfl
      have z1 := tszs_take ts i
      have z2 := tszs_take ts (i + 1)
      have z3 := tokss_len (ts.take i)
      have z4 := toks_len t
      have z5 := tszs_get ht
      refine ⟨_, rfl, _, rfl, Fh, t, x, rfl, sF.trans sm, ux, twfs_get hw ht, by have := thts_get ht; omega, by omega, fun H6 r sm6 nr er => ?_⟩
      refine ⟨b, r, _, _, rfl, rfl, sm6 _ _ eb, er, ?_, fun t2 nt2 => ?_⟩
      · rw [List.length_map, List.length_map, List.length_cons]
        exact small (by omega)
      have smA := sm.trans sm6
      refine ⟨_, t2, rfl, smA.trans (same_new nt2 _), smA.free nt2, ?_⟩
      rw [upd_same, tk1, tokss_app, ← List.map_append]
      simp only [tokss, List.append_nil, List.cons_append]
    · rintro σ H' ⟨y, b, rfl, sm, nb, eb⟩
      rw [lvs, List.take_length] at eb
      refine ⟨_, rfl, by show 1 ≤ sizeLine; decide, fun b2 nb2 => ?_⟩
      have z3 := tokss_len ts
      refine ⟨b, b2, _, _, rfl, rfl, same_new nb2 _ _ _ eb, upd_same, ?_, fun t2 nt2 => ?_⟩
      · rw [List.length_map, List.length_cons]
        show _ + 1 ≤ sizeLine
        exact small (by omega)
      have smA := sm.trans (same_new nb2 (.lst [V.str (S [41])]))
      refine q _ t2 (smA.trans (same_new nt2 _)) (smA.free nt2) ?_
      rw [upd_same]
      simp only [toks, List.map_append, List.map_cons, List.cons_append, List.map_nil]
theorem ok_form {f : Addr} {fd : FuncData} {k n : Nat} (F : Fun K "_law_form" "_law_form" sForm f fd)
    (G : FnOk P w K mg base CX0 k f fd ["tree"] (spForm n)) (bF : Binds K fd ["tree"] []) (mF : mg "_law_form" = some (.ref f)) (ms : mg "str" = none) : FnOk P w K mg base CX0 (k + 1) f fd ["tree"] (spForm (n + 1)) := by
  refine F.ok scForm (fun vs H Q E h => ?_) (fun cdv A outer st H vs Q E hr h => ?_)
  · obtain ⟨F, T, v, rfl, _⟩ := h
    rfl
  obtain ⟨Fh, T, v, rfl, sF, ut, hw, hht, hsz, q⟩ := h
  refine ⟨_, pss_cons (ps_if (pt_cmpR op_eq (pe_ix ix_tup (pv 0) pe_int (fun _ _ => rfl)) pe_str (nomark _))
      (pss_one (ps_ret (pe_op op_add_str (pe_op op_add_str pe_str (pe_join pe_str (pe_lc (own := [("item", 1)]) (g := gName 1) (tt := tYes) rfl scForm.nd (pi_list (pe_ix ix_tup (pv 0) pe_int (fun _ _ => rfl)))
        (blkOk_by (N := ["tree", "item"]) (sc := defScope sForm) (by decide +kernel))
        (fun _ _ _ _ _ => pg_name (i := 1) scForm.nd rfl (Or.inl rfl)) (fun _ _ _ _ _ => pts_nil)
        (fun _ _ _ _ _ => pe_call G hr (by rfl) mF F.kp bF .nil pass0 (pa_cons (pv 1) pa_nil))))) pe_str))) pss_nil)
    (pss_one (ps_ret (pe_callTy (call_str_int.or SkE.call_str_str) (by rfl) ms PyProof.Rows.boot_str (pa_cons (pe_ix ix_tup (pv 0) pe_int (fun _ _ => rfl)) pa_nil)))), ?_⟩
  cases T with
  | int m =>
    unfold TreeAt at ut
    obtain ⟨a, rfl, ea⟩ := ut
    have ea' := sF _ _ ea
    refine ⟨_, rfl, a, _, 0, _, rfl, rfl, SqT.of ea', at0, rfl, _, rfl, ?_⟩
    refine if_false_of (str_ne (by decide +kernel)) ?_
    refine ⟨_, rfl, a, _, 1, _, rfl, rfl, SqT.of ea', at1, .inl ⟨_, rfl, int_log hw, ?_⟩⟩
    rw [toString_S]
    exact q H (Same.refl H)
  | name s i =>
    unfold TreeAt at ut
    obtain ⟨a, rfl, ea⟩ := ut
    have ea' := sF _ _ ea
    refine ⟨_, rfl, a, _, 0, _, rfl, rfl, SqT.of ea', at0, rfl, _, rfl, ?_⟩
    refine if_false_of (str_ne (by decide +kernel)) ?_
    exact ⟨_, rfl, a, _, 1, _, rfl, rfl, SqT.of ea', at1, .inr ⟨_, rfl, q H (Same.refl H)⟩⟩
  | list ts =>
    unfold TreeAt at ut
    obtain ⟨a, l, vs, rfl, ea, el, uts⟩ := ut
    have ea' := sF _ _ ea
    refine ⟨_, rfl, a, _, 0, _, rfl, rfl, SqT.of ea', at0, rfl, _, rfl, ?_⟩
    refine if_true_of str_eq ?_
    simp only [tsz] at hsz
    simp only [tht] at hht
    simp only [twf] at hw
    have lvs := uts.len
    have lts := len_tszs ts
    have e40 : ("(" : Str) = S [40] := by decide +kernel
    have e41 : (")" : Str) = S [41] := by decide +kernel
    have e32 : (" " : Str) = S [32] := by decide +kernel
    rw [e40, e41, e32]
    refine ⟨⟨_, rfl⟩, _, rfl, a, _, 1, _, rfl, rfl, SqT.of ea', at1, l, rfl, ⟨vs, SqL.of (sF _ _ el)⟩, fun D hD => ?_⟩
    refine lc_list (K := K) (a := l) (xs := vs) (fun i H' => Same H H' ∧ H' D = some (.lst ((forms (ts.take i)).map fun l => V.str (S l))) ∧ i ≤ ts.length)
      ⟨same_new hD _, upd_same, Nat.zero_le _⟩ (fun i H' _ h' => SqL.of (h'.1 _ _ (sF _ _ el))) ?_ ?_
    · rintro i x H' hx ⟨sm, eD, hi⟩
      refine ⟨rfl, yes_k ?_⟩
      obtain ⟨t, ht, ux⟩ := uts.get hx
      have hi' : i < ts.length := (List.getElem?_eq_some_iff.mp ht).1
      refine ⟨_, rfl, Fh, t, x, rfl, sF.trans sm, ux, twfs_get hw ht, by have := thts_get ht; omega, by have := tszs_get ht; omega, fun H6 sm6 => ?_⟩
      refine ⟨_, sm6 _ _ eD, ?_, same_mut (sm.trans sm6) hD _, ?_, hi'⟩
      · rw [List.length_map, forms_length, List.length_take]
        exact smallL (by omega)
      · rw [upd_same, forms_take ht, List.map_append]
        rfl
    · rintro H' ⟨sm, eD, hi⟩
      rw [lvs, List.take_length] at eD
      have z1 := forms_sum ts hw
      have z2 := forms_len ts hw
      have f1 := forms_length ts
      refine ⟨_, D, (forms ts).map S, rfl, rfl, .inl (SqL.of (by rw [eD, List.map_map]; rfl)), ?_, ?_⟩
      · have e : (S [32]).length = 1 := rfl
        rw [List.map_map, List.length_map, e]
        show ((forms ts).map fun l => (S l).length).sum + (forms ts).length * 1 ≤ 16777216
        omega
      · rw [join_sp]
        refine ⟨_, _, rfl, rfl, ?_, _, _, rfl, rfl, ?_, ?_⟩
        · show 1 + (joinSp (forms ts)).length ≤ sizeLine
          exact small (by omega)
        · rw [S_app]
          show ([40] ++ joinSp (forms ts)).length + 1 ≤ sizeLine
          rw [List.length_append]
          show 1 + (joinSp (forms ts)).length + 1 ≤ sizeLine
          exact small (by omega)
        · rw [S_app, S_app]
          have e : [40] ++ joinSp (forms ts) ++ [41] = form (.list ts) := by
            simp only [form]
            rfl
          rw [e]
          exact q H' sm
end
end Sg

namespace Sg
open PySem PySem.Spec PyProof.Rows L2
/-! ### write -/
inductive Pt where
  | s (l : List Nat)
  | t (T : Tree)
def PtAt (F : Hp) : Pt → V → Prop
  | .s l, v => v = .str (S l)
  | .t T, v => TreeAt F T v
abbrev PtsAt (F : Hp) : List Pt → List V → Prop := Paired (PtAt F)
def render : Pt → List Nat
  | .s l => l
  | .t T => form T
def rests : List Pt → List Nat
  | [] => []
  | p :: r => render p ++ rests r
mutual
def pops : Tree → Nat
  | .int _ => 1
  | .name _ _ => 1
  | .list ts => 2 + popss ts
def popss : List Tree → Nat
  | [] => 0
  | t :: ts => pops t + 1 + popss ts
end
def ptw : Pt → Nat
  | .s _ => 1
  | .t T => pops T
def wts : List Pt → Nat
  | [] => 0
  | p :: r => ptw p + wts r
def PtOk : Pt → Prop
  | .s _ => True
  | .t T => twf T ∧ tsz T ≤ 1000
mutual
theorem pops_le : ∀ t : Tree, pops t + 1 ≤ 4 * tsz t
  | .int _ => by simp only [pops, tsz]; omega
  | .name _ _ => by simp only [pops, tsz]; omega
  | .list ts => by
    have := popss_le ts
    simp only [pops, tsz]
    omega
theorem popss_le : ∀ ts : List Tree, popss ts ≤ 4 * tszs ts
  | [] => Nat.le_refl _
  | t :: ts => by
    have := popss_le ts
    have := pops_le t
    simp only [popss, tszs]
    omega
end
theorem pops_pos : ∀ t : Tree, 1 ≤ pops t
  | .int _ => by simp only [pops]; omega
  | .name _ _ => by simp only [pops]; omega
  | .list ts => by simp only [pops]; omega
theorem wts_len : ∀ st : List Pt, st.length ≤ wts st
  | [] => Nat.le_refl _
  | .s l :: r => by
    have := wts_len r
    simp only [wts, ptw, List.length_cons]
    omega
  | .t T :: r => by
    have := wts_len r
    have := pops_pos T
    simp only [wts, ptw, List.length_cons]
    omega
theorem wts_app : ∀ a b : List Pt, wts (a ++ b) = wts a + wts b
  | [], b => by
    show wts b = 0 + wts b
    omega
  | p :: a, b => by
    show ptw p + wts (a ++ b) = ptw p + wts a + wts b
    rw [wts_app a b]
    omega
theorem rests_app : ∀ a b : List Pt, rests (a ++ b) = rests a ++ rests b
  | [], b => rfl
  | p :: a, b => by
    show render p ++ rests (a ++ b) = (render p ++ rests a) ++ rests b
    rw [rests_app a b, List.append_assoc]
def inter : List Tree → List Pt
  | [] => []
  | [t] => [.t t]
  | t :: u :: r => .t t :: .s [32] :: inter (u :: r)
def pre (ts : List Tree) (k : Nat) : List Pt := if k = ts.length then [] else (if 0 < k then [.s [32]] else []) ++ inter (ts.drop k)
theorem inter_cons {ts : List Tree} {k : Nat} {t : Tree} (h : ts[k]? = some t) : inter (ts.drop k) = .t t :: pre ts (k + 1) := by
  obtain ⟨hk, e⟩ := List.getElem?_eq_some_iff.mp h
  rw [List.drop_eq_getElem_cons hk, e]
  unfold pre
  by_cases z : k + 1 = ts.length
  · rw [if_pos z, z, List.drop_length]
    rfl
  · rw [if_neg z, if_pos (Nat.succ_pos _)]
    have hk1 : k + 1 < ts.length := by omega
    rw [List.drop_eq_getElem_cons hk1]
    rfl
theorem pre_step {ts : List Tree} {k : Nat} {t : Tree} (h : ts[k]? = some t) : pre ts k = (if 0 < k then [.s [32]] else []) ++ .t t :: pre ts (k + 1) := by
  obtain ⟨hk, e⟩ := List.getElem?_eq_some_iff.mp h
  rw [← inter_cons h]
  unfold pre
  rw [if_neg (by omega)]
theorem pre_zero (ts : List Tree) : pre ts 0 = inter ts := by
  unfold pre
  cases ts with
  | nil => rfl
  | cons t r =>
    rw [if_neg (by rw [List.length_cons]; omega), if_neg (by omega)]
    rfl
theorem pre_end (ts : List Tree) : pre ts ts.length = [] := if_pos rfl
theorem rests_inter : ∀ ts : List Tree, rests (inter ts) = joinSp (forms ts)
  | [] => rfl
  | [t] => by
    simp only [inter, rests, render, forms, joinSp, List.append_nil]
  | t :: u :: r => by
    have q := rests_inter (u :: r)
    have e : joinSp (forms (t :: u :: r)) = form t ++ 32 :: joinSp (forms (u :: r)) := by simp only [forms, joinSp]
    rw [e, ← q]
    rfl
theorem wts_inter : ∀ ts : List Tree, wts (inter ts) ≤ popss ts
  | [] => Nat.le_refl _
  | [t] => by
    simp only [inter, wts, ptw, popss]
    omega
  | t :: u :: r => by
    have q := wts_inter (u :: r)
    have e : popss (t :: u :: r) = pops t + 1 + popss (u :: r) := by simp only [popss]
    have e2 : wts (inter (t :: u :: r)) = pops t + (1 + wts (inter (u :: r))) := rfl
    rw [e, e2]
    omega
theorem popss_drop : ∀ (ts : List Tree) (k : Nat), popss (ts.drop k) ≤ popss ts
  | [], k => by
    rw [List.drop_nil]
    exact Nat.le_refl _
  | t :: ts, 0 => Nat.le_refl _
  | t :: ts, k + 1 => by
    have := popss_drop ts k
    show popss (ts.drop k) ≤ _
    simp only [popss]
    omega
theorem wts_pre (ts : List Tree) (k : Nat) : wts (pre ts k) ≤ popss ts + 1 := by
  unfold pre
  by_cases z : k = ts.length
  · rw [if_pos z]
    exact Nat.zero_le _
  · rw [if_neg z, wts_app]
    have h1 := wts_inter (ts.drop k)
    have h2 := popss_drop ts k
    by_cases y : 0 < k
    · rw [if_pos y]
      show 1 + 0 + wts (inter (ts.drop k)) ≤ _
      omega
    · rw [if_neg y]
      show 0 + wts (inter (ts.drop k)) ≤ _
      omega
theorem join_none : ∀ yl : List (List Nat), Txt.join (S []) (yl.map S) = S yl.flatten := fun yl => by
  have e := SX.join_S [] yl
  have e2 : ∀ yl : List (List Nat), TL.joinL [] yl = yl.flatten := by
    intro yl
    induction yl with
    | nil => rfl
    | cons x r ih =>
      cases r with
      | nil =>
        show x = (x :: []).flatten
        simp
      | cons y r =>
        show x ++ ([] ++ TL.joinL [] (y :: r)) = x ++ (y :: r).flatten
        rw [ih]
        rfl
  rw [← e2]
  exact e
theorem flat_sum : ∀ yl : List (List Nat), ((yl.map S).map (·.length)).sum = yl.flatten.length
  | [] => rfl
  | y :: r => by
    rw [List.map_cons, List.map_cons, List.sum_cons, flat_sum r, List.flatten_cons, List.length_append]
    rfl
theorem PtsAt.len {F : Hp} {st : List Pt} {vs : List V} (h : PtsAt F st vs) : vs.length = st.length := (Paired.length h).symm
def spWrite : Sp := fun vs H Q _ => ∃ (F : Hp) (T : Tree) (v : V), vs = [v] ∧ Same F H ∧ TreeAt F T v ∧ twf T ∧ tsz T ≤ 1000 ∧ ∀ H', Same H H' → Q (.str (S (form T))) H'
theorem scWrite : FnScope ["tree", "out", "waiting", "part", "at", "item"] ["tree"] (defScope sWrite) := ⟨rfl, rfl, rfl, by decide +kernel, rfl, by decide +kernel, by decide +kernel⟩
section
variable {P : Program} {w : World} {K : PySem.W.Frag} {mg : Str → Option Value} {base : Heap}
theorem ok_write {f : Addr} {fd : FuncData} {k : Nat} (F : Fun K "write" "write" sWrite f fd) (mI : mg "isinstance" = none) (ms : mg "str" = none) (mr : mg "reversed" = none) (mL : mg "list" = none) (me : mg "enumerate" = none)
    (q1 : PySem.W.kitOne K (.type "str") (.type "str") = some true) (q2 : PySem.W.kitOne K (.type "tuple") (.type "str") = some false) : FnOk P w K mg base CX0 (k + 1) f fd ["tree"] spWrite := by
  refine F.ok scWrite (fun vs H Q E h => ?_) (fun cdv A outer st H vs Q E hr h => ?_)
  · obtain ⟨F, T, v, rfl, _⟩ := h
    rfl
  obtain ⟨Fh, T0, v0, rfl, sF, ut, hw0, hz0, q⟩ := h
  refine ⟨_, pss_cons (ps_set (i := 1) scWrite.nd rfl (.inl rfl) (pe_lst pa_nil))
    (pss_cons (ps_set (i := 2) scWrite.nd rfl (.inl rfl) (pe_lst (pa_cons (pv 0) pa_nil)))
    (pss_cons (ps_while PassesOwn.never (pt_truth (pv 2) (fun _ => by rfl))
      (pss_cons (ps_set (i := 3) scWrite.nd rfl (.inl rfl) (pe_bm0 PySem.F.plainAttrs_list PySem.F.slot_list_pop PySem.F.type_list_pop mt_pop (pv 2)))
      (pss_one (ps_if (pt_val (pe_callB call_isi (by rfl) mI boot_isinstance (pa_cons (pv 3) (pa_cons (pe_bltn (v := .ty "str") (by rfl) ms PyProof.Rows.boot_str rfl) pa_nil))))
        (pss_one (ps_expr (pe_bm PySem.F.plainAttrs_list PySem.F.slot_list_append PySem.F.type_list_append mt_append (pv 1) (pa_cons (pv 3) pa_nil))))
        (pss_one (ps_if (pt_cmpR op_eq (pe_ix ix_tup (pv 3) pe_int (fun _ _ => rfl)) pe_str (nomark _))
          (pss_cons (ps_expr (pe_bm PySem.F.plainAttrs_list PySem.F.slot_list_append PySem.F.type_list_append mt_append (pv 1) (pa_cons pe_str pa_nil)))
          (pss_cons (ps_expr (pe_bm PySem.F.plainAttrs_list PySem.F.slot_list_append PySem.F.type_list_append mt_append (pv 2) (pa_cons pe_str pa_nil)))
          (pss_one (ps_for PassesOwn.never rfl (RT.pi_revA (by rfl) mr (pe_listEnum rfl (by rfl) mL (by rfl) me (pa_cons (pe_ix ix_tup (pv 3) pe_int (fun _ _ => rfl)) pa_nil))) (pg_tup rfl (pgs_cons (pg_name (i := 4) scWrite.nd rfl (.inl rfl)) (pgs_cons (pg_name (i := 5) scWrite.nd rfl (.inl rfl)) pgs_nil)))
            (pss_cons (ps_expr (pe_bm PySem.F.plainAttrs_list PySem.F.slot_list_append PySem.F.type_list_append mt_append (pv 2) (pa_cons (pv 5) pa_nil)))
            (pss_one (ps_if (pt_cmpR op_gt (pv 4) pe_int (nomark _)) (pss_one (ps_expr (pe_bm PySem.F.plainAttrs_list PySem.F.slot_list_append PySem.F.type_list_append mt_append (pv 2) (pa_cons pe_str pa_nil)))) pss_nil)))))))
          (pss_one (ps_expr (pe_bm PySem.F.plainAttrs_list PySem.F.slot_list_append PySem.F.type_list_append mt_append (pv 1) (pa_cons (pe_callTy (call_str_int.or SkE.call_str_str) (by rfl) ms PyProof.Rows.boot_str (pa_cons (pe_ix ix_tup (pv 3) pe_int (fun _ _ => rfl)) pa_nil)) pa_nil))))))))))
    (pss_one (ps_ret (pe_join pe_str (pv 1)))))), ?_⟩
  refine ⟨Nat.zero_le _, fun o no => ?_⟩
  refine ⟨_, rfl, by show 1 ≤ sizeLine; decide, fun u nu => ?_⟩
  have uo : u ≠ o := fun e => by
    rw [e, upd_same] at nu
    cases nu
  have nu' : H u = none := by
    rw [upd_ne uo] at nu
    exact nu
  have ou : o ≠ u := Ne.symm uo
  refine ⟨fun n σ H' => ∃ (st : List Pt) (vs : List V) (os : List (List Nat)) (y3 y4 y5 : Option V), σ = [some v0, some (.ref o), some (.ref u), y3, y4, y5] ∧ Same H H' ∧ H' o = some (.lst (os.map fun l => V.str (S l))) ∧ H' u = some (.lst vs.reverse) ∧
    PtsAt Fh st vs ∧ (∀ p ∈ st, PtOk p) ∧ os.flatten ++ rests st = form T0 ∧ n = wts st ∧ os.length + wts st ≤ 4000, ⟨_, [.t T0], [v0], [], none, none, none, rfl, (same_new no _).trans (same_new nu _), ?_, upd_same, .cons ut .nil, ?_, ?_, rfl, ?_⟩, ?_⟩
  · rw [upd_ne ou]
    exact upd_same
  · intro p hp
    rw [List.mem_singleton.mp hp]
    exact ⟨hw0, hz0⟩
  · show [] ++ (form T0 ++ []) = _
    simp
  · have := pops_le T0
    show 0 + (pops T0 + 0) ≤ 4000
    omega
  rintro n σ H1 ⟨st, vs, os, y3, y4, y5, rfl, sm, eo, eu, pa, po, hf, rfl, hb⟩
  have lv := pa.len
  have lw := wts_len st
  refine ⟨_, rfl, _, .inl ⟨_, SqL.of eu, rfl⟩, ?_⟩
  cases pa with
  | nil =>
    refine if_false_of (by simp) ?_
    have e0 : ("" : Str) = S [] := by decide +kernel
    rw [e0]
    have hf' : os.flatten = form T0 := by
      rw [← hf]
      show os.flatten = os.flatten ++ []
      rw [List.append_nil]
    refine ⟨⟨_, rfl⟩, _, rfl, _, o, os.map S, rfl, rfl, .inl (SqL.of (by rw [eo, List.map_map]; rfl)), ?_, ?_⟩
    · have z := form_len T0 hw0
      rw [flat_sum, hf']
      show _ + _ * 0 ≤ _
      omega
    · rw [join_none, hf']
      exact q H1 sm
  | @cons p x st vs hp pa =>
    refine if_true_of (by simp) ?_
    have pok := po p List.mem_cons_self
    have po' : ∀ p ∈ st, PtOk p := fun r hr => po r (List.mem_cons_of_mem _ hr)
    have hrev : (x :: vs).reverse.dropLast = vs.reverse := by simp
    refine ⟨_, fun _ _ z => z, ?_⟩
    refine ⟨_, rfl, .inl ⟨rfl, _, SqL.of eu⟩, u, _, x, rfl, rfl, eu, by simp, ?_⟩
    rw [hrev]
    have sm2 : Same H (upd H1 u (.lst vs.reverse)) := same_mut sm nu' _
    have eo2 : (upd H1 u (.lst vs.reverse)) o = some (.lst (os.map fun l => V.str (S l))) := by
      rw [upd_ne ou]
      exact eo
    have eu2 : (upd H1 u (.lst vs.reverse)) u = some (.lst vs.reverse) := upd_same
    generalize upd H1 u (.lst vs.reverse) = H2 at sm2 eo2 eu2
    have lo : (os.map fun l => V.str (S l)).length = os.length := List.length_map _
    have leaf : ∀ (H' : Hp) (l : List Nat) (y4' y5' : Option V), H' = upd H2 o (.lst ((os.map fun l => V.str (S l)) ++ [.str (S l)])) → render p = l → ∃ n', n' < wts (p :: st) ∧ ∃ (st : List Pt) (vs : List V) (os : List (List Nat)) (y3 y4 y5 : Option V), [some v0, some (.ref o), some (.ref u), some x, y4', y5'] = [some v0, some (.ref o), some (.ref u), y3, y4, y5] ∧ Same H H' ∧ H' o = some (.lst (os.map fun l => V.str (S l))) ∧ H' u = some (.lst vs.reverse) ∧
        PtsAt Fh st vs ∧ (∀ p ∈ st, PtOk p) ∧ os.flatten ++ rests st = form T0 ∧ n' = wts st ∧ os.length + wts st ≤ 4000 := by
      rintro H' l y4' y5' rfl hl
      have pos : 1 ≤ ptw p := by
        cases p with
        | s l => exact Nat.le_refl _
        | t T => exact pops_pos T
      have ew : wts (p :: st) = ptw p + wts st := rfl
      refine ⟨wts st, by omega, st, vs, os ++ [l], _, _, _, rfl, same_mut sm2 no _, ?_, ?_, pa, po', ?_, rfl, ?_⟩
      · rw [upd_same, List.map_append]
        rfl
      · rw [upd_ne uo]
        exact eu2
      · rw [← hf, List.flatten_append, List.append_assoc, ← hl]
        show _ = os.flatten ++ (render p ++ rests st)
        simp
      · rw [List.length_append]
        show os.length + 1 + wts st ≤ 4000
        omega
    cases p with
    | s l =>
      have ex : x = .str (S l) := hp
      subst ex
      refine ⟨_, rfl, .str (S l), .ty "str", _, _, true, rfl, .ty "str", .base (.str _), q1, ?_⟩
      refine ⟨_, rfl, ?_⟩
      refine if_true_of rfl ?_
      refine ⟨.ref o, rfl, .inl ⟨rfl, _, SqL.of eo2⟩, _, rfl, o, _, _, rfl, rfl, eo2, smallL (by omega), ?_⟩
      exact leaf _ l _ _ rfl rfl
    | t T =>
      have hT : TreeAt Fh T x := hp
      cases T with
      | int m =>
        unfold TreeAt at hT
        obtain ⟨a, rfl, ea⟩ := hT
        have ea' := sm2 _ _ (sF _ _ ea)
        refine ⟨_, rfl, .ref a, .ty "str", _, _, false, rfl, .ty "str", .base (.tup ea'), q2, ?_⟩
        refine ⟨_, rfl, ?_⟩
        refine if_false_of rfl ?_
        refine ⟨_, rfl, a, _, 0, _, rfl, rfl, SqT.of ea', at0, rfl, _, rfl, ?_⟩
        refine if_false_of (str_ne (by decide +kernel)) ?_
        refine ⟨.ref o, rfl, .inl ⟨rfl, _, SqL.of eo2⟩, _, rfl, a, _, 1, _, rfl, rfl, SqT.of ea', at1, .inl ⟨_, rfl, int_log pok.1, o, _, _, rfl, rfl, eo2, smallL (by omega), ?_⟩⟩
        rw [toString_S]
        exact leaf _ _ _ _ rfl rfl
      | name s i =>
        unfold TreeAt at hT
        obtain ⟨a, rfl, ea⟩ := hT
        have ea' := sm2 _ _ (sF _ _ ea)
        refine ⟨_, rfl, .ref a, .ty "str", _, _, false, rfl, .ty "str", .base (.tup ea'), q2, ?_⟩
        refine ⟨_, rfl, ?_⟩
        refine if_false_of rfl ?_
        refine ⟨_, rfl, a, _, 0, _, rfl, rfl, SqT.of ea', at0, rfl, _, rfl, ?_⟩
        refine if_false_of (str_ne (by decide +kernel)) ?_
        refine ⟨.ref o, rfl, .inl ⟨rfl, _, SqL.of eo2⟩, _, rfl, a, _, 1, _, rfl, rfl, SqT.of ea', at1, .inr ⟨_, rfl, o, _, _, rfl, rfl, eo2, smallL (by omega), ?_⟩⟩
        exact leaf _ _ _ _ rfl rfl
      | list ts =>
        unfold TreeAt at hT
        obtain ⟨a, l, xs, rfl, ea, el, uts⟩ := hT
        have ea' := sm2 _ _ (sF _ _ ea)
        refine ⟨_, rfl, .ref a, .ty "str", _, _, false, rfl, .ty "str", .base (.tup ea'), q2, ?_⟩
        refine ⟨_, rfl, ?_⟩
        refine if_false_of rfl ?_
        refine ⟨_, rfl, a, _, 0, _, rfl, rfl, SqT.of ea', at0, rfl, _, rfl, ?_⟩
        refine if_true_of str_eq ?_
        simp only [PtOk, twf, tsz] at pok
        have lxs := uts.len
        have lts := len_tszs ts
        have ppl := popss_le ts
        have ew : wts (.t (.list ts) :: st) = 2 + popss ts + wts st := by
          show pops (.list ts) + wts st = _
          simp only [pops]
        have lst' := wts_len st
        have lvs := PtsAt.len pa
        have e40 : ("(" : Str) = S [40] := by decide +kernel
        have e41 : (")" : Str) = S [41] := by decide +kernel
        have e32 : (" " : Str) = S [32] := by decide +kernel
        rw [e40, e41, e32]
        refine ⟨.ref o, rfl, .inl ⟨rfl, _, SqL.of eo2⟩, o, _, _, rfl, rfl, eo2, smallL (by omega), ?_⟩
        have sm3 : Same H (upd H2 o (.lst ((os.map fun l => V.str (S l)) ++ [.str (S [40])]))) := same_mut sm2 no _
        have eo3 : (upd H2 o (.lst ((os.map fun l => V.str (S l)) ++ [.str (S [40])]))) o = some (.lst ((os ++ [[40]]).map fun l => V.str (S l))) := by
          rw [upd_same, List.map_append]
          rfl
        have eu3 : (upd H2 o (.lst ((os.map fun l => V.str (S l)) ++ [.str (S [40])]))) u = some (.lst vs.reverse) := by
          rw [upd_ne uo]
          exact eu2
        generalize upd H2 o (.lst ((os.map fun l => V.str (S l)) ++ [.str (S [40])])) = H3 at sm3 eo3 eu3
        refine ⟨.ref u, rfl, .inl ⟨rfl, _, SqL.of eu3⟩, u, _, _, rfl, rfl, eu3, smallL (by rw [List.length_reverse]; omega), ?_⟩
        have sm4 : Same H (upd H3 u (.lst (vs.reverse ++ [.str (S [41])]))) := same_mut sm3 nu' _
        have eo4 : (upd H3 u (.lst (vs.reverse ++ [.str (S [41])]))) o = some (.lst ((os ++ [[40]]).map fun l => V.str (S l))) := by
          rw [upd_ne ou]
          exact eo3
        have eu4 : (upd H3 u (.lst (vs.reverse ++ [.str (S [41])]))) u = some (.lst (V.str (S [41]) :: vs).reverse) := by
          rw [upd_same, List.reverse_cons]
        generalize upd H3 u (.lst (vs.reverse ++ [.str (S [41])])) = H4 at sm4 eo4 eu4
        refine ⟨_, rfl, a, _, 1, _, rfl, rfl, SqT.of (sm4 _ _ (sF _ _ ea)), at1, l, xs, rfl, SqL.of (sm4 _ _ (sF _ _ el)), fun p as H5 np nl nd fr eH5 => ?_⟩
        have sm45 : Same H4 H5 := fun b z y => by
          rw [eH5, upd_ne (ne_of_none y np), layT_ne (fun w => by rw [(fr b w).1] at y; cases y)]
          exact y
        have ep : H5 p = some (.lst (as.map V.ref)) := by
          rw [eH5]
          exact upd_same
        have eat : ∀ (j : Nat) (b : Addr) (y : V), as[j]? = some b → xs[j]? = some y → H5 b = some (.tup [.int (j : Nat), y]) := fun j b y h1 h2 => by
          have hm : b ∈ as := List.mem_of_getElem? h1
          rw [eH5, upd_ne (fr b hm).2, layT_at nd h1 h2, Nat.zero_add]
        have eo5 := sm45 _ _ eo4
        have eu5 := sm45 _ _ eu4
        have pu : p ≠ u := fun e => by
          rw [e, eu4] at np
          cases np
        have po2 : p ≠ o := fun e => by
          rw [e, eo4] at np
          cases np
        have nau : ∀ b ∈ as, b ≠ u := fun b hb e => by
          have z := (fr b hb).1
          rw [e, eu4] at z
          cases z
        have lap : (as.map V.ref).length = ts.length := by rw [List.length_map, nl, lxs]
        have sm5 := sm4.trans sm45
        refine ⟨p, as.map V.ref, rfl, .inl ⟨SqL.of ep, ?_⟩⟩
        refine for_it (walk_rev (xs := as.map V.ref)) (fun i σ H' => ∃ (us : List V) (y4 y5 : Option V), σ = [some v0, some (.ref o), some (.ref u), some (.ref a), y4, y5] ∧ Kb [u] H5 H' ∧ H' u = some (.lst us.reverse) ∧ PtsAt Fh (pre ts (ts.length - i) ++ .s [41] :: st) us ∧ i ≤ ts.length)
          ⟨V.str (S [41]) :: vs, _, _, rfl, Kb.refl _ _, eu5, by rw [Nat.sub_zero, pre_end]; exact .cons rfl pa, Nat.zero_le _⟩ (fun i σ H' _ ⟨_, _, _, _, kb, _⟩ => SqL.of (kb p _ (by simp [pu]) ep)) ?_ ?_
        · rintro i x σ H6 H7 hi ⟨us, y4', y5', rfl, kb, eu6, pa6, hil⟩ ⟨rfl, hx⟩
          rw [lap] at hi hx
          obtain ⟨kk, hkk⟩ : ∃ kk, kk = ts.length - 1 - i := ⟨_, rfl⟩
          rw [← hkk] at hx
          have hk1 : ts.length - i = kk + 1 := by omega
          have hk2 : ts.length - (i + 1) = kk := by omega
          obtain ⟨b, hb, rfl⟩ := get_map hx
          have hkl : kk < xs.length := by omega
          have hxk : xs[kk]? = some xs[kk] := List.getElem?_eq_getElem hkl
          generalize xs[kk] = y at hxk
          obtain ⟨t, ht, uy⟩ := uts.get hxk
          have eb := kb b _ (by simp [nau b (List.mem_of_getElem? hb)]) (eat kk b y hb hxk)
          rw [hk1] at pa6
          have lus := PtsAt.len pa6
          have w6 := wts_len (pre ts (kk + 1) ++ .s [41] :: st)
          rw [wts_app] at w6
          have w7 := wts_pre ts (kk + 1)
          have w8 : wts (.s [41] :: st) = 1 + wts st := rfl
          refine ⟨b, _, rfl, .inl (.inl eb), rfl, _, _, rfl, _, _, rfl, rfl, ?_⟩
          refine ⟨.ref u, rfl, .inl ⟨rfl, _, SqL.of eu6⟩, _, rfl, u, _, _, rfl, rfl, eu6, smallL (by rw [List.length_reverse]; omega), ?_⟩
          have kb7 : Kb [u] H5 (upd H7 u (.lst (us.reverse ++ [y]))) := kb.put List.mem_cons_self _
          have eu7 : (upd H7 u (.lst (us.reverse ++ [y]))) u = some (.lst (y :: us).reverse) := by rw [upd_same, List.reverse_cons]
          have pa7 : PtsAt Fh (.t t :: pre ts (kk + 1) ++ .s [41] :: st) (y :: us) := .cons uy pa6
          refine ⟨_, rfl, _, _, rfl, rfl, _, rfl, ?_⟩
          have stp := pre_step ht
          by_cases z : 0 < kk
          · refine if_true_of (decide_eq_true (by omega)) ?_
            refine ⟨.ref u, rfl, .inl ⟨rfl, _, SqL.of eu7⟩, u, _, _, rfl, rfl, eu7, smallL (by rw [List.length_reverse, List.length_cons]; omega), ?_⟩
            refine ⟨.str (S [32]) :: y :: us, _, _, rfl, kb7.put List.mem_cons_self _, by rw [upd_same, List.reverse_cons (a := V.str (S [32]))], ?_, by omega⟩
            rw [hk2, stp, if_pos z]
            exact .cons rfl pa7
          · refine if_false_of (decide_eq_false (by omega)) ?_
            refine ⟨y :: us, _, _, rfl, kb7, eu7, ?_, by omega⟩
            rw [hk2, stp, if_neg z]
            exact pa7
        · rintro σ H6 ⟨us, y4', y5', rfl, kb, eu6, pa6, hil⟩
          rw [lap, Nat.sub_self, pre_zero] at pa6
          have w1 := wts_inter ts
          have w8 : wts (inter ts ++ .s [41] :: st) = wts (inter ts) + (1 + wts st) := wts_app _ _
          refine ⟨_, by rw [ew, w8]; omega, _, us, os ++ [[40]], _, _, _, rfl, fun b z y => kb b z (fun e => ?_) (sm5 _ _ y), kb o _ (by simp [ou]) eo5, eu6, pa6, fun r hr => ?_, ?_, rfl, ?_⟩
          · rw [List.mem_singleton.mp e, nu'] at y
            cases y
          · rcases List.mem_append.mp hr with e | e
            · have key : ∀ (us : List Tree), twfs us → tszs us ≤ 1000 → ∀ r ∈ inter us, PtOk r := by
                intro us
                induction us with
                | nil => intro _ _ r hr; cases hr
                | cons t us ih =>
                  intro h1 h2 r hr
                  simp only [twfs] at h1
                  simp only [tszs] at h2
                  cases us with
                  | nil =>
                    rw [List.mem_singleton.mp hr]
                    exact ⟨h1.1, by omega⟩
                  | cons v us =>
                    rcases List.mem_cons.mp hr with e | e
                    · rw [e]
                      exact ⟨h1.1, by omega⟩
                    · rcases List.mem_cons.mp e with e | e
                      · rw [e]
                        trivial
                      · exact ih h1.2 (by omega) r e
              exact key ts pok.1 (by omega) r e
            · rcases List.mem_cons.mp e with e | e
              · rw [e]
                trivial
              · exact po' r e
          · rw [← hf, rests_app, rests_inter, List.flatten_append, List.append_assoc]
            show os.flatten ++ ([[40]].flatten ++ (joinSp (forms ts) ++ ([41] ++ rests st))) = os.flatten ++ (form (.list ts) ++ rests st)
            simp only [form]
            simp
          · rw [List.length_append, w8]
            show os.length + 1 + _ ≤ 4000
            omega
end
end Sg

namespace Sg
open PySem PySem.Spec PyProof.Rows L2
/-! ### the trees as data: ==, repr -/
mutual
def tdata : Tree → PyData
  | .int n => .tuple [.str "int", .int n]
  | .name s i => .tuple [.str "name", .str (S s), .int (i : Nat)]
  | .list ts => .tuple [.str "list", .list (tdatas ts)]
def tdatas : List Tree → List PyData
  | [] => []
  | t :: ts => tdata t :: tdatas ts
end
mutual
theorem dp_tree {K : PySem.W.Frag} {F H : Hp} (sm : Same F H) : ∀ (t : Tree) (v : V), TreeAt F t v → Dp K H v (tdata t)
  | .int n, v, h => by
    unfold TreeAt at h
    obtain ⟨a, rfl, h2⟩ := h
    simp only [tdata]
    exact .tup (SqT.of (sm _ _ h2)) (.cons (.str _) (.cons (.int _) .nil))
  | .name s i, v, h => by
    unfold TreeAt at h
    obtain ⟨a, rfl, h2⟩ := h
    simp only [tdata]
    exact .tup (SqT.of (sm _ _ h2)) (.cons (.str _) (.cons (.str _) (.cons (.int _) .nil)))
  | .list ts, v, h => by
    unfold TreeAt at h
    obtain ⟨a, l, vs, rfl, h2, h3, h4⟩ := h
    simp only [tdata]
    exact .tup (SqT.of (sm _ _ h2)) (.cons (.str _) (.cons (.lst (SqL.of (sm _ _ h3)) (dp_trees sm ts vs h4)) .nil))
theorem dp_trees {K : PySem.W.Frag} {F H : Hp} (sm : Same F H) : ∀ (ts : List Tree) (vs : List V), TreesAt F ts vs → DpAll K H vs (tdatas ts)
  | [], vs, h => by
    unfold TreesAt at h
    subst h
    simp only [tdatas]
    exact .nil
  | t :: ts, vs, h => by
    unfold TreesAt at h
    obtain ⟨v, r, rfl, h2, h3⟩ := h
    simp only [tdatas]
    exact .cons (dp_tree sm t v h2) (dp_trees sm ts r h3)
end
theorem name_codes {s : List Nat} (h : isNameL s = true) : ∀ c ∈ s, c < 128 := by
  unfold isNameL at h
  rw [Bool.or_eq_true] at h
  rcases h with h | h
  · have hm : s ∈ specials := of_decide_eq_true h
    have key : ∀ z ∈ specials, ∀ c ∈ z, c < 128 := by decide
    exact key s hm
  · rw [Bool.and_eq_true, Bool.and_eq_true] at h
    intro c hc
    have q := List.all_eq_true.mp h.2.2 c hc
    rw [Bool.or_eq_true] at q
    have : (97 ≤ c ∧ c ≤ 122) ∨ (48 ≤ c ∧ c ≤ 57) := q.imp (fun z => of_decide_eq_true z) fun z => of_decide_eq_true z
    omega
theorem strOk_S {s : List Nat} (h : ∀ c ∈ s, c < 128) : PyData.strOk (S s) = true := by
  show (S s).cps.all (· < 0x110000) = true
  rw [← Array.all_toList]
  exact List.all_eq_true.mpr fun c hc => decide_eq_true (Nat.lt_trans (h c hc) (by decide))
mutual
def tix (M : Nat) : Tree → Prop
  | .int _ => True
  | .name _ i => i ≤ M
  | .list ts => tixs M ts
def tixs (M : Nat) : List Tree → Prop
  | [] => True
  | t :: ts => tix M t ∧ tixs M ts
end
mutual
theorem cnt_ix {M : Nat} : ∀ (t : Tree) (k : Nat), (cnt t k).2 ≤ M → tix M (cnt t k).1
  | .int n, k, _ => trivial
  | .name s i, k, h => by
    simp only [cnt] at h
    simp only [cnt, tix]
    omega
  | .list ts, k, h => by
    simp only [cnt] at h
    simp only [cnt, tix]
    exact cnts_ix ts k h
theorem cnts_ix {M : Nat} : ∀ (ts : List Tree) (k : Nat), (cnts ts k).2 ≤ M → tixs M (cnts ts k).1
  | [], k, _ => trivial
  | t :: ts, k, h => by
    simp only [cnts] at h
    simp only [cnts, tixs]
    have q := (cnts_tsz ts (cnt t k).2).2.2.2.2.2.1
    exact ⟨cnt_ix t k (by omega), cnts_ix ts _ h⟩
end
mutual
theorem td_can : ∀ t : Tree, twf t → PyData.canLay0 (tdata t) = true
  | .int n, _ => by
    simp only [tdata, PyData.canLay0, PyData.canLayAll0, Bool.and_true]
    decide +kernel
  | .name s i, h => by
    simp only [twf] at h
    simp only [tdata, PyData.canLay0, PyData.canLayAll0, Bool.and_true]
    rw [strOk_S (name_codes h), Bool.and_true]
    decide +kernel
  | .list ts, h => by
    simp only [twf] at h
    simp only [tdata, PyData.canLay0, PyData.canLayAll0, Bool.and_true]
    rw [tds_can ts h, Bool.and_true]
    decide +kernel
theorem tds_can : ∀ ts : List Tree, twfs ts → PyData.canLayAll0 (tdatas ts) = true
  | [], _ => rfl
  | t :: ts, h => by
    simp only [twfs] at h
    simp only [tdatas, PyData.canLayAll0]
    rw [td_can t h.1, tds_can ts h.2]
    rfl
end
mutual
theorem td_depth : ∀ t : Tree, PyData.depth (tdata t) ≤ 2 * tht t + 1
  | .int n => by
    simp only [tdata, PyData.depth, PyData.depthAll, tht]
    omega
  | .name s i => by
    simp only [tdata, PyData.depth, PyData.depthAll, tht]
    omega
  | .list ts => by
    have := tds_depth ts
    simp only [tdata, PyData.depth, PyData.depthAll, tht]
    omega
theorem tds_depth : ∀ ts : List Tree, PyData.depthAll (tdatas ts) ≤ 2 * thts ts + 1
  | [] => by
    simp only [tdatas, PyData.depthAll]
    omega
  | t :: ts => by
    have := td_depth t
    have := tds_depth ts
    simp only [tdatas, PyData.depthAll, thts]
    omega
end
mutual
theorem td_show : ∀ t : Tree, twf t → tix 999999999 t → PyData.showable (tdata t) = true ∧ PyData.hasDict (tdata t) = false ∧ (PyData.shown (tdata t)).length + 2 ≤ 320 * tsz t
  | .int n, h, _ => by
    simp only [twf] at h
    simp only [tdata, PyData.showable, PyData.showableAll, PyData.hasDict, PyData.hasDictAll, PyData.shown, PyData.shownAll, tsz]
    refine ⟨by rw [decide_eq_true (int_log h)]; rfl, rfl, ?_⟩
    have z := tupleText_len_le [reprText "int", (toString n : Str)]
    have e1 : (reprText "int").length = 5 := by decide +kernel
    have e2 : (toString n : Str).length ≤ 10 := by
      rw [toString_S]
      exact (int_ok h).2.1
    simp only [List.map_cons, List.map_nil, List.sum_cons, List.sum_nil, List.length_cons, List.length_nil] at z
    omega
  | .name s i, h, hi => by
    simp only [twf] at h
    simp only [tix] at hi
    simp only [tdata, PyData.showable, PyData.showableAll, PyData.hasDict, PyData.hasDictAll, PyData.shown, PyData.shownAll, tsz]
    have hi' : ((i : Nat) : Int).natAbs ≤ 999999999 := by omega
    refine ⟨by rw [decide_eq_true (int_log hi')]; rfl, rfl, ?_⟩
    have z := tupleText_len_le [reprText "name", reprText (S s), (toString ((i : Nat) : Int) : Str)]
    have e1 : (reprText "name").length = 6 := by decide +kernel
    have e2 : (toString ((i : Nat) : Int) : Str).length ≤ 10 := by
      rw [toString_S]
      exact (int_ok hi').2.1
    have e3 := StrLaws.reprText_len (S s) (fun c hc => Nat.lt_trans (name_codes h c hc) (by decide))
    have e4 : (S s).length ≤ 20 := (name_ok h).2.1
    simp only [List.map_cons, List.map_nil, List.sum_cons, List.sum_nil, List.length_cons, List.length_nil] at z
    omega
  | .list ts, h, hi => by
    simp only [twf] at h
    simp only [tix] at hi
    have q := tds_show ts h hi
    simp only [tdata, PyData.showable, PyData.showableAll, PyData.hasDict, PyData.hasDictAll, PyData.shown, PyData.shownAll, tsz]
    refine ⟨by rw [q.1]; rfl, by rw [q.2.1]; rfl, ?_⟩
    have z := tupleText_len_le [reprText "list", listText (PyData.shownAll (tdatas ts))]
    have e1 : (reprText "list").length = 6 := by decide +kernel
    have z2 := listText_len_le (PyData.shownAll (tdatas ts))
    have z3 := q.2.2
    simp only [List.map_cons, List.map_nil, List.sum_cons, List.sum_nil, List.length_cons, List.length_nil] at z
    omega
theorem tds_show : ∀ ts : List Tree, twfs ts → tixs 999999999 ts → PyData.showableAll (tdatas ts) = true ∧ PyData.hasDictAll (tdatas ts) = false ∧ ((PyData.shownAll (tdatas ts)).map (·.length)).sum + 2 * (PyData.shownAll (tdatas ts)).length ≤ 320 * tszs ts
  | [], _, _ => ⟨rfl, rfl, Nat.le_refl _⟩
  | t :: ts, h, hi => by
    simp only [twfs] at h
    simp only [tixs] at hi
    have p := td_show t h.1 hi.1
    have q := tds_show ts h.2 hi.2
    simp only [tdatas, PyData.showableAll, PyData.hasDictAll, PyData.shownAll, tszs, List.map_cons, List.sum_cons, List.length_cons]
    refine ⟨by rw [p.1, q.1]; rfl, by rw [p.2.1, q.2.1]; rfl, ?_⟩
    omega
end
/-- a program as data -/
def pdata (ts : List Tree) : PyData := .list (tdatas ts)
theorem pd_shaped {ts : List Tree} (h : twfs ts) (hh : thts ts ≤ 30) : SeqAt.shaped (pdata ts) = true := by
  unfold SeqAt.shaped
  have z := tds_depth ts
  have e : (pdata ts).canLay0 = true := by
    simp only [pdata, PyData.canLay0]
    exact tds_can ts h
  rw [e, decide_eq_true]
  · rfl
  · simp only [pdata, PyData.depth]
    omega
theorem pd_refl {ts : List Tree} (h : twfs ts) : PyData.eqv (pdata ts) (pdata ts) = true := SeqAt.eqv_refl _ (by
  simp only [pdata, PyData.canLay0]
  exact tds_can ts h)
theorem pd_show {ts : List Tree} (h : twfs ts) (hi : tixs 999999999 ts) (hh : thts ts ≤ 30) (hz : tszs ts ≤ 1000) : (pdata ts).showable = true ∧ (pdata ts).hasDict = false ∧ (pdata ts).depth ≤ 64 ∧ (pdata ts).shown.length ≤ sizeLine := by
  have q := tds_show ts h hi
  have z := tds_depth ts
  have z2 := listText_len_le (PyData.shownAll (tdatas ts))
  simp only [pdata, PyData.showable, PyData.hasDict, PyData.depth, PyData.shown]
  refine ⟨q.1, q.2.1, by omega, ?_⟩
  rw [sizeLine_eq]
  omega
theorem pd_at {K : PySem.W.Frag} {F H : Hp} {l : Addr} {ts : List Tree} {vs : List V} (sm : Same F H) (hl : H l = some (.lst vs)) (h : TreesAt F ts vs) : Dp K H (.ref l) (pdata ts) := .lst (SqL.of hl) (dp_trees sm ts vs h)
end Sg

namespace Sg
open PySem PySem.Spec PyProof.Rows L2
/-! ### write_program -/
def linesL (ts : List Tree) : List Nat := (ts.map fun t => form t ++ [10]).flatten
theorem lines_snoc (ts : List Tree) (t : Tree) : linesL (ts ++ [t]) = linesL ts ++ (form t ++ [10]) := by
  unfold linesL
  rw [List.map_append, List.flatten_append]
  simp
theorem lines_len : ∀ ts : List Tree, twfs ts → (linesL ts).length ≤ 22 * tszs ts
  | [], _ => Nat.le_refl _
  | t :: ts, h => by
    simp only [twfs] at h
    have := lines_len ts h.2
    have := form_len t h.1
    have e : linesL (t :: ts) = (form t ++ [10]) ++ linesL ts := rfl
    rw [e, List.length_append, List.length_append]
    simp only [tszs]
    show (form t).length + 1 + _ ≤ _
    omega
theorem lines_cl : ∀ ts : List Tree, twfs ts → Cl (linesL ts) (tokss ts)
  | [], _ => Cl.nil
  | t :: ts, h => by
    simp only [twfs] at h
    have e : linesL (t :: ts) = (form t ++ [10]) ++ linesL ts := rfl
    have e2 : tokss (t :: ts) = toks t ++ tokss ts := by simp only [tokss]
    rw [e, e2]
    exact (form_cl h.1).app (lines_cl ts h.2)
theorem twfs_take : ∀ (ts : List Tree) (i : Nat), twfs ts → twfs (ts.take i)
  | [], i, h => by
    rw [List.take_nil]
    exact h
  | t :: ts, 0, h => trivial
  | t :: ts, i + 1, h => by
    simp only [twfs] at h
    show twfs (t :: ts.take i)
    simp only [twfs]
    exact ⟨h.1, twfs_take ts i h.2⟩
theorem S_len (l : List Nat) : (S l).length = l.length := rfl
theorem nl_eq : ("\n" : Str) = S [10] := by decide +kernel
def spWriteP : Sp := fun vs H Q _ => ∃ (F : Hp) (l : Addr) (ws : List V) (ts : List Tree), vs = [.ref l] ∧ Same F H ∧ F l = some (.lst ws) ∧ TreesAt F ts ws ∧ twfs ts ∧ tszs ts ≤ 900 ∧ ∀ H', Same H H' → Q (.str (S (linesL ts))) H'
theorem scWriteP : FnScope ["program", "tree"] ["program"] (defScope sWriteP) := ⟨rfl, rfl, rfl, by decide +kernel, rfl, by decide +kernel, by decide +kernel⟩
section
variable {P : Program} {w : World} {K : PySem.W.Frag} {mg : Str → Option Value} {base : Heap}
theorem ok_writeP {f fW : Addr} {fd fdW : FuncData} {k : Nat} (F : Fun K "write_program" "write_program" sWriteP f fd)
    (GW : FnOk P w K mg base CX0 k fW fdW ["tree"] spWrite) (bW : Binds K fdW ["tree"] []) (kW : PySem.W.keepIn K (.ref fW) = true) (mW : mg "write" = some (.ref fW)) : FnOk P w K mg base CX0 (k + 1) f fd ["program"] spWriteP := by
  refine F.ok scWriteP (fun vs H Q E h => ?_) (fun cdv A outer st H vs Q E hr h => ?_)
  · obtain ⟨F, l, ws, ts, rfl, _⟩ := h
    rfl
  obtain ⟨Fh, l, ws, ts, rfl, sF, el, ta, hw, hz, q⟩ := h
  refine ⟨_, pss_one (ps_ret (pe_join pe_str (pe_lc (own := [("tree", 1)]) (g := gName 1) (tt := tYes) rfl scWriteP.nd (pi_list (pv 0))
        (blkOk_by (N := ["program", "tree"]) (sc := defScope sWriteP) (by decide +kernel))
        (fun _ _ _ _ _ => pg_name (i := 1) scWriteP.nd rfl (Or.inl rfl)) (fun _ _ _ _ _ => pts_nil)
        (fun _ _ _ _ _ => pe_op op_add_str (pe_call GW hr (by rfl) mW kW bW .nil pass0 (pa_cons (pv 1) pa_nil)) pe_str)))), ?_⟩
  have lws := ta.len
  have lts := len_tszs ts
  refine ⟨⟨_, rfl⟩, _, rfl, l, rfl, ⟨ws, SqL.of (sF _ _ el)⟩, fun D hD => ?_⟩
  refine lc_list (K := K) (a := l) (xs := ws) (fun i H' => Same H H' ∧ H' D = some (.lst (((ts.take i).map fun t => form t ++ [10]).map fun l => V.str (S l))))
    ⟨same_new hD _, upd_same⟩ (fun i H' _ h' => SqL.of (h'.1 _ _ (sF _ _ el))) ?_ ?_
  · rintro i x H' hx ⟨sm, eD⟩
    refine ⟨rfl, yes_k ?_⟩
    obtain ⟨t, ht, ux⟩ := ta.get hx
    have hi' : i < ts.length := (List.getElem?_eq_some_iff.mp ht).1
    have hwt := twfs_get hw ht
    have fl := form_len t hwt
    have hzt := tszs_get ht
    refine ⟨_, rfl, Fh, t, x, rfl, sF.trans sm, ux, hwt, by omega, fun H6 sm6 => ?_⟩
    rw [nl_eq]
    refine ⟨_, _, rfl, rfl, ?_, _, sm6 _ _ eD, ?_, same_mut (sm.trans sm6) hD _, ?_⟩
    · show (form t).length + 1 ≤ sizeLine
      exact small (by omega)
    · rw [List.length_map, List.length_map, List.length_take]
      exact smallL (by omega)
    · rw [upd_same, S_app, take_map _ ht, List.map_append]
      rfl
  · rintro H' ⟨sm, eD⟩
    rw [lws, List.take_length] at eD
    have e0 : ("" : Str) = S [] := by decide +kernel
    rw [e0]
    have z := lines_len ts hw
    refine ⟨_, D, (ts.map fun t => form t ++ [10]).map S, rfl, rfl, .inl (SqL.of (by rw [eD, List.map_map (g := V.str) (f := S)]; rfl)), ?_, ?_⟩
    · rw [flat_sum]
      show (linesL ts).length + _ * 0 ≤ _
      omega
    · rw [join_none]
      exact q H' sm
/-! ### law -/
def spLaw (K : PySem.W.Frag) : Sp := fun vs H Q _ => ∃ (a : Addr) (ns : List Int), vs = [.ref a] ∧ SqL K H a (ns.map V.int) ∧ ns.length ≤ 63 ∧ ∀ H', Q (.bl true) H'
theorem scLaw : FnScope ["script", "state", "trees", "names", "tree", "program", "text", "before", "loose", "token", "k"] ["script"] (defScope sLaw) := ⟨rfl, rfl, rfl, by decide +kernel, rfl, by decide +kernel, by decide +kernel⟩
theorem nl_rm {H H' : Hp} {bs : List Addr} (h : ∀ b ∈ bs, ∃ xs, H b = some (.lst xs)) : Same (nl H H') (rmL bs H') := fun b o q => by
  have z := nl_of q
  refine rm_in (fun y => ?_) z.2
  obtain ⟨xs, e⟩ := h b y
  exact z.1 xs e
theorem St.kb {bs : List Addr} {p c : Addr} {H H' : Hp} (s : St p c H) (k : Kb bs H H') (h1 : p ∉ bs) (h2 : c ∉ bs) : St p c H' := by
  obtain ⟨xs, sd, s⟩ := s
  exact ⟨xs, sd, k _ _ h1 s.hp, k _ _ h2 s.hc, s.ne, s.len, s.pos, s.s0, s.s1⟩
theorem same_upd {F H : Hp} {t : Addr} {o : HO} (h : Same F H) : Same (upd F t o) (upd H t o) := fun b u q => by
  by_cases z : b = t
  · rw [z, upd_same] at q ⊢
    exact q
  · rw [upd_ne z] at q ⊢
    exact h b u q
theorem in_par {s : List Nat} (h : inV (V.str (S s)) [V.str "(", V.str ")"] = true) : s = [40] ∨ s = [41] := by
  have e1 : ("(" : Str) = S [40] := by decide +kernel
  have e2 : (")" : Str) = S [41] := by decide +kernel
  rw [e1, e2] at h
  have z : (S [40] == S s || (S [41] == S s || false)) = true := h
  rw [Bool.or_false, Bool.or_eq_true] at z
  have key : ∀ {a : List Nat}, (S a == S s) = true → s = a := fun {a} y => by
    have w : S a = S s := eq_of_beq y
    have := congrArg (fun x : Str => x.cps.toList) w
    exact this.symm
  exact z.imp key key
mutual
theorem toks_sum : ∀ t : Tree, twf t → ((toks t).map fun s => s.length + 4).sum ≤ 24 * tsz t
  | .int n, h => by
    simp only [twf] at h
    have := (int_ok h).2.1
    simp only [toks, tsz, List.map_cons, List.map_nil, List.sum_cons, List.sum_nil]
    omega
  | .name s i, h => by
    simp only [twf] at h
    have := (name_ok h).2.1
    simp only [toks, tsz, List.map_cons, List.map_nil, List.sum_cons, List.sum_nil]
    omega
  | .list ts, h => by
    simp only [twf] at h
    have := tokss_sum ts h
    simp only [toks, tsz, List.map_cons, List.map_append, List.map_nil, List.sum_cons, List.sum_append, List.sum_nil, List.length_cons, List.length_nil]
    omega
theorem tokss_sum : ∀ ts : List Tree, twfs ts → ((tokss ts).map fun s => s.length + 4).sum ≤ 24 * tszs ts
  | [], _ => Nat.le_refl _
  | t :: ts, h => by
    simp only [twfs] at h
    have := toks_sum t h.1
    have := tokss_sum ts h.2
    simp only [tokss, tszs, List.map_append, List.sum_append]
    omega
end
theorem sum_take {l : List (List Nat)} {i : Nat} {s : List Nat} (h : l[i]? = some s) : ((l.take (i + 1)).map fun s => s.length + 4).sum = ((l.take i).map fun s => s.length + 4).sum + (s.length + 4) := by
  rw [List.take_add_one, h, List.map_append, List.sum_append]
  rfl
theorem sum_take_le (l : List (List Nat)) (i : Nat) : ((l.take i).map fun s => s.length + 4).sum ≤ (l.map fun s => s.length + 4).sum := by
  have e := congrArg (fun m : List (List Nat) => (m.map fun s => s.length + 4).sum) (List.take_append_drop i l)
  have e' : ((l.take i ++ l.drop i).map fun s => s.length + 4).sum = (l.map fun s => s.length + 4).sum := e
  rw [List.map_append, List.sum_append] at e'
  omega
theorem cut_mid (l : List (List Nat)) : cutV ((([40] : List Nat) :: (l ++ [[41]])).map fun s => V.str (S s)) (some 1) (some (-1)) = l.map fun s => V.str (S s) := by
  unfold cutV
  have hl : ((([40] : List Nat) :: (l ++ [[41]])).map fun s => V.str (S s)).length = l.length + 2 := by
    rw [List.length_map, List.length_cons, List.length_append]
    rfl
  rw [hl]
  have e1 : HT.sIx (l.length + 2) 0 (some 1) = 1 := by
    have q := HT.sIx_nat (l.length + 2) 0 1
    rw [Nat.min_eq_left (by omega)] at q
    exact q
  have e2 : HT.sIx (l.length + 2) (l.length + 2) (some (-1)) = l.length + 1 := by
    show (if (-1 : Int) < 0 then ((-1 : Int) + ((l.length + 2 : Nat) : Int)).toNat else min (-1 : Int).toNat (l.length + 2)) = _
    rw [if_pos (by decide)]
    omega
  rw [e1, e2, List.map_cons, List.map_append]
  show ((l.map fun s => V.str (S s)) ++ [V.str (S [41])]).take (l.length + 1 - 1) = _
  have e3 : l.length + 1 - 1 = (l.map fun s => V.str (S s)).length := by rw [List.length_map]; omega
  rw [e3, List.take_left]
theorem ws_pick {l : List (List Nat)} {xs : List V} {v : V} (e : xs = l.map fun s => V.str (S s)) (h : v ∈ xs) : ∃ s ∈ l, v = .str (S s) := by
  rw [e] at h
  obtain ⟨s, hs, rfl⟩ := List.mem_map.mp h
  exact ⟨s, hs, rfl⟩
theorem passX {X : Cx} : Passes (L2.CX X.prog X.w) X E0 := fun _ _ _ _ _ _ _ h => by
  obtain ⟨a, B, H', cls, d, rfl, fl, _, _, _, _, _, hW⟩ := h
  exact hW.elim
theorem ok_law {f fS fD fK fT fC fO fF fW fP fR C : Addr} {fd fdS fdD fdK fdT fdC fdO fdF fdW fdP fdR : FuncData} {k : Nat} (F : Fun K "law" "law" sLaw f fd)
    (GS : FnOk P w K mg base CX0 k fS fdS ["script"] (spState K)) (bS : Binds K fdS ["script"] []) (kS : PySem.W.keepIn K (.ref fS) = true) (mS : mg "_law_state" = some (.ref fS))
    (GD : FnOk P w K mg base CX0 k fD fdD ["state", "many"] spDraw) (bD : Binds K fdD ["state", "many"] []) (kD : PySem.W.keepIn K (.ref fD) = true) (mD : mg "_law_draw" = some (.ref fD))
    (GK : FnOk P w K mg base CX0 k fK fdK ["state", "row"] spPick) (bK : Binds K fdK ["state", "row"] []) (kK : PySem.W.keepIn K (.ref fK) = true) (mK : mg "_law_pick" = some (.ref fK))
    (GT : FnOk P w K mg base CX0 k fT fdT ["state", "deep"] (spTree 5)) (bT : Binds K fdT ["state", "deep"] []) (kT : PySem.W.keepIn K (.ref fT) = true) (mT : mg "_law_tree" = some (.ref fT))
    (GC : FnOk P w K mg base CX0 k fC fdC ["tree", "names"] (spCounted 31)) (bC : Binds K fdC ["tree", "names"] []) (kC : PySem.W.keepIn K (.ref fC) = true) (mC : mg "_law_counted" = some (.ref fC))
    (GO : FnOk P w K mg base CX0 k fO fdO ["tree"] (spTokens 32)) (bO : Binds K fdO ["tree"] []) (kO : PySem.W.keepIn K (.ref fO) = true) (mO : mg "_law_tokens" = some (.ref fO))
    (GF : FnOk P w K mg base CX0 k fF fdF ["tree"] (spForm 31)) (bF : Binds K fdF ["tree"] []) (kF : PySem.W.keepIn K (.ref fF) = true) (mF : mg "_law_form" = some (.ref fF))
    (GW : FnOk P w K mg base CX0 k fW fdW ["tree"] spWrite) (bW : Binds K fdW ["tree"] []) (kW : PySem.W.keepIn K (.ref fW) = true) (mW : mg "write" = some (.ref fW))
    (GP : FnOk P w K mg base CX0 k fP fdP ["program"] spWriteP) (bP : Binds K fdP ["program"] []) (kP : PySem.W.keepIn K (.ref fP) = true) (mP : mg "write_program" = some (.ref fP))
    (GR : FnOk P w K mg base (L2.CX P w) k fR fdR ["text"] (spRead C)) (bR : Binds K fdR ["text"] []) (kR : PySem.W.keepIn K (.ref fR) = true) (mR : mg "read" = some (.ref fR))
    (mr : mg "range" = none) (mq : mg "repr" = none) : FnG P w K mg base CX0 (k + 1) f fd ["script"] (spLaw K) := by
  refine fnG_of F scLaw (fun vs H Q E h => ?_) (fun cdv A outer st H vs Q E gA hr h => ?_)
  · obtain ⟨a, ns, rfl, _⟩ := h
    rfl
  obtain ⟨a, ns, rfl, hS, hlen, q⟩ := h
  have hu : (A.deeper (envOfC "law" (defScope sLaw) st.heap.objs.size f cdv)).units + 100 < cLine := by
    have := hr.un
    omega
  have hu2 := hr.units
  refine ⟨_, pss_cons (ps_set (i := 1) scLaw.nd rfl (.inr rfl) (pe_call GS hr (by rfl) mS kS bS .nil pass0 (pa_cons (pv 0) pa_nil)))
    (pss_cons (ps_setLc (i := 2) (own := [("k", 10)]) (g := gName 10) (tt := tYes) rfl scLaw.nd rfl rfl (sw_true rfl rfl (by decide) (by decide +kernel)) (pi_range1 (by rfl) mr (pa_cons (pe_call GD hr (by rfl) mD kD bD .nil pass0 (pa_cons (pv 1) (pa_cons pe_int pa_nil))) pa_nil))
        (blkOk_by (N := ["script", "state", "trees", "names", "tree", "program", "text", "before", "loose", "token", "k"]) (sc := defScope sLaw) (by decide +kernel))
        (fun _ _ _ _ _ => pg_name (i := 10) scLaw.nd rfl (Or.inl rfl)) (fun _ _ _ _ _ => pts_nil)
        (fun _ _ _ _ _ => pe_call GT hr (by rfl) mT kT bT .nil pass0 (pa_cons (pv 1) (pa_cons pe_int pa_nil))))
    (pss_cons (ps_set (i := 3) scLaw.nd rfl (.inr rfl) (pe_lst pa_nil))
    (pss_cons (ps_setLc (i := 5) (own := [("tree", 4)]) (g := gName 4) (tt := tYes) rfl scLaw.nd rfl rfl (sw_true rfl rfl (by decide) (by decide +kernel)) (pi_list (pv 2))
        (blkOk_by (N := ["script", "state", "trees", "names", "tree", "program", "text", "before", "loose", "token", "k"]) (sc := defScope sLaw) (by decide +kernel))
        (fun _ _ _ _ _ => pg_name (i := 4) scLaw.nd rfl (Or.inl rfl)) (fun _ _ _ _ _ => pts_nil)
        (fun _ _ _ _ _ => pe_call GC hr (by rfl) mC kC bC .nil pass0 (pa_cons (pv 4) (pa_cons (pv 3) pa_nil))))
    (pss_cons (ps_set (i := 6) scLaw.nd rfl (.inl rfl) pe_str)
    (pss_cons (ps_for PassesOwn.never rfl (pi_list (pv 5)) (pg_name (i := 4) scLaw.nd rfl (.inl rfl))
      (pss_cons (ps_if (pt_cmpR op_ne (pe_call GW hr (by rfl) mW kW bW .nil pass0 (pa_cons (pv 4) pa_nil)) (pe_call GF hr (by rfl) mF kF bF .nil pass0 (pa_cons (pv 4) pa_nil)) (nomark _)) (pss_one (ps_ret pe_bl)) pss_nil)
      (pss_one (ps_set (i := 6) scLaw.nd rfl (.inl rfl) (pe_op op_add_str (pe_op op_add_str (pv 6) (pe_call GF hr (by rfl) mF kF bF .nil pass0 (pa_cons (pv 4) pa_nil))) pe_str)))))
    (pss_cons (ps_set (i := 7) scLaw.nd rfl (.inl rfl) (pe_callB (call_reprD gA hu) (by rfl) mq PyProof.Rows.boot_repr (pa_cons (pv 5) pa_nil)))
    (pss_cons (ps_if (pw_or (pt_cmpR op_ne (pe_call GP hr (by rfl) mP kP bP .nil pass0 (pa_cons (pv 5) pa_nil)) (pv 6) (nomark _))
        (pw_or (pt_cmpR (op_neD hu2) (pe_call GR hr (by rfl) mR kR bR .nil passX (pa_cons (pv 6) pa_nil)) (pv 5) (nomark _))
        (pw_or1 (pt_cmpR op_ne (pe_callB (call_reprD gA hu) (by rfl) mq PyProof.Rows.boot_repr (pa_cons (pv 5) pa_nil)) (pv 7) (nomark _))))).pt (pss_one (ps_ret pe_bl)) pss_nil)
    (pss_cons (ps_set (i := 8) scLaw.nd rfl (.inl rfl) (pe_call GK hr (by rfl) mK kK bK .nil pass0 (pa_cons (pv 1) (pa_cons (pe_lst (pa_cons pe_str (pa_cons pe_str (pa_cons pe_str pa_nil)))) pa_nil))))
    (pss_cons (ps_for PassesOwn.never rfl (pi_list (pe_slice sl_list (pe_call GO hr (by rfl) mO kO bO .nil pass0 (pa_cons (pe_tup (pa_cons pe_str (pa_cons (pv 2) pa_nil))) pa_nil)) (po_some pe_int) (po_some (pe_un un_neg pe_int)))) (pg_name (i := 9) scLaw.nd rfl (.inl rfl))
      (pss_one (ps_if (pw_and (pt_cmpR op_in_seq (pv 9) (pe_tup (pa_cons pe_str (pa_cons pe_str pa_nil))) rfl) (pw_and1 (pt_cmpR op_eq (pe_call GD hr (by rfl) mD kD bD .nil pass0 (pa_cons (pv 1) (pa_cons pe_int pa_nil))) pe_int (nomark _)))).pt
        (pss_one (ps_set (i := 8) scLaw.nd rfl (.inl rfl) (pe_op op_add_str (pv 8) (pv 9))))
        (pss_one (ps_set (i := 8) scLaw.nd rfl (.inl rfl) (pe_op op_add_str (pe_op op_add_str (pe_op op_add_str (pv 8) (pe_call GK hr (by rfl) mK kK bK .nil pass0 (pa_cons (pv 1) (pa_cons (pe_lst (pa_cons pe_str (pa_cons pe_str (pa_cons pe_str pa_nil)))) pa_nil)))) (pv 9))
          (pe_call GK hr (by rfl) mK kK bK .nil pass0 (pa_cons (pv 1) (pa_cons (pe_lst (pa_cons pe_str (pa_cons pe_str pa_nil))) pa_nil)))))))))
    (pss_one (ps_ret (pe_cmpR (op_eqD hu2) (pe_call GR hr (by rfl) mR kR bR .nil passX (pa_cons (pv 8) pa_nil)) (pv 5) (nomark _))))))))))))), ?_⟩
  refine ⟨_, rfl, a, ns, rfl, hS, hlen, fun H1 p c sm1 np nc S1 => ?_⟩
  -- the trees
  refine ⟨_, rfl, p, c, 5, rfl, by decide, by decide, S1, fun H2 r2 kp2 S2 a2 b2 => ⟨r2, rfl, by omega, by omega, fun D1 hD1 => ?_⟩⟩
  have nD1 := S2.new hD1
  obtain ⟨HD, hHD⟩ : ∃ HD, HD = upd H2 D1 (.lst []) := ⟨_, rfl⟩
  have SD : St p c HD := by
    rw [hHD]
    exact S2.same (same_new hD1 _)
  have eHD : HD D1 = some (.lst []) := by
    rw [hHD]
    exact upd_same
  refine lc_range (lo := 0) (n := r2.toNat) (fun i H' => St p c H' ∧ Ls HD H' ∧ ∃ (ts : List Tree) (vs : List V), H' D1 = some (.lst vs) ∧ UTreesAt (nl HD H') ts vs ∧ ts.length = i ∧ twfs ts ∧ thts ts ≤ 30 ∧ tszs ts ≤ i * 121)
    ⟨S2.same (same_new hD1 _), (show Ls HD (upd H2 D1 (.lst [])) from hHD ▸ Ls.refl _), [], [], upd_same, UTreesAt.nil, rfl, trivial, Nat.zero_le _, Nat.zero_le _⟩ ?_ ?_
  · rintro i H' hi ⟨S5, ls5, ts, vs, eD, ut, hl, hw, hh, hz⟩
    refine ⟨rfl, yes_k ?_⟩
    refine ⟨_, rfl, p, c, 30, 4, rfl, Nat.le_refl _, .inr ⟨by omega, rfl⟩, by omega, by omega, S5, fun H6 t v kp6 S6 u6 w6 h6 z6 => ?_⟩
    have eD6 := kp6 D1 _ nD1.1 nD1.2 eD
    have sp : Same (nl HD H6) (nl HD (upd H6 D1 (.lst (vs ++ [v])))) := nl_put eHD _
    refine ⟨vs, eD6, ?_, S6.put nD1.1 nD1.2 _, (ls5.trans (kp6.ls S6)).put, ts ++ [t], vs ++ [v], upd_same, ?_, by rw [List.length_append, hl]; rfl, twfs_app _ _ hw ⟨w6, trivial⟩, ?_, ?_⟩
    · rw [ut.len, hl]
      exact smallL (by omega)
    · exact UTreesAt.snoc (UTreeAt.same ((nl_base ls5).trans sp) _ _ u6) (UTreesAt.same ((kp6.nl SD).trans sp) _ _ ut)
    · rw [thts_app]
      simp only [thts]
      omega
    · have b4 : bnd 4 = 121 := by decide
      rw [tszs_app]
      simp only [tszs]
      omega
  rintro H3 ⟨S3, ls3, ts, vs, eD1, ut, hl, hw, hh, hz⟩
  have hz4 : tszs ts ≤ 484 := by omega
  have lts := len_tszs ts
  have lvs := ut.len
  obtain ⟨F1, hF1⟩ : ∃ F1, F1 = rmL [p, c] H3 := ⟨_, rfl⟩
  have lsp := SD.lsts
  have ut1 : UTreesAt F1 ts vs := by
    rw [hF1]
    refine UTreesAt.same (nl_rm fun b hb => ?_) _ _ ut
    rcases List.mem_cons.mp hb with e | e
    · rw [e]
      exact lsp.1
    · rw [List.mem_singleton.mp e]
      exact lsp.2
  have eF1 : F1 D1 = some (.lst vs) := by
    rw [hF1]
    exact rm_in (by simp [nD1.1, nD1.2]) eD1
  have sF1 : Same F1 H3 := by
    rw [hF1]
    exact rm_sub
  -- names, and the program
  refine ⟨Nat.zero_le _, fun nm nnm => ?_⟩
  have nn := S3.new nnm
  have F1n : F1 nm = none := by
    cases e : F1 nm with
    | none => rfl
    | some o =>
      rw [sF1 _ _ e] at nnm
      cases nnm
  have sm4 : Same H3 (upd H3 nm (.lst [])) := same_new nnm _
  have en4 : (upd H3 nm (.lst [])) nm = some (.lst []) := upd_same
  generalize upd H3 nm (.lst []) = H4 at sm4 en4
  have S4 : St p c H4 := S3.same sm4
  have sF4 := sF1.trans sm4
  have fz4 : Frz [nm] F1 H4 := ⟨sF4, fun b hb => by rw [List.mem_singleton.mp hb]; exact F1n⟩
  refine ⟨_, rfl, D1, rfl, ⟨vs, SqL.of (sF4 _ _ eF1)⟩, fun D2 hD2 => ?_⟩
  have nD2 := S4.new hD2
  have D2n : D2 ≠ nm := fun e => by
    rw [e, en4] at hD2
    cases hD2
  obtain ⟨HE, hHE⟩ : ∃ HE, HE = upd H4 D2 (.lst []) := ⟨_, rfl⟩
  have smE : Same H4 HE := by
    rw [hHE]
    exact same_new hD2 _
  have eHE : HE D2 = some (.lst []) := by
    rw [hHE]
    exact upd_same
  have nmE : ∀ b ∈ [nm], ∃ xs, HE b = some (.lst xs) := fun b hb => by
    rw [List.mem_singleton.mp hb]
    exact ⟨_, smE _ _ en4⟩
  refine lc_list (K := K) (a := D1) (xs := vs) (fun i H' => Kb [nm] H4 H' ∧ Ls HE H' ∧ ∃ (ws zs : List V), H' D2 = some (.lst ws) ∧ H' nm = some (.lst zs) ∧ TreesAt (nl HE H') (cnts (ts.take i) 0).1 ws ∧ zs.length = (cnts (ts.take i) 0).2 ∧ ws.length = i ∧ i ≤ ts.length)
    ⟨Same.kb (same_new hD2 _), (show Ls HE (upd H4 D2 (.lst [])) from hHE ▸ Ls.refl _), [], [], upd_same, same_new hD2 _ _ _ en4, TreesAt.nil, rfl, rfl, Nat.zero_le _⟩ (fun i H' _ h' => SqL.of ((fz4.up h'.1 fz4.2).1 _ _ eF1)) ?_ ?_
  · rintro i x H' hx ⟨kb, ls, ws, zs, eD, en, ta, hz1, hw1, hi⟩
    refine ⟨rfl, yes_k ?_⟩
    obtain ⟨t, ht, ux⟩ := ut1.get hx
    have tk1 : ts.take (i + 1) = ts.take i ++ [t] := by rw [List.take_add_one, ht]; rfl
    have b1 := cnts_tsz (ts.take i) 0
    have b2 := tszs_take ts i
    have b3 := tszs_get ht
    have hi' : i < ts.length := (List.getElem?_eq_some_iff.mp ht).1
    refine ⟨_, rfl, _, rfl, F1, t, x, nm, zs, rfl, en, by omega, fz4.up kb fz4.2, ux, by have := thts_get ht; omega, fun H6 v6 zs6 kb6 en6 hz6 t6 => ?_⟩
    have eD6 := kb6 D2 _ (by simp [D2n]) eD
    have sp : Same (nl HE H6) (nl HE (upd H6 D2 (.lst (ws ++ [v6])))) := nl_put eHE _
    have ec : cnts (ts.take (i + 1)) 0 = ((cnts (ts.take i) 0).1 ++ [(cnt t zs.length).1], (cnt t zs.length).2) := by
      rw [tk1, cnts_app, ← hz1]
      rfl
    refine ⟨ws, eD6, by rw [hw1]; exact smallL (by omega), (kb.trans kb6).new hD2 _, (ls.trans (kb6.ls fun b hb => ⟨zs6, by rw [List.mem_singleton.mp hb]; exact en6⟩)).put, ws ++ [v6], zs6, upd_same, by rw [upd_ne (Ne.symm D2n)]; exact en6, ?_, by rw [ec]; exact hz6, by rw [List.length_append, hw1]; rfl, hi'⟩
    rw [ec]
    exact TreesAt.snoc (TreeAt.same ((nl_base ls).trans sp) _ _ t6) (TreesAt.same ((kb6.nl nmE).trans sp) _ _ ta)
  rintro H5 ⟨kb5, ls5, ws, zs, eD2, en5, ta5, hzs, hws, hi5⟩
  rw [lvs, List.take_length] at ta5 hzs
  have cz := cnts_tsz ts 0
  have cl0 : tokss (cnts ts 0).1 = tokss ts := cz.2.2.2.2.1
  have rdP : ∀ x, Cl x (tokss ts) → readM (piecesL x) = .ok (cnts ts 0).1 := fun x h => read_cl hw hh h
  have ixP : tixs 999999999 (cnts ts 0).1 := cnts_ix ts 0 (by omega)
  have wP : twfs (cnts ts 0).1 := cz.2.2.1 hw
  have hP : thts (cnts ts 0).1 ≤ 30 := by rw [cz.2.1]; exact hh
  have zP : tszs (cnts ts 0).1 ≤ 484 := by rw [cz.1]; exact hz4
  generalize (cnts ts 0).1 = Pg at ta5 cl0 rdP ixP wP hP zP
  obtain ⟨F2, hF2⟩ : ∃ F2, F2 = rmL [p, c, nm] H5 := ⟨_, rfl⟩
  have tP : TreesAt F2 Pg ws := by
    rw [hF2]
    refine TreesAt.same (nl_rm fun b hb => ?_) _ _ ta5
    have lsp4 := (S4.same smE).lsts
    rcases List.mem_cons.mp hb with e | e
    · rw [e]
      exact lsp4.1
    · rcases List.mem_cons.mp e with e | e
      · rw [e]
        exact lsp4.2
      · rw [List.mem_singleton.mp e]
        exact ⟨_, smE _ _ en4⟩
  have S5 : St p c H5 := S4.kb kb5 (by simp [Ne.symm nn.1]) (by simp [Ne.symm nn.2])
  have s12 : Same F1 F2 := fun b o e => by
    have z : b ∉ [p, c] := by
      rw [hF1] at e
      exact (rm_of e).1
    have y : b ≠ nm := fun w => by
      rw [w, F1n] at e
      cases e
    rw [hF2]
    refine rm_in ?_ (kb5 b o (by simp [y]) (sF4 _ _ e))
    simp only [List.mem_cons, List.not_mem_nil, or_false, not_or] at z ⊢
    exact ⟨z.1, z.2, y⟩
  have eF2 : F2 D2 = some (.lst ws) := by
    rw [hF2]
    exact rm_in (by simp [nD2.1, nD2.2, D2n]) eD2
  have sF2 : Same F2 H5 := by
    rw [hF2]
    exact rm_sub
  have F2p : F2 p = none ∧ F2 c = none := by
    rw [hF2]
    exact ⟨if_pos (by simp), if_pos (by simp)⟩
  have kpF : ∀ {H H' : Hp}, Same F2 H → Kp p c H H' → Same F2 H' := fun {H H'} s k b o e => k b o (fun z => by rw [z, F2p.1] at e; cases e) (fun z => by rw [z, F2p.2] at e; cases e) (s b o e)
  have lws := tP.len
  have lPg := len_tszs Pg
  have shP := pd_shaped wP hP
  have swP := pd_show wP ixP hP (by omega)
  have dpP : ∀ {H : Hp}, Same F2 H → Dp K H (.ref D2) (pdata Pg) := fun {H} s => pd_at s (s _ _ eF2) tP
  -- text
  have e0 : ("" : Str) = S [] := by decide +kernel
  have e10 := nl_eq
  rw [e0]
  refine ⟨_, rfl, D2, rfl, ⟨ws, SqL.of (sF2 _ _ eF2)⟩, ?_⟩
  refine for_list (K := K) (a := D2) (xs := ws) (fun i σ H' => ∃ (y4 : Option V), σ = [some (.ref a), some (.ref p), some (.ref D1), some (.ref nm), y4, some (.ref D2), some (.str (S (linesL (Pg.take i)))), none, none, none, none] ∧ Same H5 H')
    ⟨none, rfl, Same.refl _⟩ (fun i σ H' _ ⟨_, _, sm⟩ => SqL.of (sm _ _ (sF2 _ _ eF2))) ?_ ?_
  · rintro i x σ H' hx ⟨y4, rfl, sm⟩
    obtain ⟨t, ht, ux⟩ := tP.get hx
    have tk1 : Pg.take (i + 1) = Pg.take i ++ [t] := by rw [List.take_add_one, ht]; rfl
    have wt := twfs_get wP ht
    have zt := tszs_get ht
    have hht := thts_get ht
    have flt := form_len t wt
    have lln := lines_len (Pg.take i) (twfs_take Pg i wP)
    have llz := tszs_take Pg i
    refine ⟨_, rfl, F2, t, x, rfl, sF2.trans sm, ux, wt, by omega, fun H7 sm7 => ?_⟩
    refine ⟨_, rfl, F2, t, x, rfl, (sF2.trans sm).trans sm7, ux, wt, by omega, by omega, fun H8 sm8 => ?_⟩
    refine ⟨rfl, _, rfl, ?_⟩
    refine if_false_of (by rw [str_eq]; rfl) ?_
    refine ⟨_, rfl, _, rfl, F2, t, x, rfl, ((sF2.trans sm).trans sm7).trans sm8, ux, wt, by omega, by omega, fun H9 sm9 => ?_⟩
    refine ⟨_, _, rfl, rfl, ?_, ?_⟩
    · show (linesL (Pg.take i)).length + (form t).length ≤ sizeLine
      exact small (by omega)
    rw [S_app, e10]
    refine ⟨_, _, rfl, rfl, ?_, ?_⟩
    · show (linesL (Pg.take i) ++ form t).length + 1 ≤ sizeLine
      rw [List.length_append]
      exact small (by omega)
    rw [S_app]
    refine ⟨some x, ?_, ((sm.trans sm7).trans sm8).trans sm9⟩
    rw [tk1, lines_snoc, ← List.append_assoc]
    rfl
  rintro σ H6 ⟨y4, rfl, sm56⟩
  rw [lws, List.take_length]
  have sF6 := sF2.trans sm56
  have S6 := S5.same sm56
  have lln := lines_len Pg wP
  -- repr, and the three looks
  refine ⟨_, rfl, D2, pdata Pg, rfl, dpP sF6, swP.1, swP.2.1, swP.2.2.1, swP.2.2.2, ?_⟩
  refine ⟨_, rfl, F2, D2, ws, Pg, rfl, sF6, eF2, tP, wP, by omega, fun H7 sm7 => ?_⟩
  refine ⟨_, rfl, rfl, _, rfl, ?_⟩
  refine if_false_of (by rw [str_eq]; rfl) ?_
  have sF7 := sF6.trans sm7
  have rd1 : readM (piecesL (S (linesL Pg)).cps.toList) = .ok Pg := rdP _ (cl0 ▸ lines_cl Pg wP)
  refine ⟨_, rfl, S (linesL Pg), rfl, by rw [S_len]; omega, fun ts8 h8 H8 d8 vs8 sm8 nd8 ed8 t8 => ?_, fun e he => by rw [rd1] at he; cases he⟩
  rw [rd1] at h8
  cases h8
  have sF8 := sF7.trans sm8
  refine ⟨_, rfl, pdata Pg, pdata Pg, pd_at (Same.refl H8) ed8 t8, dpP sF8, shP, shP, _, rfl, ?_⟩
  refine if_false_of (by rw [pd_refl wP]; rfl) ?_
  refine ⟨_, rfl, D2, pdata Pg, rfl, dpP sF8, swP.1, swP.2.1, swP.2.2.1, swP.2.2.2, ?_⟩
  refine ⟨_, rfl, rfl, _, rfl, ?_⟩
  refine if_false_of (by rw [str_eq]; rfl) ?_
  have S8 := S6.same (sm7.trans sm8)
  -- the loose text
  refine ⟨_, rfl, by show 3 ≤ sizeLine; decide, fun b1 nb1 => ?_⟩
  have nbs := S8.new nb1
  refine ⟨p, c, b1, _, rfl, upd_same, nbs.1, nbs.2, by simp, by show 3 ≤ 1000; decide, S8.same (same_new nb1 _), fun H9 v9 kp9 S9 hv9 => ?_⟩
  obtain ⟨l9, hl9, rfl⟩ := ws_pick (l := [[], [32], [10, 10, 32]]) (by decide +kernel) hv9
  have key9 : ∀ s ∈ ([[], [32], [10, 10, 32]] : List (List Nat)), s.length ≤ 3 ∧ ∀ c ∈ s, c = 32 ∨ c = 10 := by decide
  obtain ⟨len9, ws9⟩ := key9 l9 hl9
  have sF9 : Same F2 H9 := kpF (sF8.trans (same_new nb1 _)) kp9
  have eT : tokss ts = tokss ts := rfl
  refine ⟨_, rfl, by show 2 ≤ sizeLine; decide, fun t nt => ?_⟩
  have F1t : F1 t = none := by
    cases e : F1 t with
    | none => rfl
    | some o =>
      rw [sF9 _ _ (s12 _ _ e)] at nt
      cases nt
  have smT : Same F1 (upd F1 t (.tup [.str "list", .ref D1])) := same_new F1t _
  refine ⟨upd F1 t (.tup [.str "list", .ref D1]), .list ts, .ref t, rfl, same_upd (s12.trans sF9), ?_, hw, by show 1 + thts ts < 32; omega, by show 1 + tszs ts ≤ 1000; omega, fun H10 r sm10 nr er => ?_⟩
  · unfold UTreeAt
    exact ⟨t, D1, vs, rfl, upd_same, smT _ _ eF1, UTreesAt.same smT _ _ ut1⟩
  have sF10 : Same F2 H10 := (sF9.trans (same_new nt _)).trans sm10
  have S10 : St p c H10 := (S9.same (same_new nt _)).same sm10
  have et : toks (.list ts) = [40] :: (tokss ts ++ [[41]]) := by simp only [toks]
  rw [et] at er
  refine ⟨_, rfl, 1, rfl, _, rfl, r, _, rfl, SqL.of er, fun r2 nr2 => ?_⟩
  rw [cut_mid]
  have nr2' := S10.new nr2
  have S11 : St p c (upd H10 r2 (.lst ((tokss ts).map fun s => V.str (S s)))) := S10.same (same_new nr2 _)
  have sF11 : Same F2 (upd H10 r2 (.lst ((tokss ts).map fun s => V.str (S s)))) := sF10.trans (same_new nr2 _)
  have er2 : (upd H10 r2 (.lst ((tokss ts).map fun s => V.str (S s)))) r2 = some (.lst ((tokss ts).map fun s => V.str (S s))) := upd_same
  generalize upd H10 r2 (.lst ((tokss ts).map fun s => V.str (S s))) = H11 at S11 sF11 er2
  have tsum := tokss_sum ts hw
  refine ⟨r2, rfl, ⟨_, SqL.of er2⟩, ?_⟩
  refine for_list (K := K) (a := r2) (xs := (tokss ts).map fun s => V.str (S s)) (fun i σ H' => ∃ (y9 : Option V) (x : List Nat), σ = [some (.ref a), some (.ref p), some (.ref D1), some (.ref nm), y4, some (.ref D2), some (.str (S (linesL Pg))), some (.str (pdata Pg).shown), some (.str (S x)), y9, none] ∧ Kp p c H11 H' ∧ St p c H' ∧ Cl x ((tokss ts).take i) ∧ x.length ≤ 3 + (((tokss ts).take i).map fun s => s.length + 4).sum)
    ⟨none, l9, rfl, Kp.refl p c H11, S11, Cl.ws ws9, by show l9.length ≤ 3 + 0; omega⟩ (fun i σ H' _ ⟨_, _, _, kp, _⟩ => SqL.of (kp r2 _ nr2'.1 nr2'.2 er2)) ?_ ?_
  · rintro i xv σ H' hx ⟨y9, x, rfl, kp, Sx, cx, lx⟩
    obtain ⟨s, hs, rfl⟩ := get_map hx
    have hmem : s ∈ tokss ts := List.mem_of_getElem? hs
    obtain ⟨tok, ls⟩ := tokss_tok ts hw s hmem
    have st1 := sum_take hs
    have st2 := sum_take_le (tokss ts) (i + 1)
    have tk1 : (tokss ts).take (i + 1) = (tokss ts).take i ++ [s] := by rw [List.take_add_one, hs]; rfl
    refine ⟨_, rfl, by show 2 ≤ sizeLine; decide, fun tp ntp => ?_⟩
    refine ⟨tp, _, rfl, .inr (SqT.of upd_same), rfl, rfl, _, rfl, ?_⟩
    have kpt : Kp p c H11 (upd H' tp (.tup [.str "(", .str ")"])) := kp.trans (Same.kp (same_new ntp _))
    have Stp : St p c (upd H' tp (.tup [.str "(", .str ")"])) := Sx.same (same_new ntp _)
    generalize upd H' tp (.tup [.str "(", .str ")"]) = H12 at kpt Stp
    cases hb : inV (V.str (S s)) [V.str "(", V.str ")"] with
    | false =>
      refine if_false_of rfl ?_
      refine if_false_of rfl ?_
      refine ⟨_, rfl, _, rfl, by show 3 ≤ sizeLine; decide, fun b3 nb3 => ?_⟩
      have nbs3 := Stp.new nb3
      refine ⟨p, c, b3, _, rfl, upd_same, nbs3.1, nbs3.2, by simp, by show 3 ≤ 1000; decide, Stp.same (same_new nb3 _), fun H14 v14 kp14 S14 hv14 => ?_⟩
      obtain ⟨g1, hg1, rfl⟩ := ws_pick (l := [[32], [10], [32, 32]]) (by decide +kernel) hv14
      have key14 : ∀ s ∈ ([[32], [10], [32, 32]] : List (List Nat)), s.length ≤ 2 ∧ ∀ c ∈ s, c = 32 ∨ c = 10 := by decide
      obtain ⟨lg1, wg1⟩ := key14 g1 hg1
      refine ⟨_, _, rfl, rfl, ?_, ?_⟩
      · show x.length + g1.length ≤ sizeLine
        exact small (by omega)
      rw [S_app]
      refine ⟨_, rfl, _, _, rfl, rfl, ?_, ?_⟩
      · show (x ++ g1).length + s.length ≤ sizeLine
        rw [List.length_append]
        exact small (by omega)
      rw [S_app]
      refine ⟨_, rfl, by show 2 ≤ sizeLine; decide, fun b5 nb5 => ?_⟩
      have nbs5 := S14.new nb5
      refine ⟨p, c, b5, _, rfl, upd_same, nbs5.1, nbs5.2, by simp, by show 2 ≤ 1000; decide, S14.same (same_new nb5 _), fun H15 v15 kp15 S15 hv15 => ?_⟩
      obtain ⟨g2, hg2, rfl⟩ := ws_pick (l := [[32], [32, 10]]) (by decide +kernel) hv15
      have key15 : ∀ s ∈ ([[32], [32, 10]] : List (List Nat)), s.length ≤ 2 ∧ s ≠ [] ∧ ∀ c ∈ s, c = 32 ∨ c = 10 := by decide
      obtain ⟨lg2, ng2, wg2⟩ := key15 g2 hg2
      refine ⟨_, _, rfl, rfl, ?_, ?_⟩
      · show (x ++ g1 ++ s).length + g2.length ≤ sizeLine
        rw [List.length_append, List.length_append]
        exact small (by omega)
      rw [S_app]
      refine ⟨_, x ++ g1 ++ s ++ g2, rfl, (((kpt.trans (Same.kp (same_new nb3 _))).trans kp14).trans (Same.kp (same_new nb5 _))).trans kp15, S15, ?_, ?_⟩
      · have q2 := cx.app (Cl.loose tok wg1 wg2 ng2)
        have e : x ++ (g1 ++ s ++ g2) = x ++ g1 ++ s ++ g2 := by simp
        rw [e] at q2
        rw [tk1]
        exact q2
      · rw [st1, List.length_append, List.length_append, List.length_append]
        omega
    | true =>
      refine if_true_of rfl ?_
      refine ⟨_, rfl, p, c, 2, rfl, by decide, by decide, Stp, fun H13 r13 kp13 S13 a13 b13 => ?_⟩
      refine ⟨rfl, _, rfl, ?_⟩
      by_cases z : r13 = 0
      · refine if_true_of (by simp [z]) ?_
        refine ⟨_, rfl, _, rfl, _, _, rfl, rfl, ?_, ?_⟩
        · show x.length + s.length ≤ sizeLine
          exact small (by omega)
        rw [S_app]
        refine ⟨_, x ++ s, rfl, kpt.trans kp13, S13, ?_, ?_⟩
        · rw [tk1]
          refine cx.app ?_
          rcases in_par hb with e | e
          · rw [e]
            exact Cl.par (by decide)
          · rw [e]
            exact Cl.par (by decide)
        · rw [st1, List.length_append]
          omega
      · refine if_false_of (by simp [z]) ?_
        replace kpt := kpt.trans kp13
        replace Stp := S13
        refine ⟨_, rfl, _, rfl, by show 3 ≤ sizeLine; decide, fun b3 nb3 => ?_⟩
        have nbs3 := Stp.new nb3
        refine ⟨p, c, b3, _, rfl, upd_same, nbs3.1, nbs3.2, by simp, by show 3 ≤ 1000; decide, Stp.same (same_new nb3 _), fun H14 v14 kp14 S14 hv14 => ?_⟩
        obtain ⟨g1, hg1, rfl⟩ := ws_pick (l := [[32], [10], [32, 32]]) (by decide +kernel) hv14
        have key14 : ∀ s ∈ ([[32], [10], [32, 32]] : List (List Nat)), s.length ≤ 2 ∧ ∀ c ∈ s, c = 32 ∨ c = 10 := by decide
        obtain ⟨lg1, wg1⟩ := key14 g1 hg1
        refine ⟨_, _, rfl, rfl, ?_, ?_⟩
        · show x.length + g1.length ≤ sizeLine
          exact small (by omega)
        rw [S_app]
        refine ⟨_, rfl, _, _, rfl, rfl, ?_, ?_⟩
        · show (x ++ g1).length + s.length ≤ sizeLine
          rw [List.length_append]
          exact small (by omega)
        rw [S_app]
        refine ⟨_, rfl, by show 2 ≤ sizeLine; decide, fun b5 nb5 => ?_⟩
        have nbs5 := S14.new nb5
        refine ⟨p, c, b5, _, rfl, upd_same, nbs5.1, nbs5.2, by simp, by show 2 ≤ 1000; decide, S14.same (same_new nb5 _), fun H15 v15 kp15 S15 hv15 => ?_⟩
        obtain ⟨g2, hg2, rfl⟩ := ws_pick (l := [[32], [32, 10]]) (by decide +kernel) hv15
        have key15 : ∀ s ∈ ([[32], [32, 10]] : List (List Nat)), s.length ≤ 2 ∧ s ≠ [] ∧ ∀ c ∈ s, c = 32 ∨ c = 10 := by decide
        obtain ⟨lg2, ng2, wg2⟩ := key15 g2 hg2
        refine ⟨_, _, rfl, rfl, ?_, ?_⟩
        · show (x ++ g1 ++ s).length + g2.length ≤ sizeLine
          rw [List.length_append, List.length_append]
          exact small (by omega)
        rw [S_app]
        refine ⟨_, x ++ g1 ++ s ++ g2, rfl, (((kpt.trans (Same.kp (same_new nb3 _))).trans kp14).trans (Same.kp (same_new nb5 _))).trans kp15, S15, ?_, ?_⟩
        · have q2 := cx.app (Cl.loose tok wg1 wg2 ng2)
          have e : x ++ (g1 ++ s ++ g2) = x ++ g1 ++ s ++ g2 := by simp
          rw [e] at q2
          rw [tk1]
          exact q2
        · rw [st1, List.length_append, List.length_append, List.length_append]
          omega
  · rintro σ H12 ⟨y9, x, rfl, kp, Sx, cx, lx⟩
    rw [List.length_map, List.take_length] at cx lx
    have rdx : readM (piecesL (S x).cps.toList) = .ok Pg := rdP x cx
    refine ⟨_, rfl, S x, rfl, by rw [S_len]; omega, fun ts13 h13 H13 d13 vs13 sm13 nd13 ed13 t13 => ?_, fun e he => by rw [rdx] at he; cases he⟩
    rw [rdx] at h13
    cases h13
    have sF13 := (kpF sF11 kp).trans sm13
    refine ⟨_, rfl, pdata Pg, pdata Pg, pd_at (Same.refl H13) ed13 t13, dpP sF13, shP, shP, ?_⟩
    rw [pd_refl wP]
    exact q _
end
end Sg

namespace Sg
open PySem PySem.Spec PyProof.Rows L2
/-! ### what the top has written -/
theorem all_mk {P : Program} {w : World} {K : PySem.W.Frag} {h : Heap} {mg : Str → Option Value} {fa : Addr} (X : K.In h) (G : h.Ns mainGlobals mg) (hfa : mg "law" = some (.ref fa))
    {f1 : Addr} {od1 an1 : Option Addr} {sl1 : Array (Option Value)} {oc1 kV1 dc1 pm1 cd1 ct1 : Value}
    {f2 : Addr} {od2 an2 : Option Addr} {sl2 : Array (Option Value)} {oc2 kV2 dc2 pm2 cd2 ct2 : Value}
    {f3 : Addr} {od3 an3 : Option Addr} {sl3 : Array (Option Value)} {oc3 kV3 dc3 pm3 cd3 ct3 : Value}
    {f4 : Addr} {od4 an4 : Option Addr} {sl4 : Array (Option Value)} {oc4 kV4 dc4 pm4 cd4 ct4 : Value}
    {f5 : Addr} {od5 an5 : Option Addr} {sl5 : Array (Option Value)} {oc5 kV5 dc5 pm5 cd5 ct5 : Value}
    {f6 : Addr} {od6 an6 : Option Addr} {sl6 : Array (Option Value)} {oc6 kV6 dc6 pm6 cd6 ct6 : Value}
    {f7 : Addr} {od7 an7 : Option Addr} {sl7 : Array (Option Value)} {oc7 kV7 dc7 pm7 cd7 ct7 : Value}
    {f8 : Addr} {od8 an8 : Option Addr} {sl8 : Array (Option Value)} {oc8 kV8 dc8 pm8 cd8 ct8 : Value}
    {f9 : Addr} {od9 an9 : Option Addr} {sl9 : Array (Option Value)} {oc9 kV9 dc9 pm9 cd9 ct9 : Value}
    {f10 : Addr} {od10 an10 : Option Addr} {sl10 : Array (Option Value)} {oc10 kV10 dc10 pm10 cd10 ct10 : Value}
    {f11 : Addr} {od11 an11 : Option Addr} {sl11 : Array (Option Value)} {oc11 kV11 dc11 pm11 cd11 ct11 : Value}
    {f12 : Addr} {od12 an12 : Option Addr} {sl12 : Array (Option Value)} {oc12 kV12 dc12 pm12 cd12 ct12 : Value}
    {f13 : Addr} {od13 an13 : Option Addr} {sl13 : Array (Option Value)} {oc13 kV13 dc13 pm13 cd13 ct13 : Value}
    {f14 : Addr} {od14 an14 : Option Addr} {sl14 : Array (Option Value)} {oc14 kV14 dc14 pm14 cd14 ct14 : Value}
    {f15 : Addr} {od15 an15 : Option Addr} {sl15 : Array (Option Value)} {oc15 kV15 dc15 pm15 cd15 ct15 : Value}
    {f16 : Addr} {od16 an16 : Option Addr} {sl16 : Array (Option Value)} {oc16 kV16 dc16 pm16 cd16 ct16 : Value}
    {t_DEEPEST_LIST : Tok}
    {t_MOST_DIGITS : Tok}
    {t_LONGEST_NAME : Tok}
    {t_DIGITS : Tok}
    {t_LETTERS : Tok}
    {aS : Addr} {odS : Option Addr} {nS : Nat} {slS : Array (Option Value)} {u1 u2 u3 u4 u5 u6 u7 : Tok}
    {C CS fI cc cda : Addr} {nm q : Str} {N : Addr} {bs : List Value} {sn : List Str} {sub : List Value} {ab : Bool} {col : Option Bool} {dd : Option Addr} {m0 m1 m2 m3 m5 : Option Value}
    {odI anI clc ccd : Option Addr} {slI sls ccs : Array (Option Value)} {ocI dcI pmI ctI cl ccl : Value} {vsC : Array Value} {file : Str} {tf : Tok}
    (a1 : PySem.W.nsIn K mainGlobals "made_of" = some (some (.ref f1)))
    (l1 : K.lookup f1 = some ⟨oc1, od1, .func (PySem.W.fnOf "made_of" "made_of" (defArgs sMade) (defBody sMade) (defScope sMade) .none kV1 dc1 pm1 an1 cd1 ct1), sl1⟩)
    (c1 : PySem.W.codeIn K cd1 "made_of" = true)
    (k1 : PySem.W.keepIn K (.ref f1) = true)
    (a2 : PySem.W.nsIn K mainGlobals "names_an_integer" = some (some (.ref f2)))
    (l2 : K.lookup f2 = some ⟨oc2, od2, .func (PySem.W.fnOf "names_an_integer" "names_an_integer" (defArgs sIsInt) (defBody sIsInt) (defScope sIsInt) .none kV2 dc2 pm2 an2 cd2 ct2), sl2⟩)
    (c2 : PySem.W.codeIn K cd2 "names_an_integer" = true)
    (k2 : PySem.W.keepIn K (.ref f2) = true)
    (a3 : PySem.W.nsIn K mainGlobals "is_a_name" = some (some (.ref f3)))
    (l3 : K.lookup f3 = some ⟨oc3, od3, .func (PySem.W.fnOf "is_a_name" "is_a_name" (defArgs sIsName) (defBody sIsName) (defScope sIsName) .none kV3 dc3 pm3 an3 cd3 ct3), sl3⟩)
    (c3 : PySem.W.codeIn K cd3 "is_a_name" = true)
    (k3 : PySem.W.keepIn K (.ref f3) = true)
    (a4 : PySem.W.nsIn K mainGlobals "pieces" = some (some (.ref f4)))
    (l4 : K.lookup f4 = some ⟨oc4, od4, .func (PySem.W.fnOf "pieces" "pieces" (defArgs sPieces) (defBody sPieces) (defScope sPieces) .none kV4 dc4 pm4 an4 cd4 ct4), sl4⟩)
    (c4 : PySem.W.codeIn K cd4 "pieces" = true)
    (k4 : PySem.W.keepIn K (.ref f4) = true)
    (a5 : PySem.W.nsIn K mainGlobals "read" = some (some (.ref f5)))
    (l5 : K.lookup f5 = some ⟨oc5, od5, .func (PySem.W.fnOf "read" "read" (defArgs sRead) (defBody sRead) (defScope sRead) .none kV5 dc5 pm5 an5 cd5 ct5), sl5⟩)
    (c5 : PySem.W.codeIn K cd5 "read" = true)
    (k5 : PySem.W.keepIn K (.ref f5) = true)
    (a6 : PySem.W.nsIn K mainGlobals "write" = some (some (.ref f6)))
    (l6 : K.lookup f6 = some ⟨oc6, od6, .func (PySem.W.fnOf "write" "write" (defArgs sWrite) (defBody sWrite) (defScope sWrite) .none kV6 dc6 pm6 an6 cd6 ct6), sl6⟩)
    (c6 : PySem.W.codeIn K cd6 "write" = true)
    (k6 : PySem.W.keepIn K (.ref f6) = true)
    (a7 : PySem.W.nsIn K mainGlobals "write_program" = some (some (.ref f7)))
    (l7 : K.lookup f7 = some ⟨oc7, od7, .func (PySem.W.fnOf "write_program" "write_program" (defArgs sWriteP) (defBody sWriteP) (defScope sWriteP) .none kV7 dc7 pm7 an7 cd7 ct7), sl7⟩)
    (c7 : PySem.W.codeIn K cd7 "write_program" = true)
    (k7 : PySem.W.keepIn K (.ref f7) = true)
    (a8 : PySem.W.nsIn K mainGlobals "_law_state" = some (some (.ref f8)))
    (l8 : K.lookup f8 = some ⟨oc8, od8, .func (PySem.W.fnOf "_law_state" "_law_state" (defArgs sState) (defBody sState) (defScope sState) .none kV8 dc8 pm8 an8 cd8 ct8), sl8⟩)
    (c8 : PySem.W.codeIn K cd8 "_law_state" = true)
    (k8 : PySem.W.keepIn K (.ref f8) = true)
    (a9 : PySem.W.nsIn K mainGlobals "_law_draw" = some (some (.ref f9)))
    (l9 : K.lookup f9 = some ⟨oc9, od9, .func (PySem.W.fnOf "_law_draw" "_law_draw" (defArgs sDraw) (defBody sDraw) (defScope sDraw) .none kV9 dc9 pm9 an9 cd9 ct9), sl9⟩)
    (c9 : PySem.W.codeIn K cd9 "_law_draw" = true)
    (k9 : PySem.W.keepIn K (.ref f9) = true)
    (a10 : PySem.W.nsIn K mainGlobals "_law_pick" = some (some (.ref f10)))
    (l10 : K.lookup f10 = some ⟨oc10, od10, .func (PySem.W.fnOf "_law_pick" "_law_pick" (defArgs sPick) (defBody sPick) (defScope sPick) .none kV10 dc10 pm10 an10 cd10 ct10), sl10⟩)
    (c10 : PySem.W.codeIn K cd10 "_law_pick" = true)
    (k10 : PySem.W.keepIn K (.ref f10) = true)
    (a11 : PySem.W.nsIn K mainGlobals "_law_word" = some (some (.ref f11)))
    (l11 : K.lookup f11 = some ⟨oc11, od11, .func (PySem.W.fnOf "_law_word" "_law_word" (defArgs sWord) (defBody sWord) (defScope sWord) .none kV11 dc11 pm11 an11 cd11 ct11), sl11⟩)
    (c11 : PySem.W.codeIn K cd11 "_law_word" = true)
    (k11 : PySem.W.keepIn K (.ref f11) = true)
    (a12 : PySem.W.nsIn K mainGlobals "_law_tree" = some (some (.ref f12)))
    (l12 : K.lookup f12 = some ⟨oc12, od12, .func (PySem.W.fnOf "_law_tree" "_law_tree" (defArgs sTree) (defBody sTree) (defScope sTree) .none kV12 dc12 pm12 an12 cd12 ct12), sl12⟩)
    (c12 : PySem.W.codeIn K cd12 "_law_tree" = true)
    (k12 : PySem.W.keepIn K (.ref f12) = true)
    (a13 : PySem.W.nsIn K mainGlobals "_law_counted" = some (some (.ref f13)))
    (l13 : K.lookup f13 = some ⟨oc13, od13, .func (PySem.W.fnOf "_law_counted" "_law_counted" (defArgs sCounted) (defBody sCounted) (defScope sCounted) .none kV13 dc13 pm13 an13 cd13 ct13), sl13⟩)
    (c13 : PySem.W.codeIn K cd13 "_law_counted" = true)
    (k13 : PySem.W.keepIn K (.ref f13) = true)
    (a14 : PySem.W.nsIn K mainGlobals "_law_tokens" = some (some (.ref f14)))
    (l14 : K.lookup f14 = some ⟨oc14, od14, .func (PySem.W.fnOf "_law_tokens" "_law_tokens" (defArgs sTokens) (defBody sTokens) (defScope sTokens) .none kV14 dc14 pm14 an14 cd14 ct14), sl14⟩)
    (c14 : PySem.W.codeIn K cd14 "_law_tokens" = true)
    (k14 : PySem.W.keepIn K (.ref f14) = true)
    (a15 : PySem.W.nsIn K mainGlobals "_law_form" = some (some (.ref f15)))
    (l15 : K.lookup f15 = some ⟨oc15, od15, .func (PySem.W.fnOf "_law_form" "_law_form" (defArgs sForm) (defBody sForm) (defScope sForm) .none kV15 dc15 pm15 an15 cd15 ct15), sl15⟩)
    (c15 : PySem.W.codeIn K cd15 "_law_form" = true)
    (k15 : PySem.W.keepIn K (.ref f15) = true)
    (a16 : PySem.W.nsIn K mainGlobals "law" = some (some (.ref f16)))
    (l16 : K.lookup f16 = some ⟨oc16, od16, .func (PySem.W.fnOf "law" "law" (defArgs sLaw) (defBody sLaw) (defScope sLaw) .none kV16 dc16 pm16 an16 cd16 ct16), sl16⟩)
    (c16 : PySem.W.codeIn K cd16 "law" = true)
    (k16 : PySem.W.keepIn K (.ref f16) = true)
    (z_int : PySem.W.nsIn K mainGlobals "int" = some none)
    (z_abs : PySem.W.nsIn K mainGlobals "abs" = some none)
    (z_len : PySem.W.nsIn K mainGlobals "len" = some none)
    (z_all : PySem.W.nsIn K mainGlobals "all" = some none)
    (z_enumerate : PySem.W.nsIn K mainGlobals "enumerate" = some none)
    (z_range : PySem.W.nsIn K mainGlobals "range" = some none)
    (z_super : PySem.W.nsIn K mainGlobals "super" = some none)
    (z_isinstance : PySem.W.nsIn K mainGlobals "isinstance" = some none)
    (z_str : PySem.W.nsIn K mainGlobals "str" = some none)
    (z_reversed : PySem.W.nsIn K mainGlobals "reversed" = some none)
    (z_list : PySem.W.nsIn K mainGlobals "list" = some none)
    (z_repr : PySem.W.nsIn K mainGlobals "repr" = some none)
    (z_min : PySem.W.nsIn K mainGlobals "min" = some none)
    (g_DEEPEST_LIST : PySem.W.nsIn K mainGlobals "DEEPEST_LIST" = some (some (.int 30 t_DEEPEST_LIST)))
    (g_MOST_DIGITS : PySem.W.nsIn K mainGlobals "MOST_DIGITS" = some (some (.int 9 t_MOST_DIGITS)))
    (g_LONGEST_NAME : PySem.W.nsIn K mainGlobals "LONGEST_NAME" = some (some (.int 20 t_LONGEST_NAME)))
    (g_DIGITS : PySem.W.nsIn K mainGlobals "DIGITS" = some (some (.str "0123456789" t_DIGITS)))
    (g_LETTERS : PySem.W.nsIn K mainGlobals "LETTERS" = some (some (.str "abcdefghijklmnopqrstuvwxyz" t_LETTERS)))
    (g_SP : PySem.W.nsIn K mainGlobals "SPECIAL_NAMES" = some (some (.ref aS)))
    (l_SP : K.lookup aS = some ⟨.type "tuple", odS, .seq #[.str "+" u1, .str "-" u2, .str "*" u3, .str "<" u4, .str "=" u5, .str "_" u6, .str "..." u7] nS, slS⟩)
    (aC : PySem.W.nsIn K mainGlobals "TextError" = some (some (.ref C)))
    (xL : K.lookup C = some (excClassObj nm q C N bs [.ref CS, .type "ValueError", .type "Exception", .type "BaseException", .type "object"] true sn sub ab col dd m0 m1 m2 m3 m5 "ValueError.__new__"))
    (sa : PySem.W.findIn K (.ref C) "__setattr__" = some (some (.builtin "object.__setattr__")))
    (ga : PySem.W.findIn K (.ref C) "__getattribute__" = some (some (.builtin "BaseException.__getattribute__")))
    (gg : PySem.W.findIn K (.ref C) "__getattr__" = some none)
    (nb : PySem.W.findIn K (.ref C) "at" = some none)
    (iI : PySem.W.findIn K (.ref C) "__init__" = some (some (.ref fI)))
    (tI : PySem.W.typeIn K (.ref fI) = some (.type "function"))
    (lI : K.lookup fI = some ⟨ocI, odI, .func (PySem.W.ksFn "__init__" "TextError.__init__" (PySem.TeX.iA ⟨6, 17, 6, 21⟩ ⟨6, 23, 6, 25⟩) (PySem.TeX.iB ⟨7, 8, 7, 13⟩ ⟨7, 8, 7, 15⟩ ⟨7, 8, 7, 24⟩ ⟨7, 27, 7, 57⟩ ⟨7, 58, 7, 60⟩ ⟨7, 57, 7, 61⟩ ⟨7, 25, 7, 62⟩ ⟨7, 8, 7, 63⟩ ⟨7, 8, 7, 63⟩ ⟨8, 8, 8, 12⟩ ⟨8, 8, 8, 15⟩ ⟨8, 18, 8, 20⟩ ⟨8, 8, 8, 20⟩) PySem.TeX.iS .none .none dcI pmI anI (.ref cda) ctI cc), slI⟩)
    (cI : PySem.W.codeIn K (.ref cda) "TextError.__init__" = true)
    (kC : PySem.W.keepIn K (.ref C) = true)
    (eC : PySem.W.subIn K (.ref C) (.type "BaseException") = some true)
    (tC : PySem.W.typeIn K (.ref C) = some (.type "type"))
    (hC : PySem.W.hasDictIn K C = true)
    (iC : PySem.W.isClsIn K C = true)
    (sC : PySem.W.subIn K (.ref C) (.ref C) = some true)
    (op : PySem.W.nsIn K PySem.cStatics "thirdparty.any" = some none)
    (vE : PySem.W.subIn K (.ref C) (.type "ValueError") = some true)
    (su : PySem.W.ks_superIn K C C "__init__" = some (some (.builtin "ValueError.__init__")))
    (mr : PySem.W.mroIn K C (.ref C) = some true)
    (lc : K.lookup cc = some ⟨cl, clc, .cell (some (.ref C)), sls⟩)
    (ld : K.lookup cda = some ⟨ccl, ccd, .fields vsC, ccs⟩)
    (lv : vsC[2]? = some (.str file tf))
    (lf : ((P.main.file : Str) == file) = true)
    (lt : (P.main.scope.names.lookup ("super" : Str)).isSome = false)
    (lq : PySem.TeX.CallForm ⟨7, 8, 7, 13⟩ ⟨7, 8, 7, 15⟩ ⟨7, 8, 7, 24⟩ ⟨7, 27, 7, 57⟩ ⟨7, 58, 7, 60⟩ ⟨7, 57, 7, 61⟩ ⟨7, 25, 7, 62⟩ ⟨7, 8, 7, 63⟩ fI cc cda)
    (qs1 : PySem.W.kitOne K (.type "str") (.type "str") = some true)
    (qs2 : PySem.W.kitOne K (.type "tuple") (.type "str") = some false)
    : ∃ fd : FuncData, (∀ (s : Shared) (v : Value), BindsTo s fd ⟨[v], []⟩ [("script", v)]) ∧ ∀ base : Heap, K.In base → base.Ns mainGlobals mg → FnG P w K mg base CX0 41 fa fd ["script"] (spLaw K) := by
  have e := hfa.symm.trans (PySem.W.mg_of X G a16)
  cases e
  have T : PySem.TeX.TeTxt P K mg C fI cc cda :=
    { gC := PySem.W.mg_of X G aC, cls := ⟨nm, q, N, bs, _, sn, sub, ab, col, dd, m0, m1, m2, m3, m5, xL, by rfl⟩, sa := sa, ga := ga, gg := gg, noN := nb, iC := iI, tC := tI, kC := kC, exC := eC, tyC := tC, hdC := hC, te := exm_self eC iC tC sC,
      op := op, vE := vE, su := su, mr := mr, ms := PySem.W.mg_none_of X G z_super, cell := ⟨_, _, _, lc⟩, code := ⟨_, _, _, _, _, _, ld, lv, lf⟩, top := lt, fn := ⟨_, _, _, _, _, _, _, _, _, _, _, _, _, _, _, _, _, _, _, _, _, _, lI, cI, lq⟩ }
  have Cs : Consts K mg := ⟨⟨_, PySem.W.mg_of X G g_DEEPEST_LIST⟩, ⟨_, PySem.W.mg_of X G g_MOST_DIGITS⟩, ⟨_, PySem.W.mg_of X G g_LONGEST_NAME⟩, ⟨_, PySem.W.mg_of X G g_DIGITS⟩, ⟨_, PySem.W.mg_of X G g_LETTERS⟩, aS, PySem.W.mg_of X G g_SP, fun H => .inr ⟨_, _, _, l_SP, rfl, rfl, by show 7 ≤ sizeLine; decide, specials_vals _ _ _ _ _ _ _⟩⟩
  have F1 := fun_mk (st := sMade) l1 c1 k1
  have b1 := F1.binds (ps := ["text", "signs"]) fun _ _ _ _ _ _ us hl => match us, hl with | [_, _], _ => rfl
  have g1 := PySem.W.mg_of X G a1
  have F2 := fun_mk (st := sIsInt) l2 c2 k2
  have b2 := F2.binds (ps := ["run"]) fun _ _ _ _ _ _ us hl => match us, hl with | [_], _ => rfl
  have g2 := PySem.W.mg_of X G a2
  have F3 := fun_mk (st := sIsName) l3 c3 k3
  have b3 := F3.binds (ps := ["run"]) fun _ _ _ _ _ _ us hl => match us, hl with | [_], _ => rfl
  have g3 := PySem.W.mg_of X G a3
  have F4 := fun_mk (st := sPieces) l4 c4 k4
  have b4 := F4.binds (ps := ["text"]) fun _ _ _ _ _ _ us hl => match us, hl with | [_], _ => rfl
  have g4 := PySem.W.mg_of X G a4
  have F5 := fun_mk (st := sRead) l5 c5 k5
  have b5 := F5.binds (ps := ["text"]) fun _ _ _ _ _ _ us hl => match us, hl with | [_], _ => rfl
  have g5 := PySem.W.mg_of X G a5
  have F6 := fun_mk (st := sWrite) l6 c6 k6
  have b6 := F6.binds (ps := ["tree"]) fun _ _ _ _ _ _ us hl => match us, hl with | [_], _ => rfl
  have g6 := PySem.W.mg_of X G a6
  have F7 := fun_mk (st := sWriteP) l7 c7 k7
  have b7 := F7.binds (ps := ["program"]) fun _ _ _ _ _ _ us hl => match us, hl with | [_], _ => rfl
  have g7 := PySem.W.mg_of X G a7
  have F8 := fun_mk (st := sState) l8 c8 k8
  have b8 := F8.binds (ps := ["script"]) fun _ _ _ _ _ _ us hl => match us, hl with | [_], _ => rfl
  have g8 := PySem.W.mg_of X G a8
  have F9 := fun_mk (st := sDraw) l9 c9 k9
  have b9 := F9.binds (ps := ["state", "many"]) fun _ _ _ _ _ _ us hl => match us, hl with | [_, _], _ => rfl
  have g9 := PySem.W.mg_of X G a9
  have F10 := fun_mk (st := sPick) l10 c10 k10
  have b10 := F10.binds (ps := ["state", "row"]) fun _ _ _ _ _ _ us hl => match us, hl with | [_, _], _ => rfl
  have g10 := PySem.W.mg_of X G a10
  have F11 := fun_mk (st := sWord) l11 c11 k11
  have b11 := F11.binds (ps := ["state"]) fun _ _ _ _ _ _ us hl => match us, hl with | [_], _ => rfl
  have g11 := PySem.W.mg_of X G a11
  have F12 := fun_mk (st := sTree) l12 c12 k12
  have b12 := F12.binds (ps := ["state", "deep"]) fun _ _ _ _ _ _ us hl => match us, hl with | [_, _], _ => rfl
  have g12 := PySem.W.mg_of X G a12
  have F13 := fun_mk (st := sCounted) l13 c13 k13
  have b13 := F13.binds (ps := ["tree", "names"]) fun _ _ _ _ _ _ us hl => match us, hl with | [_, _], _ => rfl
  have g13 := PySem.W.mg_of X G a13
  have F14 := fun_mk (st := sTokens) l14 c14 k14
  have b14 := F14.binds (ps := ["tree"]) fun _ _ _ _ _ _ us hl => match us, hl with | [_], _ => rfl
  have g14 := PySem.W.mg_of X G a14
  have F15 := fun_mk (st := sForm) l15 c15 k15
  have b15 := F15.binds (ps := ["tree"]) fun _ _ _ _ _ _ us hl => match us, hl with | [_], _ => rfl
  have g15 := PySem.W.mg_of X G a15
  have F16 := fun_mk (st := sLaw) l16 c16 k16
  have g16 := PySem.W.mg_of X G a16
  have y_int := PySem.W.mg_none_of X G z_int
  have y_abs := PySem.W.mg_none_of X G z_abs
  have y_len := PySem.W.mg_none_of X G z_len
  have y_all := PySem.W.mg_none_of X G z_all
  have y_enumerate := PySem.W.mg_none_of X G z_enumerate
  have y_range := PySem.W.mg_none_of X G z_range
  have y_super := PySem.W.mg_none_of X G z_super
  have y_isinstance := PySem.W.mg_none_of X G z_isinstance
  have y_str := PySem.W.mg_none_of X G z_str
  have y_reversed := PySem.W.mg_none_of X G z_reversed
  have y_list := PySem.W.mg_none_of X G z_list
  have y_repr := PySem.W.mg_none_of X G z_repr
  have y_min := PySem.W.mg_none_of X G z_min
  refine ⟨PySem.W.fnOf "law" "law" (defArgs sLaw) (defBody sLaw) (defScope sLaw) .none kV16 dc16 pm16 an16 cd16 ct16, fun s v => .of_eq rfl, fun base _ _ => ?_⟩
  have Gm : FnOk P w K mg base CX0 1 f1 _ ["text", "signs"] spMade := ok_made F1 y_all
  have Gi : FnOk P w K mg base CX0 2 f2 _ ["run"] spIsInt := ok_isInt F2 Gm b1 k1 g1 y_len Cs
  have Gn : FnOk P w K mg base CX0 2 f3 _ ["run"] spIsName := ok_isName F3 Gm b1 k1 g1 y_len Cs
  have Gp : FnOk P w K mg base CX0 2 f4 _ ["text"] spPieces := ok_pieces F4 y_enumerate
  have Gr : FnOk P w K mg base (L2.CX P w) 3 f5 _ ["text"] (spRead C) := ok_read F5 (by decide) T Gp b4 k4 g4 Gi b2 k2 g2 Gn b3 k3 g3 y_len y_int Cs
  have Gs : FnOk P w K mg base CX0 40 f8 _ ["script"] (spState K) := ok_state F8 y_int y_abs
  have Gd : ∀ n, FnOk P w K mg base CX0 (n + 1) f9 _ ["state", "many"] spDraw := fun n => ok_draw F9 y_int y_len
  have Gk : ∀ n, FnOk P w K mg base CX0 (n + 2) f10 _ ["state", "row"] spPick := fun n => ok_pick F10 (Gd n) b9 k9 g9 y_len
  have Gw : ∀ n, FnOk P w K mg base CX0 (n + 3) f11 _ ["state"] spWord := fun n => ok_word F11 (Gd (n + 1)) b9 k9 g9 (Gk n) b10 k10 g10 y_range
  have Gt : ∀ n, FnOk P w K mg base CX0 (n + 3) f12 _ ["state", "deep"] (spTree n) := fun n => by
    induction n with
    | zero => exact tree_none
    | succ n ih => exact ok_tree F12 ih b12 g12 (Gd (n + 2)) b9 k9 g9 (Gk (n + 1)) b10 k10 g10 (Gw n) b11 k11 g11 y_range y_min
  have Gc : ∀ n, FnOk P w K mg base CX0 n f13 _ ["tree", "names"] (spCounted n) := fun n => by
    induction n with
    | zero => exact counted_none
    | succ n ih => exact ok_counted F13 ih b13 g13 y_len
  have Go : ∀ n, FnOk P w K mg base CX0 n f14 _ ["tree"] (spTokens n) := fun n => by
    induction n with
    | zero => exact tokens_none
    | succ n ih => exact ok_tokens F14 ih b14 g14 y_str
  have Gf : ∀ n, FnOk P w K mg base CX0 n f15 _ ["tree"] (spForm n) := fun n => by
    induction n with
    | zero => exact form_none
    | succ n ih => exact ok_form F15 ih b15 g15 y_str
  have Gx : ∀ n, FnOk P w K mg base CX0 (n + 1) f6 _ ["tree"] spWrite := fun n => ok_write F6 y_isinstance y_str y_reversed y_list y_enumerate qs1 qs2
  have Gy : FnOk P w K mg base CX0 40 f7 _ ["program"] spWriteP := ok_writeP F7 (Gx 38) b6 k6 g6
  exact ok_law F16 Gs b8 k8 g8 (Gd 39) b9 k9 g9 (Gk 38) b10 k10 g10 ((Gt 5).mono (by decide)) b12 k12 g12 ((Gc 31).mono (by decide)) b13 k13 g13 ((Go 32).mono (by decide)) b14 k14 g14 ((Gf 31).mono (by decide)) b15 k15 g15
    (Gx 39) b6 k6 g6 Gy b7 k7 g7 (Gr.mono (by decide)) b5 k5 g5 y_range y_repr
end Sg
open PySem PySem.W PyProof.Rows
set_option maxHeartbeats 0 in
theorem PySem.Challenge.cw_sugartrue_k01_texts_come_back_holds : PySem.Challenge.rw_sugartrue_k01_texts_come_back.Holds := by
  w_on; o_law; k_head; (case hw => w_witness2)
  k_fill
  refine L2.walkG_of (l := PySem.Challenge.rw_sugartrue_k01_texts_come_back) (n := 63) (k := 41) (x := "script") (sp := fun w => Sg.spLaw _) rfl (by decide) rfl ⟨rfl, by decide, by decide⟩ (fun w h Y => PySem.W.kIn_of Y) ?F (fun _ _ a ns hl _ hS => ⟨a, ns, rfl, hS, hl, fun _ => rfl⟩)
  case F =>
    intro w mg fa h KX G hmg
    refine' Sg.all_mk KX G hmg ?a1 ?l1 ?c1 ?k1 ?a2 ?l2 ?c2 ?k2 ?a3 ?l3 ?c3 ?k3 ?a4 ?l4 ?c4 ?k4 ?a5 ?l5 ?c5 ?k5 ?a6 ?l6 ?c6 ?k6 ?a7 ?l7 ?c7 ?k7 ?a8 ?l8 ?c8 ?k8 ?a9 ?l9 ?c9 ?k9 ?a10 ?l10 ?c10 ?k10 ?a11 ?l11 ?c11 ?k11 ?a12 ?l12 ?c12 ?k12 ?a13 ?l13 ?c13 ?k13 ?a14 ?l14 ?c14 ?k14 ?a15 ?l15 ?c15 ?k15 ?a16 ?l16 ?c16 ?k16 ?z_int ?z_abs ?z_len ?z_all ?z_enumerate ?z_range ?z_super ?z_isinstance ?z_str ?z_reversed ?z_list ?z_repr ?z_min ?g_DEEPEST_LIST ?g_MOST_DIGITS ?g_LONGEST_NAME ?g_DIGITS ?g_LETTERS ?g_SP ?l_SP ?aC ?xL ?sa ?ga ?gg ?nb ?iI ?tI ?lI ?cI ?kC ?eC ?tC ?hC ?iC ?sC ?op ?vE ?su ?mr ?lc ?ld ?lv ?lf ?lt ?lq ?qs1 ?qs2
    (case a1 => k_is)
    (case l1 => k_is)
    (case c1 => k_is)
    (case k1 => k_is)
    (case a2 => k_is)
    (case l2 => k_is)
    (case c2 => k_is)
    (case k2 => k_is)
    (case a3 => k_is)
    (case l3 => k_is)
    (case c3 => k_is)
    (case k3 => k_is)
    (case a4 => k_is)
    (case l4 => k_is)
    (case c4 => k_is)
    (case k4 => k_is)
    (case a5 => k_is)
    (case l5 => k_is)
    (case c5 => k_is)
    (case k5 => k_is)
    (case a6 => k_is)
    (case l6 => k_is)
    (case c6 => k_is)
    (case k6 => k_is)
    (case a7 => k_is)
    (case l7 => k_is)
    (case c7 => k_is)
    (case k7 => k_is)
    (case a8 => k_is)
    (case l8 => k_is)
    (case c8 => k_is)
    (case k8 => k_is)
    (case a9 => k_is)
    (case l9 => k_is)
    (case c9 => k_is)
    (case k9 => k_is)
    (case a10 => k_is)
    (case l10 => k_is)
    (case c10 => k_is)
    (case k10 => k_is)
    (case a11 => k_is)
    (case l11 => k_is)
    (case c11 => k_is)
    (case k11 => k_is)
    (case a12 => k_is)
    (case l12 => k_is)
    (case c12 => k_is)
    (case k12 => k_is)
    (case a13 => k_is)
    (case l13 => k_is)
    (case c13 => k_is)
    (case k13 => k_is)
    (case a14 => k_is)
    (case l14 => k_is)
    (case c14 => k_is)
    (case k14 => k_is)
    (case a15 => k_is)
    (case l15 => k_is)
    (case c15 => k_is)
    (case k15 => k_is)
    (case a16 => k_is)
    (case l16 => k_is)
    (case c16 => k_is)
    (case k16 => k_is)
    (case z_int => k_is)
    (case z_abs => k_is)
    (case z_len => k_is)
    (case z_all => k_is)
    (case z_enumerate => k_is)
    (case z_range => k_is)
    (case z_super => k_is)
    (case z_isinstance => k_is)
    (case z_str => k_is)
    (case z_reversed => k_is)
    (case z_list => k_is)
    (case z_repr => k_is)
    (case z_min => k_is)
    (case g_DEEPEST_LIST => k_is)
    (case g_MOST_DIGITS => k_is)
    (case g_LONGEST_NAME => k_is)
    (case g_DIGITS => k_is)
    (case g_LETTERS => k_is)
    (case g_SP => k_is)
    (case l_SP => k_is)
    (case aC => k_is)
    (case xL => k_is)
    (case sa => k_is)
    (case ga => k_is)
    (case gg => k_is)
    (case nb => k_is)
    (case iI => k_is)
    (case tI => k_is)
    (case lI => k_is)
    (case cI => k_is)
    (case kC => k_is)
    (case eC => k_is)
    (case tC => k_is)
    (case hC => k_is)
    (case iC => k_is)
    (case sC => first | rfl | k_is)
    (case op => k_is)
    (case vE => k_is)
    (case su => ks_is)
    (case mr => k_is)
    (case lc => k_is)
    (case ld => k_is)
    (case lv => rfl)
    (case lf => first | rfl | decide +kernel)
    (case lt => first | rfl | decide +kernel)
    (case lq => exact fun _ => ⟨_, rfl⟩)
    (case qs1 => first | rfl | kit_is)
    (case qs2 => first | rfl | kit_is)
