import PyProof.Rows.All
import Wide.All
import OpenK.AllK
import Wide.FinOn
import PyProof.EqAt
import PyProof.EqKinds
import PyProof.TupleCall
import KE.KIsAll
import HandS.Base
import HandS.Call
import HandS.List
import HandS.Ends
import HandS.Exc
import HandS.ExcInit
import HandS.ForExc
import HandS.IsInst
import HandS.Defaults
import HandS.MakeKwOnly
import KE.KIsNot
import OpenK.KDescr
import HandS.ExcIs
import HandS.Evl
import HandS.ForMost
import HandS.More
import HandS.DictComp
import HandS.DeepEq
import PyProof.NeKinds
import PySem.Challenge.RW_answeredsettings_k22_errors_made
set_option Elab.async false
set_option linter.all false
set_option maxRecDepth 100000
set_option maxHeartbeats 4000000
/-! Own errors over Exception: made by position or by name, kept as values. -/
namespace Err
open PySem PySem.W PySem.Calls PyProof.Rows PySem.HandSPX PySem.Builtin PySem.Builtin.ObjectAttr
/-- the chain above an own error: own classes, then the three built-in ones -/
inductive OwnMro : List Value → Prop
  | base : OwnMro [.type "Exception", .type "BaseException", .type "object"]
  | cons (c : Addr) {r : List Value} : OwnMro r → OwnMro (.ref c :: r)
theorem OwnMro.has {l : List Value} (m : OwnMro l) (X : String) : l.contains (.type X) = ([.type "Exception", .type "BaseException", .type "object"] : List Value).contains (.type X) := by
  induction m with
  | base => rfl
  | cons c _ ih => rw [List.contains_cons, ih]; rfl
theorem OwnMro.goes {l : List Value} (m : OwnMro l) (self : Value) : refuseLoop self "__setattr__" l = pure () := by
  induction m with
  | base => exact F.store_Exception.passes self
  | cons c _ ih => rw [refuseLoop_ref]; exact ih
theorem OwnMro.some {l : List Value} (m : OwnMro l) : l.isEmpty = false := by cases m <;> rfl
/-- the object of an error that is being made: t its arguments -/
abbrev raw (C t : Addr) (d : Option Addr) : Obj := { cls := .ref C, dict := d, data := .fields #[.ref t, .none, .none, .none, .bool false, .none] }
section
variable {prog : Program} {w : World} {A : Around} {E : Value → Shared → Prop} {R : Result → Shared → Prop} {hp : Heap} {g : Array GenState} {dr : Drawn} {tk : Nat} {os : OsState}
variable {nm q : Str} {C N : Addr} {bs bm bmB : List Value} {hdct : Bool} {sn : List Str} {sub : List Value} {ab : Bool} {col : Option Bool} {dd : Option Addr} {k0 k1 k2 k3 k5 : Option Value} {B newId initId : String}
/-- the maker is asked whether it may be called: with names, too -/
theorem may_new {M : Model} (FB : ExcBaseFacts B newId initId bmB) (hT : ∀ X : String, bm.contains (.type X) = bmB.contains (.type X)) {us : List Value} {kw : List (Str × Value)} {Q : Unit → Shared → Prop}
    (hC : hp.get? C = Option.some (excClassObj nm q C N bs bm hdct sn sub ab col dd k0 k1 k2 k3 k5 newId)) (hq : Q () ⟨hp, g, dr, tk, os⟩) :
    wpAny M A (checkBuiltinCall newId ⟨.ref C :: us, kw⟩) Q E ⟨hp, g, dr, tk, os⟩ := by
  have has : (Value.ref C :: bm).contains (.type B) = true := by rw [List.contains_cons, hT, FB.hasB, Bool.or_true]
  have st := FB.noStar
  simp only [checkBuiltinCall, FB.newKind, FB.newSplit, FB.newRow]
  repeat (first
    | refine wpAny_loadPart_at hC ?_
    | (refine wpAny_isSubtype_exc hC ?_
       rw [has])
    | refine wpAny_staticBase_exc hC ?_
    | refine wpAny_madeBy_exc hC ?_
    | simp only [bne_self_eq_false, Bool.false_eq_true, if_false]
    | wp_step)
  exact hq
theorem new_any (FB : ExcBaseFacts B newId initId bmB) (hT : ∀ X : String, bm.contains (.type X) = bmB.contains (.type X)) {us : List Value} {kw : List (Str × Value)}
    (hC : hp.get? C = Option.some (excClassObj nm q C N bs bm hdct sn sub ab col dd k0 k1 k2 k3 k5 newId))
    (hq : R (.ok (.ret (.ref (hp.objs.size + 1)))) ⟨(hp.push (kdv_tup us)).push (raw C hp.objs.size none), g, dr, tk, os⟩) (hl : us.length ≤ sizeLine) :
    codeAny (model prog w) A (.builtin newId ⟨.ref C :: us, kw⟩) R ⟨hp, g, dr, tk, os⟩ := by
  have he := FB.ends
  have b1 : (Value.ref C :: bm).contains (.type B) = true := by rw [List.contains_cons, hT, FB.hasB, Bool.or_true]
  have b2 : (Value.ref C :: bm).contains (.type "AttributeError") = false := by rw [List.contains_cons, hT, FB.noAttr]; rfl
  have b3 : (Value.ref C :: bm).contains (.type "NameError") = false := by rw [List.contains_cons, hT, FB.noName]; rfl
  refine codeAny_builtinAt FB.entry ?_
  unfold Builtin.«BaseException.__new__»
  refine PySem.wpAt_bind ?_
  show PySem.wpAt _ _ _ (stack >>= _) _ _ _
  refine PySem.wpAt_bind (PySem.wpAt_stack fun p below => PySem.wpAt_of_wpAny ?_)
  wp_walk
  refine wpAt_of_wpAny ?_
  rw [FB.owner]
  repeat (first
    | with_reducible refine wpAny_madeHere_exc FB.canon hC ?_
    | with_reducible refine wpAny_loadPart_at hC ?_
    | (with_reducible refine wpAny_isSubtype_exc hC ?_
       first | rw [b1] | rw [b2] | rw [b3])
    | wp_step)
  show R _ _
  rw [Heap.size_push]
  exact hq
theorem type_call_any (FB : ExcBaseFacts B newId initId bmB) (hT : ∀ X : String, bm.contains (.type X) = bmB.contains (.type X)) {us : List Value} {kw : List (Str × Value)} {fI : Addr} {Q : Fin → Shared → Prop}
    (hC : hp.get? C = Option.some (excClassObj nm q C N bs bm hdct sn sub ab col dd k0 k1 k2 k3 k5 newId)) (hi : Looks (model prog w) hp (typeLookup (.ref C) "__init__") (Option.some (.ref fI)))
    (hb : ∀ self, Looks (model prog w) hp (bindSpecial (.ref fI) self) (.ref fI, [self])) (hl : us.length ≤ sizeLine)
    (hq : codeAny (model prog w) A (.call (.ref fI) ⟨.ref (hp.objs.size + 1) :: us, kw⟩)
      (fun r s' => match r with | .ok (.ret v) => v = .none ∧ Q (.done (.ret (.ref (hp.objs.size + 1)))) s' | .ok _ => False | .error e => E e s') ⟨(hp.push (kdv_tup us)).push (raw C hp.objs.size none), g, dr, tk, os⟩) :
    wpAny (model prog w) A (Builtin.«type.__call__» ⟨.ref C :: us, kw⟩) Q E ⟨hp, g, dr, tk, os⟩ := by
  repeat (first
    | with_reducible refine wpAny_loadPart_at hC ?_
    | with_reducible refine wpAny_madeBy_exc hC ?_
    | wp_step)
  refine codeAny_call_builtin_code (Code.quiet_builtin _ FB.quiet) (may_new FB hT hC ?_)
  refine new_any FB hT hC ?_ hl
  show wpAny _ _ _ _ _ _
  have keep : ∀ b o, hp.get? b = Option.some o → ((hp.push (kdv_tup us)).push (raw C hp.objs.size none)).get? b = Option.some o := fun b o e => Heap.get?_push_of_some _ (Heap.get?_push_of_some _ e)
  have hC1 := keep _ _ hC
  have here : ((hp.push (kdv_tup us)).push (raw C hp.objs.size none)).get? (hp.objs.size + 1) = Option.some (raw C hp.objs.size none) := by heap_get
  have self : (Value.ref C :: bm).contains (.ref C) = true := by simp
  have i1 := hi.keeps keep
  have b1 := (hb (.ref (hp.objs.size + 1))).keeps keep
  unfold isInstance
  repeat (first
    | with_reducible refine wpAny_loadPart_at here ?_
    | (with_reducible refine wpAny_isSubtype_exc hC1 ?_
       rw [self])
    | wp_step)
  show wpAny _ _ (typeLookup (.ref C) _) _ _ _
  refine i1.at (wpAny_holding (wpAny_bind (b1.at ?_)))
  refine wpAny_bind (wpAny_call (codeAny_mono hq fun r s' z => ?_))
  rcases r with e | (v | _ | _ | _) <;> first | exact z | exact z.elim | skip
  obtain ⟨rfl, z⟩ := z
  first
    | exact wpAny_pure (wpAny_pure z)
    | (wp_walk
       exact z)
theorem call_any (FB : ExcBaseFacts B newId initId bmB) (hT : ∀ X : String, bm.contains (.type X) = bmB.contains (.type X)) {us : List Value} {kw : List (Str × Value)} {fI : Addr}
    (hC : hp.get? C = Option.some (excClassObj nm q C N bs bm hdct sn sub ab col dd k0 k1 k2 k3 k5 newId)) (hi : Looks (model prog w) hp (typeLookup (.ref C) "__init__") (Option.some (.ref fI)))
    (hb : ∀ self, Looks (model prog w) hp (bindSpecial (.ref fI) self) (.ref fI, [self])) (hl : us.length ≤ sizeLine)
    (hq : codeAny (model prog w) (A.under (.builtin "type.__call__" ⟨.ref C :: us, kw⟩)) (.call (.ref fI) ⟨.ref (hp.objs.size + 1) :: us, kw⟩) (InitBack (hp.objs.size + 1) R) ⟨(hp.push (kdv_tup us)).push (raw C hp.objs.size none), g, dr, tk, os⟩) :
    codeAny (model prog w) A (.call (.ref C) ⟨us, kw⟩) R ⟨hp, g, dr, tk, os⟩ := by
  have l1 := tc_lookup
  have l2 := tc_bind (.ref C)
  have ty : (⟨hp, g, dr, tk, os⟩ : Shared).TypeIs (.ref C) "type" := ⟨_, hC, rfl⟩
  have l3 := tc_sub
  refine codeAny_of_tree ?_
  show wpAny _ _ (callAny (.ref C) _) _ _ _
  repeat (any_goals (first
    | assumption
    | with_reducible refine wpAny_loadPart_at hC ?_
    | wp_step))
  refine ⟨rfl, ?_⟩
  have chk : ∀ {M : Model} {Q : Unit → Shared → Prop} {E : Value → Shared → Prop} {A : Around}, Q () ⟨hp, g, dr, tk, os⟩ → wpAny M A (checkBuiltinCall "type.__call__" ⟨.ref C :: us, kw⟩) Q E ⟨hp, g, dr, tk, os⟩ := by
    intro M Q E A hq
    simp only [checkBuiltinCall, tc_kind, tc_split]
    repeat (any_goals (first
      | assumption
      | with_reducible refine wpAny_loadPart_at hC ?_
      | with_reducible refine wpAny_onRaise ?_
      | with_reducible refine wpAny_map ?_
      | wp_step))
  refine codeAny_call_builtin_at (Code.quiet_builtin _ (by decide +kernel)) entry_typeCall (chk (type_call_any FB hT hC hi hb hl ?_))
  refine codeAny_mono hq fun r s' z => ?_
  rcases r with e | (v | _ | _ | _) <;> exact z
end
/-! ### self.f = v on a bare error -/
section
variable {prog : Program} {w : World} {A : Around} {E : Value → Shared → Prop} {R : Result → Shared → Prop} {hp : Heap} {g : Array GenState} {dr : Drawn} {tk : Nat} {os : OsState}
theorem put_first {M : Model} {dx : Addr} {f : Str} {t : Tok} {v : Value} {Q : Fin → Shared → Prop} (he : hp.Ns dx (fun _ => none))
    (hq : ∀ h' tk', h'.Ns1 dx (fun y => if y = f then Option.some v else none) → Heap.SameBut dx hp h' → Q (.done (.ret .none)) ⟨h', g, dr, tk', os⟩) : wpAny M A (storeInDict dx (.str f t) f v) Q E ⟨hp, g, dr, tk, os⟩ := by
  unfold storeInDict newKeyGuard
  refine wpAny_bind (wpAny_pure (wpAny_bind (wpAny_nsSet1 (Heap.Ns1.of_empty he) fun h' n1 sb => ?_)))
  obtain ⟨o, es, ep, ho, hd, hc⟩ := n1.count (Within.cons f v Within.nil)
  have small : es.size ≤ sizeLine + 1 := Nat.le_trans hc (by rw [List.length_cons, List.length_nil, sizeLine_eq]; omega)
  refine wpAny_bind (wpAny_lookBehind ho (by rw [hd]; exact pastItsLine_dict small) ?_)
  wp_walk
  exact hq h' _ n1 sb
theorem set_first {K : Frag} {f : Str} {t : Tok} {v : Value} {x C : Addr} {fv : Array Value} {cd : ClassData} (X : K.In hp) (hx : hp.get? x = Option.some { cls := .ref C, data := .fields fv }) (hcd : clsIn K C = Option.some cd) (hm : OwnMro cd.mro) (hh : cd.hasDict = true)
    (hn : findIn K (.ref C) f = Option.some none)
    (hq : ∀ h' tk' dx, (∀ b o, b ≠ x → hp.get? b = Option.some o → h'.get? b = Option.some o) → hp.objs.size ≤ dx → dx ≠ x → h'.get? x = Option.some { cls := .ref C, dict := Option.some dx, data := .fields fv } →
      h'.Ns1 dx (fun y => if y = f then Option.some v else none) → R (.ok (.ret .none)) ⟨h', g, dr, tk', os⟩) :
    codeAny (model prog w) A (.call (.builtin "object.__setattr__") ⟨[.ref x, .str f t, v], []⟩) R ⟨hp, g, dr, tk, os⟩ := by
  have I : InstAt hp x { cls := .ref C, data := .fields fv } C none := ⟨hx, rfl, rfl, trivial⟩
  have S := F.store_object
  have some_ := hm.some
  have top : cd.mro.contains (.type "object") = true := (hm.has "object").trans (by decide +kernel)
  have xs : x ≠ hp.objs.size := Nat.ne_of_lt (Heap.lt_size hx)
  have isObj : Looks (model prog w) hp (isInstance (.ref x) (.type "object")) true :=
    I.type.andThen (looks_mroIn X (by unfold mroIn; rw [hcd, Option.bind_some, if_neg (by rw [some_]; decide), top]))
  refine codeAny_call_builtin S.slot.plain S.entry (@check_slot (model prog w) _ _ ⟨hp, g, dr, tk, os⟩ "object.__setattr__" "object" "__setattr__" (.ref x) [.str f t, v] [] _ S.kind S.split isObj (S.args (.ref x) (.str f t) v) ?_)
  have mro_ : Looks (model prog w) hp (mroOf (.ref C)) cd.mro := (looks_clsIn X hcd).andThen .now
  have taker : Looks (model prog w) hp (storeTaker? none) none := .now
  have data_ : Looks (model prog w) hp (classData C) cd := looks_clsIn X hcd
  rw [osa_eq, refuse_eq]
  refine wpAny_bind (wpAny_bind (I.type.at (wpAny_bind (mro_.at ?_))))
  rw [hm.goes]
  refine wpAny_pure (wpAny_bind (I.type.at (wpAny_bind ((looks_findIn X hn).at (wpAny_bind (taker.at ?_))))))
  show wpAny _ _ (storeInOwnDict (.ref x) (.ref C) (.str f t) f v false) _ _ _
  obtain ⟨nm, bs, mro, ns, qn, hd, sn, sb, ab, col, del⟩ := cd
  dsimp only at hh
  subst hh
  unfold storeInOwnDict ownDictForStores
  repeat (first
    | with_reducible refine put_first ?_ ?_
    | with_reducible refine wpAny_loadPart_at hx ?_
    | with_reducible refine data_.at ?_
    | wp_step)
  · exact ⟨_, #[], _, (Heap.get?_update_ne _ _ _ _ xs.symm).trans (Heap.get?_push_at rfl rfl), rfl, fun e he => absurd he (by simp), fun _ => rfl⟩
  · intro h' tk' n1 sb
    have x1 : (hp.push { cls := .type "dict", data := .dict #[] }).get? x = Option.some { cls := .ref C, data := .fields fv } := Heap.get?_push_of_some _ hx
    refine hq h' tk' hp.objs.size (fun b o hb ho => ?_) (Nat.le_refl _) xs.symm ?_ n1
    · exact (sb.2 b (Nat.ne_of_lt (Heap.lt_size ho))).trans ((Heap.get?_update_ne _ _ _ _ hb).trans (Heap.get?_push_of_some _ ho))
    · exact (sb.2 x xs).trans (Heap.get?_update_self _ x1 rfl)
end
/-! ### what the top has written of an own error C with the field f; its __init__ at fI -/
def iA (f : Str) (p1 p2 : Pos) : Arguments := { posonlyargs := [], args := [{ arg := "self", annotation := none, pos := p1 }, { arg := f, annotation := none, pos := p2 }], vararg := none, kwonlyargs := [], kw_defaults := [], kwarg := none, defaults := [] }
def iB (f : Str) (q1 q2 q3 q4 : Pos) : List Stmt := [.Assign [.Attribute (.Name "self" q1) f q2] (.Name f q3) q4]
def iS (f : Str) : Scope := { kind := .function, names := [(PySem.Str.ofString "self", .local), (f, .local)], isGenerator := false, isCoroutine := false, more := [] }
structure ErrC (K : Frag) (C fI : Addr) (f : Str) : Prop where
  cls : ∃ nm q N bs bm sn sub ab col dd k0 k1 k2 k3 k5, K.lookup C = Option.some (excClassObj nm q C N bs bm true sn sub ab col dd k0 k1 k2 k3 k5 "Exception.__new__") ∧ OwnMro bm
  sa : findIn K (.ref C) "__setattr__" = Option.some (Option.some (.builtin "object.__setattr__"))
  ga : findIn K (.ref C) "__getattribute__" = Option.some (Option.some (.builtin "BaseException.__getattribute__"))
  gg : findIn K (.ref C) "__getattr__" = Option.some none
  noF : findIn K (.ref C) f = Option.some none
  iC : findIn K (.ref C) "__init__" = Option.some (Option.some (.ref fI))
  tC : typeIn K (.ref fI) = Option.some (.type "function")
  kC : keepIn K (.ref C) = true
  exC : subIn K (.ref C) (.type "BaseException") = Option.some true
  tyC : typeIn K (.ref C) = Option.some (.type "type")
  hdC : hasDictIn K C = true
  fn : ∃ (qn : Str) (oc : Value) (od : Option Addr) (doc pm : Value) (an : Option Addr) (cdv ct : Value) (osl : Array (Option Value)) (p1 p2 q1 q2 q3 q4 : Pos),
    K.lookup fI = Option.some ⟨oc, od, .func (fnOf "__init__" qn (iA f p1 p2) (iB f q1 q2 q3 q4) (iS f) .none .none doc pm an cdv ct), osl⟩ ∧ codeIn K cdv qn = true
/-- a made error -/
structure Made (h h' : Heap) (e C d : Addr) (f : Str) (v : Value) : Prop where
  keep : ∀ b o, h.get? b = Option.some o → h'.get? b = Option.some o
  new : h.objs.size ≤ e
  obj : ∃ t0, h'.get? e = Option.some (raw C t0 (Option.some d))
  dbig : h.objs.size ≤ d
  dne : d ≠ e
  ns : h'.Ns1 d (fun y => if y = f then Option.some v else none)
/-- a field's name that does not get in the way -/
structure Plain (f : Str) : Prop where
  ns : ¬ (f = "self")
  nd : (f == ("__debug__" : Str)) = false
section
variable {prog : Program} {w : World} {A : Around} {E : Value → Shared → Prop} {R : Result → Shared → Prop} {s : Shared} {K : Frag} {C fI : Addr} {f : Str}
theorem ld_own {M : Model} {sh : Shared} {name : Str} {scope : Scope} {L a : Addr} {cd : Value} {m : Str → Option Value} {x : Str} {pos : Pos} {v : Value} {Q : Value → Shared → Prop} (hn : sh.heap.Ns L m) (hk : scope.kind = .function) (hl : (envOfC name scope L a cd).kindOf x = Option.some .local)
    (hd : (x == ("__debug__" : Str)) = false) (hv : m x = Option.some v) (h : Q v sh) : wpAny M A (eval (.Name x pos) (envOfC name scope L a cd)) Q E sh := wpAny_Name (wpAny_loadName_local hk hl hn hv h) hd
theorem init_any (T : ErrC K C fI f) (pf : Plain f) {x t0 : Addr} {v : Value} {us : List Value} {kw : List (Str × Value)} (X : K.In s.heap) (lim : s.heap.NoLimit) (hx : s.heap.get? x = Option.some (raw C t0 none)) (deep : A.depth < recursionLimit)
    (hb : ∀ (qn : Str) (doc pm : Value) (an : Option Addr) (cdv ct : Value) (p1 p2 q1 q2 q3 q4 : Pos), bindArgs (fnOf "__init__" qn (iA f p1 p2) (iB f q1 q2 q3 q4) (iS f) .none .none doc pm an cdv ct) ⟨.ref x :: us, kw⟩ = pure [(("self" : Str), Value.ref x), (f, v)])
    (hq : ∀ h' t' dx, (∀ b o, b ≠ x → s.heap.get? b = Option.some o → h'.get? b = Option.some o) → h'.get? x = Option.some (raw C t0 (Option.some dx)) → s.heap.objs.size ≤ dx → dx ≠ x → h'.Ns1 dx (fun y => if y = f then Option.some v else none) →
      R (.ok (.ret .none)) { s with heap := h', toks := t' }) : codeAny (model prog w) A (.call (.ref fI) ⟨.ref x :: us, kw⟩) R s := by
  obtain ⟨qn, oc, od, doc, pm, an, cdv, ct, osl, p1, p2, q1, q2, q3, q4, ho, hcd⟩ := T.fn
  obtain ⟨nm, q, N, bs, bm, sn, sub, ab, col, dd, k0, k1, k2, k3, k5, hC, hbm⟩ := T.cls
  have hcl : clsIn K C = Option.some { name := nm, bases := bs, mro := .ref C :: bm, ns := N, qualname := q, hasDict := true, slotNames := sn, subclasses := sub, abstract := ab, collection := col, hasDel := false } := by unfold clsIn; rw [hC] <;> rfl
  have sf : (f == ("self" : Str)) = false := by simpa using pf.ns
  have fs : (("self" : Str) == f) = false := by simpa using fun e : ("self" : Str) = f => pf.ns e.symm
  have lkf : (iS f).names.lookup f = Option.some NameKind.local := by
    show List.lookup f [((PySem.Str.ofString "self" : Str), NameKind.local), (f, NameKind.local)] = _
    have sf' : (f == (PySem.Str.ofString "self")) = false := sf
    simp [List.lookup, sf']
  refine Att.call_fn (binds := [(("self" : Str), Value.ref x), (f, v)]) X lim ho hcd deep (BindsTo.of_eq (hb qn doc pm an cdv ct p1 p2 q1 q2 q3 q4)) ?bb (fun s1 IC => ?_) rfl rfl rfl
  case bb =>
    show (((iS f).names.lookup ("self" : Str) == Option.some .local || (iS f).names.lookup ("self" : Str) == Option.some .cell) && (((iS f).names.lookup f == Option.some .local || (iS f).names.lookup f == Option.some .cell) && true)) = true
    rw [lkf]
    rfl
  have kf : (envOfC qn (iS f) s.heap.objs.size fI cdv).kindOf f = Option.some .local := lkf
  have ks : (envOfC qn (iS f) s.heap.objs.size fI cdv).kindOf ("self" : Str) = Option.some .local := rfl
  obtain ⟨h1, t1, rfl⟩ := IC.toInCall.same
  have k : ∀ b o, s.heap.get? b = Option.some o → h1.get? b = Option.some o := IC.toInCall.keep
  have ns1 := IC.toInCall.ns
  have X1 : K.In h1 := X.keeps k
  have x1 := k _ _ hx
  show wpAny _ _ (execs _ _) _ _ _
  refine wpAny_execs_cons (plainObj_wpAny_Assign_Attribute ?_)
  refine ld_own (v := v) ns1 rfl ?l1 pf.nd ?v1 (ld_own (v := .ref x) ns1 rfl ?l2 (by decide) ?v2 ?_)
  case l1 => exact kf
  case l2 => exact ks
  case v1 => simp [bindL, kf, ks, fs, sf]
  case v2 =>
    simp [bindL, kf, ks, fs, sf]
    exact fun e => (pf.ns e.symm).elim
  refine set_plain X1 (ox := raw C t0 none) (od := none) ⟨x1, rfl, rfl, trivial⟩ T.sa ?_
  refine set_first X1 x1 hcl (show OwnMro (.ref C :: bm) from .cons C hbm) rfl T.noF (fun h3 t3 dx k3 dn dne x3 n3 => ?_)
  show wpAny _ _ (execs _ _) _ _ _
  have z : s.heap.objs.size < h1.objs.size := ns1.lt
  exact wpAny_execs_nil (hq h3 t3 dx (fun b o hb e => k3 b o hb (k b o e)) x3 (Nat.le_of_lt (Nat.lt_of_lt_of_le z dn)) dne n3)
theorem made_any (T : ErrC K C fI f) (pf : Plain f) {v : Value} {us : List Value} {kw : List (Str × Value)} (X : K.In s.heap) (lim : s.heap.NoLimit) (deep : A.depth + 1 < recursionLimit) (hl : us.length ≤ sizeLine)
    (hb : ∀ (x : Addr) (qn : Str) (doc pm : Value) (an : Option Addr) (cdv ct : Value) (p1 p2 q1 q2 q3 q4 : Pos), bindArgs (fnOf "__init__" qn (iA f p1 p2) (iB f q1 q2 q3 q4) (iS f) .none .none doc pm an cdv ct) ⟨.ref x :: us, kw⟩ = pure [(("self" : Str), Value.ref x), (f, v)])
    (hq : ∀ h' t' e d, Made s.heap h' e C d f v → R (.ok (.ret (.ref e))) { s with heap := h', toks := t' }) : codeAny (model prog w) A (.call (.ref C) ⟨us, kw⟩) R s := by
  obtain ⟨nm, q, N, bs, bm, sn, sub, ab, col, dd, k0, k1, k2, k3, k5, hC, hbm⟩ := T.cls
  obtain ⟨hp, g, dr, tk, os⟩ := s
  have k : ∀ b o, hp.get? b = Option.some o → ((hp.push (kdv_tup us)).push (raw C hp.objs.size none)).get? b = Option.some o := fun b o e => Heap.get?_push_of_some _ (Heap.get?_push_of_some _ e)
  have here : ((hp.push (kdv_tup us)).push (raw C hp.objs.size none)).get? (hp.objs.size + 1) = Option.some (raw C hp.objs.size none) := by heap_get
  refine call_any F.excBase_Exception hbm.has (X _ _ hC) (looks_findIn X T.iC) (fun self => bind_fn X self T.tC) hl ?_
  refine init_any (s := ⟨(hp.push (kdv_tup us)).push (raw C hp.objs.size none), g, dr, tk, os⟩) T pf (X.keeps k) (lim.keeps k) here deep (hb _) fun h' t' dx k' hx dn dne hns => ?_
  have old : ∀ b o, hp.get? b = Option.some o → h'.get? b = Option.some o := fun b o e => k' b o (Nat.ne_of_lt (Nat.lt_succ_of_lt (Heap.lt_size e))) (k b o e)
  have z : hp.objs.size + 1 + 1 ≤ dx := by
    have q := dn
    simp only [Heap.size_push] at q
    exact q
  exact ⟨rfl, hq h' t' (hp.objs.size + 1) dx ⟨old, Nat.le_succ _, ⟨_, hx⟩, Nat.le_trans (Nat.le_trans (Nat.le_succ _) (Nat.le_succ _)) z, dne, hns⟩⟩
end
end Err
namespace Err
open PySem PySem.Spec PyProof.Rows L2
/-- an error as a value at e: its class at C, its own dict at d -/
def errO (e C d : Addr) : HO := .ext fun h => ∃ t0, h.get? e = some (raw C t0 (some d))
structure ErrAt (H : Hp) (e C d : Addr) (f : Str) (v : V) : Prop where
  ob : H e = some (errO e C d)
  dc : H d = some (.xd [(f, v)])
theorem errO_ok {P : Program} {w : World} {H : Hp} {h : Heap} {e C d t0 : Addr} (he : h.get? e = some (raw C t0 (some d))) : ObjOk P w H h e (errO e C d) :=
  ⟨⟨t0, he⟩, ⟨_, he⟩, fun _ _ ⟨t, q⟩ k => ⟨t, k _ q⟩⟩
theorem errO_at {P : Program} {w : World} {H : Hp} {h : Heap} {e C d : Addr} (hok : HOk P w H h) (he : H e = some (errO e C d)) : ∃ t0, h.get? e = some (raw C t0 (some d)) := by
  have x : ObjOk P w H h e (.ext fun h => ∃ t0, h.get? e = some (raw C t0 (some d))) := hok e _ he
  exact x.1
theorem one_field {v : V} {v' : Value} (r : RelV v v') (f g : Str) : RelO (List.lookup g [(f, v)]) (if g = f then some v' else none) := by
  by_cases h : g = f
  · subst h
    simp [List.lookup, RelO, r]
  · have q : (g == f) = false := by simpa using h
    simp [List.lookup, q, h, RelO]
section
variable {X : Cx} {pins : List (Addr × Obj)} {σ : L2.St} {H : Hp} {s : Shared} {C fI : Addr} {f : Str}
/-- a made error is laid and tracked -/
theorem Made.inv {h' : Heap} {t' : Nat} {e d : Addr} {v : V} {u : Value} (I : Inv X pins σ H s) (M : Made s.heap h' e C d f u) (r : RelV v u) :
    Inv X pins σ (upd (upd H d (.xd [(f, v)])) e (errO e C d)) { s with heap := h', toks := t' } := by
  have ne : H e = none := I.hok.fresh M.new
  have nd : H d = none := I.hok.fresh M.dbig
  have ee : ∀ {b : Addr} {o : Obj}, s.heap.get? b = some o → b ≠ e := fun {b o} q => Nat.ne_of_lt (Nat.lt_of_lt_of_le (Heap.lt_size q) M.new)
  have ed : ∀ {b : Addr} {o : Obj}, s.heap.get? b = some o → b ≠ d := fun {b o} q => Nat.ne_of_lt (Nat.lt_of_lt_of_le (Heap.lt_size q) M.dbig)
  have stay : ∀ {b : Addr} {o : HO}, H b = some o → (upd (upd H d (.xd [(f, v)])) e (errO e C d)) b = some o := fun {b o} q => by
    rw [upd_ne (ne_of_none q ne), upd_ne (ne_of_none q nd)]; exact q
  obtain ⟨t0, hob⟩ := M.obj
  have free : ∀ {b : Addr} {o : Obj}, s.heap.get? b = some o → H b = none → (upd (upd H d (.xd [(f, v)])) e (errO e C d)) b = none := fun {b o} q n => by
    rw [upd_ne (ee q), upd_ne (ed q)]; exact n
  have U : Un X.fs [] H (upd (upd H d (.xd [(f, v)])) e (errO e C d)) s.heap h' :=
    { keep := fun b o q _ _ _ => M.keep b o q
      slot := fun b o q _ _ _ => ⟨o.slots, M.keep b o q⟩
      free := fun b o q n _ => free q n
      there := fun b o q _ => ⟨o, M.keep b o q⟩
      tups := fun b xs q => stay q
      frzs := fun b o u q => stay q
      tbls := fun b ps q => ⟨#[], by rw [stay q]; simp⟩ }
  refine I.un (t' := t') U fun b o q => ?_
  by_cases hb : b = e
  · subst hb
    rw [upd_same] at q
    cases q
    exact errO_ok hob
  · rw [upd_ne hb] at q
    by_cases hd : b = d
    · subst hd
      rw [upd_same] at q
      cases q
      exact ⟨_, M.ns, fun g => one_field r f g⟩
    · rw [upd_ne hd] at q
      exact (I.hok b o q).stay (fun c z _ y => M.keep c z y) (fun c y => stay y) fun c xs y => stay y
end
/-- the reading of a made error -/
def tErr (C : Addr) (f : Str) (te : TE) : TE := fun σ H Q => te σ H fun v H1 => ∀ e d, H1 e = none → H1 d = none → d ≠ e → Q (.ref e) (upd (upd H1 d (.xd [(f, v)])) e (errO e C d))
section
variable {X : Cx} {C fI : Addr} {f x : Str} {a : Expr} {te : TE} {p pos : Pos}
theorem run_err {pins : List (Addr × Obj)} {σ : L2.St} {H : Hp} {s : Shared} {Q : VK} {v : V} {u : Value} {us : List Value} {kw : List (Str × Value)} (T : ErrC X.K C fI f) (pf : Plain f) (hr : Room 1 X.A) (I : Inv X pins σ H s) (r : RelV v u) (hl : us.length ≤ sizeLine)
    (hb : ∀ (x : Addr) (qn : Str) (doc pm : Value) (an : Option Addr) (cdv ct : Value) (p1 p2 q1 q2 q3 q4 : Pos), bindArgs (PySem.W.fnOf "__init__" qn (iA f p1 p2) (iB f q1 q2 q3 q4) (iS f) .none .none doc pm an cdv ct) ⟨.ref x :: us, kw⟩ = pure [(("self" : Str), Value.ref x), (f, u)])
    (h : ∀ e d, H e = none → H d = none → d ≠ e → Q (.ref e) (upd (upd H d (.xd [(f, v)])) e (errO e C d))) : wpAny (model X.prog X.w) X.A (call (.ref C) us kw) (EP X pins σ Q) X.xe s := by
  have lim := I.nolimit
  have hd := hr.dp
  obtain ⟨hp, g, dr, tk, os⟩ := s
  refine wpAny_call (made_any T pf I.kIn lim (by omega) hl hb fun h' t' e d M => ?_)
  exact ⟨.ref e, _, M.inv I r, rfl, h e d (I.hok.fresh M.new) (I.hok.fresh M.dbig) M.dne⟩
theorem pe_err (T : ErrC X.K C fI f) (pf : Plain f) (hr : Room 1 X.A) (hm : X.mg x = some (.ref C)) (hg : Gl X x) (ha : PE X a te)
    (hb : ∀ (y : Addr) (u : Value) (qn : Str) (doc pm : Value) (an : Option Addr) (cdv ct : Value) (p1 p2 q1 q2 q3 q4 : Pos), bindArgs (PySem.W.fnOf "__init__" qn (iA f p1 p2) (iB f q1 q2 q3 q4) (iS f) .none .none doc pm an cdv ct) ⟨[.ref y, u], []⟩ = pure [(("self" : Str), Value.ref y), (f, u)])
    (hs : starEach [a] X.env = (false, eval a X.env) :: starEach [] X.env := by rfl) (hdb : (x == ("__debug__" : Str)) = false := by decide) (hpl : (backTo pos (starEach [] X.env)).any (·.1) = false := by rfl) :
    PE X (.Call (.Name x p) [a] [] pos) (tErr C f te) := by
  refine ⟨fun pins s σ H Q I h => ?_⟩
  refine wpAny_Call_Name_kw (ld_glob I hg hm ?_ hdb)
  refine PySem.W.callWith_K (h₀ := X.base) I.ok.mod.kin T.kC ?_ hs hpl
  rw [hs]
  show wpAny _ _ (spliced ((false, eval a X.env) :: backTo pos (starEach [] X.env))) _ _ s
  refine Calls.spliced_cons (thn (ha.run pins s σ H _ I h) fun u s1 ⟨v, H1, I1, r1, q1⟩ => ?_)
  refine Calls.spliced_nil ⟨I1.kIn, ?_⟩
  show wpAny _ _ (call (.ref C) [u]) _ _ _
  exact run_err T pf hr I1 r1 (by show 1 ≤ sizeLine; rw [sizeLine_eq]; omega) (fun y => hb y u) q1
theorem pe_errK {kws : List Keyword} {tk : TA} (T : ErrC X.K C fI f) (pf : Plain f) (hr : Room 1 X.A) (hm : X.mg x = some (.ref C)) (hg : Gl X x) (hkw : PK X kws tk)
    (hb : ∀ (y : Addr) (u : Value) (qn : Str) (doc pm : Value) (an : Option Addr) (cdv ct : Value) (p1 p2 q1 q2 q3 q4 : Pos), bindArgs (PySem.W.fnOf "__init__" qn (iA f p1 p2) (iB f q1 q2 q3 q4) (iS f) .none .none doc pm an cdv ct) ⟨[.ref y], [(f, u)]⟩ = pure [(("self" : Str), Value.ref y), (f, u)])
    (hall : (backToKw pos (keywordEach kws X.env)).all (·.1.isSome) = true := by rfl) (hks : (backToKw pos (keywordEach kws X.env)).filterMap (·.1) = [f] := by rfl) (hdb : (x == ("__debug__" : Str)) = false := by decide)
    (hpl : ((backTo pos (starEach [] X.env)).any (·.1) || (backToKw pos (keywordEach kws X.env)).any (·.1.isNone)) = false := by rfl) :
    PE X (.Call (.Name x p) [] kws pos) (fun σ H Q => tk σ H fun zs H1 => ∃ v, zs = [v] ∧ ∀ e d, H1 e = none → H1 d = none → d ≠ e → Q (.ref e) (upd (upd H1 d (.xd [(f, v)])) e (errO e C d))) := by
  refine ⟨fun pins s σ H Q I h => ?_⟩
  refine wpAny_Call_Name_kw (ld_glob I hg hm ?_ hdb)
  refine PySem.W.callWith_KW0 (h₀ := X.base) I.ok.mod.kin T.kC hall ?_ hpl
  refine thn (hkw.run pos pins s σ H _ I h) fun ws s2 ⟨zs, H2, I2, rz, v, ez, q2⟩ => ⟨I2.kIn, ?_⟩
  subst ez
  rw [hks]
  cases rz with
  | cons r1 rn =>
    cases rn
    show wpAny _ _ (call (.ref C) [] [(f, _)]) _ _ _
    exact run_err (us := []) T pf hr I2 r1 (Nat.zero_le _) (fun y => hb y _) q2
/-- error.f -/
def tErrF (K : PySem.W.Frag) (f : Str) (te : TE) : TE := fun σ H Q => te σ H fun x H1 => ∃ (e C fI d : Addr) (v : V), x = .ref e ∧ ErrC K C fI f ∧ ErrAt H1 e C d f v ∧ Q v H1
theorem pe_errF (he : PE X a te) (hb : attributeBase a f X.env (eval a X.env) = eval a X.env := by rfl) : PE X (.Attribute a f pos) (tErrF X.K f te) := by
  refine ⟨fun pins s σ H Q I h => ?_⟩
  refine attr_of hb (thn (he.run pins s σ H _ I h) fun u s1 hh => ?_)
  obtain ⟨y, H1, I1, rx, e, C, fI, d, v, ex, T, at_, q⟩ := hh
  subst ex
  obtain rfl : u = Value.ref e := rx
  obtain ⟨t0, ho⟩ := errO_at I1.hok at_.ob
  have hx : ObjOk X.prog X.w H1 s1.heap d (.xd [(f, v)]) := I1.hok d _ at_.dc
  obtain ⟨mA, hns, hrel⟩ := hx
  obtain ⟨od, hod, hl⟩ := lookIn_ns hns
  have l : List.lookup f [(f, v)] = some v := by simp [List.lookup]
  obtain ⟨u, hu, ru⟩ := RelO.some_of (v := v) (o := mA f) (by rw [← l]; exact hrel f)
  have J : PySem.W.InstAt s1.heap e (raw C t0 (some d)) C (some od) := ⟨ho, rfl, rfl, hod⟩
  exact HandSPX.exc_get I1.kIn J T.ga T.gg T.exC (PySem.W.findObj_own T.hdC T.noF rfl (by rw [hl, hu])) (handed_of ru) ⟨v, H1, I1.tok _, ru, q⟩
end
end Err
namespace Err
open PySem PySem.W PySem.Spec PySem.Calls PyProof.Rows
section
variable {prog : Program} {w : World} {A : Around} {E : Value → Shared → Prop} {s : Shared} {K : Frag} {x D : Addr}
/-- error.__class__, the error with a dict of its own -/
theorem class_of {ox od : Obj} {Q : Option Value → Shared → Prop} (T : L2.ExcC K D) (X : K.In s.heap) (I : InstAt s.heap x ox D (some od)) (h : Q (some (.ref D)) { s with toks := s.toks + 1 }) :
    wpAny (model prog w) A (getAttr? (.ref x) "__class__") Q E s := by
  have fo : findObj K D (some od) "__class__" = some (.bind (.builtin "getset_descriptor.__get__") (.builtin "object.__class__")) :=
    findObj_data (by obtain ⟨cd, hc, _⟩ := any_some T.hd; rw [hc]; rfl) T.ha T.hn T.ht
  obtain ⟨hp, g, d, t, os⟩ := s
  have ty := I.type (M := model prog w)
  have l1 := looks_findIn (M := model prog w) X T.hg
  have l2 := looks_findIn (M := model prog w) X T.hk
  have l3 := looks_find (M := model prog w) X I fo
  have sub : Looks (model prog w) hp (isInstance (.ref x) (.type "BaseException")) true := ty.andThen (looks_subIn X T.hs)
  have e0 : (false && onTheHeap (Value.builtin "BaseException.__getattribute__")) = false := rfl
  have e2 : (Value.builtin "BaseException.__getattribute__" == Value.builtin "object.__getattribute__") = false := by decide +kernel
  have e1 : (onTheHeap (Value.ref D) && Value.builtin "BaseException.__getattribute__" == Value.builtin "object.__getattribute__") = false := by rw [e2]; rfl
  unfold getAttr? getAttrBy? getAttrBy
  refine wpAny_bind (wpAny_mkText (wpAny_bind (wpAny_attempt (wpAny_holding (wpAny_bind (ty.at (wpAny_bind (l1.at ?_))))))))
  show wpAny _ _ (if (onTheHeap (Value.ref D) && Value.builtin "BaseException.__getattribute__" == Value.builtin "object.__getattribute__") = true then _ else _) _ _ _
  rw [e1, if_neg Bool.false_ne_true]
  unfold getAttrByItsOwn hookBefore
  refine wpAny_bind ?_
  rw [if_pos (show onTheHeap (Value.ref D) = true from rfl)]
  refine l2.at (wpAny_bind (wpAny_attempt (wpAny_holding ?_)))
  unfold callGetattribute
  rw [e0, if_neg Bool.false_ne_true]
  unfold boundAndCalled
  rw [PySem.F.excAttr_ValueError.ga.bind (.ref x)]
  refine wpAny_bind (wpAny_pure ?_)
  show wpAny _ _ (call (.builtin "BaseException.__getattribute__") [.ref x, .str "__class__" t]) _ _ _
  refine wpAny_call (codeAny_call_builtin PySem.F.excAttr_ValueError.ga.plain PySem.F.entry_bexc_ga ?_)
  refine @check_slot (model prog w) _ _ ⟨hp, g, d, t + 1, os⟩ "BaseException.__getattribute__" "BaseException" "__getattribute__" (.ref x) [.str "__class__" t] [] _ (by decide +kernel) (by decide +kernel) sub (PySem.F.args_bexc_ga (.ref x) (.str "__class__" t)) ?_
  unfold Builtin.«object.__getattribute__»
  refine wpAny_bind (wpAny_of_eq (a := ((Value.ref x : Value), [Value.str "__class__" t])) (by first | rfl | (simp only [slotArgs]; rfl)) ?_)
  refine wpAny_bind (wpAny_pure (wpAny_bind (ty.at (wpAny_bind (l3.at ?_)))))
  show wpAny _ _ (holding [Value.builtin "object.__class__"] (call (.builtin "getset_descriptor.__get__") [.builtin "object.__class__", .ref x, .ref D]) >>= ret) _ _ _
  refine wpAny_bind (wpAny_holding (wpAny_call (class_get (s := ⟨hp, g, d, t + 1, os⟩) (ox := ox) (od := some od) X I T.hm ?_)))
  refine wpAny_pure ?_
  show wpAny _ _ (handedOut (.ref D)) _ _ _
  rw [handedOut_of (v := .ref D) rfl]
  first
    | exact wpAny_pure (wpAny_pure h)
    | exact wpAny_pure h
    | exact wpAny_pure (wpAny_bind (wpAny_pure (wpAny_pure h)))
theorem kit_err (T : L2.ExcC K D) : KitX K (.ref x) (.ref D) (fun h => ∃ ox od, InstAt h x ox D (some od)) where
  ty := fun _ _ _ ⟨_, _, I⟩ => I.type
  it := fun _ _ X _ => by
    obtain ⟨cdD, hcD, _⟩ := any_some T.hd
    unfold clsIn at hcD
    split at hcD
    · rename_i c' d' cd' sl' ho
      intro A' Q' E' s' k q
      unfold isType loadHead
      exact wpAny_bind (wpAny_loadPart (k _ _ (X _ _ ho)) (wpAny_pure q))
    · cases hcD
  ne := fun h tp dd its n sl X htp => by
    obtain ⟨cdD, hcD, _⟩ := any_some T.hd
    refine Bool.eq_false_iff.mpr fun q => ?_
    have e : D = tp := Value.ref.inj (beq_iff_eq.mp q)
    subst e
    unfold clsIn at hcD
    split at hcD
    · rename_i c' d' cd' sl' ho
      have z := (X _ _ ho).symm.trans htp
      cases z
    · cases hcD
  ca := fun X ⟨_, _, I⟩ k => class_of T X I k
end
open L2
/-- isinstance(error, c), c a class -/
def rIsErr (K : Frag) : List V → Hp → VK → Prop := fun xs H Q => ∃ (e C d : Addr) (f : Str) (v c : V) (cv : Value) (b : Bool), xs = [.ref e, c] ∧ ErrAt H e C d f v ∧ ExcC K C ∧ (∀ u, RelV c u → u = cv) ∧ kitOne K (.ref C) cv = some b ∧ Q (.bl b) H
theorem call_isErr {X : Cx} : CallR X (.builtin "isinstance") (rIsErr X.K) := by
  intro pins s σ H xs us Q I r h
  obtain ⟨e, C, d, f, v, c, cv, b, rfl, at_, T, hcv, k1, q⟩ := h
  cases r with
  | cons rx rr =>
    cases rr with
    | cons rt rr =>
      cases rr
      cases rx
      have ec := hcv _ rt
      subst ec
      obtain ⟨t0, ho⟩ := errO_at I.hok at_.ob
      have hx : ObjOk X.prog X.w H s.heap d (.xd [(f, v)]) := I.hok d _ at_.dc
      obtain ⟨mA, hns, _⟩ := hx
      obtain ⟨od, hod, _⟩ := lookIn_ns hns
      exact kia_one (kit_err T) I.kIn ⟨raw C t0 (some d), od, ⟨ho, rfl, rfl, hod⟩⟩ k1 (fun z => nomatch z) fun tk => ⟨.bl b, H, I.kept (t' := tk) fun _ _ z => z, rfl, q⟩
end Err
/-! An own error whose __init__ does nothing. -/
namespace Err
open PySem PySem.W PySem.Calls PyProof.Rows PySem.HandSPX
def nA (p1 : Pos) : Arguments := { posonlyargs := [], args := [{ arg := "self", annotation := none, pos := p1 }], vararg := none, kwonlyargs := [], kw_defaults := [], kwarg := none, defaults := [] }
def nB (q1 : Pos) : List Stmt := [.Pass q1]
def nS : Scope := { kind := .function, names := [(PySem.Str.ofString "self", .local)], isGenerator := false, isCoroutine := false, more := [] }
structure NilC (K : Frag) (C fI : Addr) : Prop where
  cls : ∃ nm q N bs bm sn sub ab col dd k0 k1 k2 k3 k5, K.lookup C = some (excClassObj nm q C N bs bm true sn sub ab col dd k0 k1 k2 k3 k5 "Exception.__new__") ∧ OwnMro bm
  iC : findIn K (.ref C) "__init__" = some (some (.ref fI))
  tC : typeIn K (.ref fI) = some (.type "function")
  kC : keepIn K (.ref C) = true
  fn : ∃ (qn : Str) (oc : Value) (od : Option Addr) (doc pm : Value) (an : Option Addr) (cdv ct : Value) (osl : Array (Option Value)) (p1 q1 : Pos),
    K.lookup fI = some ⟨oc, od, .func (fnOf "__init__" qn (nA p1) (nB q1) nS .none .none doc pm an cdv ct), osl⟩ ∧ codeIn K cdv qn = true
structure Made0 (h h' : Heap) (e C : Addr) : Prop where
  keep : ∀ b o, h.get? b = some o → h'.get? b = some o
  new : h.objs.size ≤ e
  obj : ∃ t0, h'.get? e = some (raw C t0 none)
section
variable {prog : Program} {w : World} {A : Around} {E : Value → Shared → Prop} {R : Result → Shared → Prop} {s : Shared} {K : Frag} {C fI : Addr}
theorem made_nil (T : NilC K C fI) (X : K.In s.heap) (lim : s.heap.NoLimit) (deep : A.depth + 1 < recursionLimit) (hq : ∀ h' t' e, Made0 s.heap h' e C → R (.ok (.ret (.ref e))) { s with heap := h', toks := t' }) :
    codeAny (model prog w) A (.call (.ref C) ⟨[], []⟩) R s := by
  obtain ⟨nm, q, N, bs, bm, sn, sub, ab, col, dd, k0, k1, k2, k3, k5, hC, hbm⟩ := T.cls
  obtain ⟨qn, oc, od, doc, pm, an, cdv, ct, osl, p1, q1, ho, hcd⟩ := T.fn
  obtain ⟨hp, g, dr, tk, os⟩ := s
  have k : ∀ b o, hp.get? b = some o → ((hp.push (kdv_tup [])).push (raw C hp.objs.size none)).get? b = some o := fun b o e => Heap.get?_push_of_some _ (Heap.get?_push_of_some _ e)
  have here : ((hp.push (kdv_tup [])).push (raw C hp.objs.size none)).get? (hp.objs.size + 1) = some (raw C hp.objs.size none) := by heap_get
  refine call_any F.excBase_Exception hbm.has (X _ _ hC) (looks_findIn X T.iC) (fun self => bind_fn X self T.tC) (Nat.zero_le _) ?_
  refine Att.call_fn (s := ⟨(hp.push (kdv_tup [])).push (raw C hp.objs.size none), g, dr, tk, os⟩) (binds := [(("self" : Str), Value.ref (hp.objs.size + 1))]) (X.keeps k) (lim.keeps k) ho hcd deep (BindsTo.of_eq (by first | rfl | with_unfolding_all rfl)) (by first | rfl | decide) (fun s1 IC => ?_) rfl rfl rfl
  obtain ⟨h1, t1, rfl⟩ := IC.toInCall.same
  have k1 := IC.toInCall.keep
  show wpAny _ _ (execs _ _) _ _ _
  refine wpAny_execs_cons (wpAny_Pass ?_)
  show wpAny _ _ (execs _ _) _ _ _
  refine wpAny_execs_nil ?_
  exact ⟨rfl, hq h1 t1 (hp.objs.size + 1) ⟨fun b o e => k1 b o (k b o e), Nat.le_succ _, ⟨_, k1 _ _ here⟩⟩⟩
end
open L2
def err0 (e C : Addr) : HO := .ext fun h => ∃ t0, h.get? e = some (raw C t0 none)
theorem err0_at {P : Program} {w : World} {H : Hp} {h : Heap} {e C : Addr} (hok : HOk P w H h) (he : H e = some (err0 e C)) : ∃ t0, h.get? e = some (raw C t0 none) := by
  have x : ObjOk P w H h e (.ext fun h => ∃ t0, h.get? e = some (raw C t0 none)) := hok e _ he
  exact x.1
def tErr0 (C : Addr) : TE := fun _ H Q => ∀ e, H e = none → Q (.ref e) (upd H e (err0 e C))
section
variable {X : Cx} {C fI : Addr} {x : Str} {p pos : Pos}
theorem pe_err0 (T : NilC X.K C fI) (hr : Room 1 X.A) (hm : X.mg x = some (.ref C)) (hg : Gl X x) (hdb : (x == ("__debug__" : Str)) = false := by decide) : PE X (.Call (.Name x p) [] [] pos) (tErr0 C) := by
  refine ⟨fun pins s σ H Q I h => ?_⟩
  refine wpAny_Call_Name_kw (ld_glob I hg hm ?_ hdb)
  have lim := I.nolimit
  have hd := hr.dp
  have go : ∀ s1 : Shared, Inv X pins σ H s1 → wpAny (model X.prog X.w) X.A (call (.ref C) []) (EP X pins σ Q) X.xe s1 := fun s1 I1 => by
    have lim := I1.nolimit
    obtain ⟨hp, g, dr, tk, os⟩ := s1
    refine wpAny_call (made_nil T I1.kIn lim (by omega) fun h' t' e M => ?_)
    obtain ⟨t0, ho⟩ := M.obj
    have ok : ObjOk X.prog X.w (upd H e (err0 e C)) h' e (err0 e C) := ⟨⟨t0, ho⟩, ⟨_, ho⟩, fun _ _ ⟨t, q⟩ k => ⟨t, k _ q⟩⟩
    exact ⟨.ref e, _, I1.laid (t' := t') M.keep M.new ok, rfl, h e (I1.hok.fresh M.new)⟩
  exact PySem.W.callWith_K0 I.kIn T.kC (go s I)
def rIs0 (K : Frag) : List V → Hp → VK → Prop := fun xs H Q => ∃ (e C : Addr) (c : V) (cv : Value) (b : Bool), xs = [.ref e, c] ∧ H e = some (err0 e C) ∧ ExcC K C ∧ (∀ u, RelV c u → u = cv) ∧ kitOne K (.ref C) cv = some b ∧ Q (.bl b) H
theorem call_is0 : CallR X (.builtin "isinstance") (rIs0 X.K) := by
  intro pins s σ H xs us Q I r h
  obtain ⟨e, C, c, cv, b, rfl, he, T, hcv, k1, q⟩ := h
  cases r with
  | cons rx rr =>
    cases rr with
    | cons rt rr =>
      cases rr
      cases rx
      have ec := hcv _ rt
      subst ec
      obtain ⟨t0, ho⟩ := err0_at I.hok he
      exact kia_one (handS_kitx_exc T.hg T.hk T.hs T.hd T.ha T.hn T.ht T.hm) I.kIn (⟨ho, rfl, rfl, trivial⟩ : InstAt s.heap e (raw C t0 none) C none) k1 (fun z => nomatch z) fun tk => ⟨.bl b, H, I.kept (t' := tk) fun _ _ z => z, rfl, q⟩
end
end Err
/-! What a value is, kept by every later heap: P; what an expression gives: EvP. -/
namespace Pd
open PySem PySem.Spec PyProof.Rows L2 Evl
abbrev PV := V → Hp → Prop
/-- it stays so -/
def Mo (P : PV) : Prop := ∀ x H H', Ex H H' → P x H → P x H'
def Is (v : V) : PV := fun x _ => x = v
theorem mo_is {v : V} : Mo (Is v) := fun _ _ _ _ h => h
def AllP : List PV → List V → Hp → Prop
  | [], [], _ => True
  | P :: Ps, x :: xs, H => P x H ∧ AllP Ps xs H
  | _, _, _ => False
theorem AllP.len : ∀ {Ps : List PV} {xs : List V} {H : Hp}, AllP Ps xs H → xs.length = Ps.length
  | [], [], _, _ => rfl
  | _ :: _, _ :: _, _, h => congrArg Nat.succ h.2.len
theorem AllP.mono {Ps : List PV} (hm : ∀ P ∈ Ps, Mo P) : ∀ {xs : List V} {H H' : Hp}, Ex H H' → AllP Ps xs H → AllP Ps xs H' := by
  induction Ps with
  | nil =>
    intro xs H H' e h
    cases xs with
    | nil => trivial
    | cons => exact h.elim
  | cons P Ps ih =>
    intro xs H H' e h
    cases xs with
    | nil => exact h.elim
    | cons x xs => exact ⟨hm P List.mem_cons_self x H H' e h.1, ih (fun P hP => hm P (List.mem_cons_of_mem _ hP)) e h.2⟩
def Lst (Ps : List PV) : PV := fun x H => ∃ a xs, x = .ref a ∧ H a = some (.lst xs) ∧ AllP Ps xs H
def Tup (Ps : List PV) : PV := fun x H => ∃ a xs, x = .ref a ∧ H a = some (.tup xs) ∧ AllP Ps xs H
theorem mo_lst {Ps : List PV} (hm : ∀ P ∈ Ps, Mo P) : Mo (Lst Ps) := fun _ _ _ e ⟨a, xs, h1, h2, h3⟩ => ⟨a, xs, h1, e a _ h2, h3.mono hm e⟩
theorem mo_tup {Ps : List PV} (hm : ∀ P ∈ Ps, Mo P) : Mo (Tup Ps) := fun _ _ _ e ⟨a, xs, h1, h2, h3⟩ => ⟨a, xs, h1, e a _ h2, h3.mono hm e⟩
/-- a list of just these values -/
def LstV (vs : List V) : PV := fun x H => ∃ a, x = .ref a ∧ H a = some (.lst vs)
theorem mo_lstV {vs : List V} : Mo (LstV vs) := fun _ _ _ e ⟨a, h1, h2⟩ => ⟨a, h1, e a _ h2⟩
theorem allP_is : ∀ {vs xs : List V} {H : Hp}, AllP (vs.map Is) xs H → xs = vs
  | [], [], _, _ => rfl
  | v :: vs, x :: xs, H, h => by
    obtain ⟨h1, h2⟩ := h
    rw [show x = v from h1, allP_is h2]
theorem Lst.values {vs : List V} {x : V} {H : Hp} (h : Lst (vs.map Is) x H) : LstV vs x H := by
  obtain ⟨a, xs, h1, h2, h3⟩ := h
  rw [allP_is h3] at h2
  exact ⟨a, h1, h2⟩
theorem allP_app : ∀ {Ps Rs : List PV} {xs ys : List V} {H : Hp}, AllP Ps xs H → AllP Rs ys H → AllP (Ps ++ Rs) (xs ++ ys) H
  | [], _, [], _, _, _, h => h
  | _ :: _, _, _ :: _, _, _, h, k => ⟨h.1, allP_app h.2 k⟩
theorem allP_get : ∀ {Ps : List PV} {xs : List V} {H : Hp} {i : Nat} {P : PV}, AllP Ps xs H → Ps[i]? = some P → ∃ x, xs[i]? = some x ∧ P x H
  | P :: Ps, x :: xs, H, 0, R, h, e => by
    cases (show some P = some R from e)
    exact ⟨x, rfl, h.1⟩
  | P :: Ps, x :: xs, H, i + 1, R, h, e => by
    obtain ⟨y, h1, h2⟩ := allP_get h.2 (show Ps[i]? = some R from e)
    exact ⟨y, h1, h2⟩
theorem mo_nil : ∀ P ∈ ([] : List PV), Mo P := fun _ h => nomatch h
theorem mo_cons {P : PV} {Ps : List PV} (h : Mo P) (hs : ∀ P ∈ Ps, Mo P) : ∀ Q ∈ P :: Ps, Mo Q := fun Q hQ => by
  rcases List.mem_cons.mp hQ with rfl | q
  · exact h
  · exact hs Q q
/-- an expression gives a P, whatever stands beside -/
def EvP (te : TE) (σ : L2.St) (H : Hp) (P : PV) : Prop := ∀ H1, Ex H H1 → ∀ Q : VK, (∀ x H2, Ex H1 H2 → P x H2 → Q x H2) → te σ H1 Q
def EvPs (ta : TA) (σ : L2.St) (H : Hp) (Ps : List PV) : Prop := ∀ H1, Ex H H1 → ∀ Q : List V → Hp → Prop, (∀ xs H2, Ex H1 H2 → AllP Ps xs H2 → Q xs H2) → ta σ H1 Q
section
variable {σ : L2.St} {H H' : Hp} {te ta tb : TE} {P P' P1 P2 : PV} {v : V}
theorem EvP.up (e : Ex H H') (h : EvP te σ H P) : EvP te σ H' P := fun H1 a Q q => h H1 (e.trans a) Q q
theorem EvPs.up {tr : TA} {Ps : List PV} (e : Ex H H') (h : EvPs tr σ H Ps) : EvPs tr σ H' Ps := fun H1 a Q q => h H1 (e.trans a) Q q
theorem EvP.imp (h : EvP te σ H P) (k : ∀ x H1, Ex H H1 → P x H1 → P' x H1) : EvP te σ H P' := fun H1 a Q q => h H1 a Q fun x H2 e p => q x H2 e (k x H2 (a.trans e) p)
theorem EvP.of (h : Ev te σ H v) (hm : Mo P) (hp : P v H) : EvP te σ H P := fun H1 a Q q => h H1 a Q fun H2 e => q v H2 e (hm v H H2 (a.trans e) hp)
theorem EvP.ev (h : EvP te σ H (Is v)) : Ev te σ H v := fun H1 a Q q => h H1 a Q fun x H2 e p => by rw [p]; exact q H2 e
theorem p_var {i : Nat} (h : σ[i]? = some (some v)) (hm : Mo P) (hp : P v H) : EvP (tVar i) σ H P := .of (ev_var h) hm hp
theorem p_is {i : Nat} (h : σ[i]? = some (some v)) : EvP (tVar i) σ H (Is v) := .of (ev_var h) mo_is rfl
theorem p_c : EvP (tC v) σ H (Is v) := .of ev_c mo_is rfl
theorem ps_nil : EvPs tNil σ H [] := fun H1 _ Q q => q [] H1 (Ex.refl H1) trivial
theorem ps_cons {tr : TA} {Ps : List PV} (hm : Mo P) (h : EvP te σ H P) (hr : EvPs tr σ H Ps) : EvPs (tCons te tr) σ H (P :: Ps) := fun H1 a Q q =>
  h H1 a _ fun x H2 e p => hr H2 (a.trans e) _ fun xs H3 e2 ps => q (x :: xs) H3 (e.trans e2) ⟨hm x H2 H3 e2 p, ps⟩
theorem p_lst {tr : TA} {Ps : List PV} (hm : ∀ P ∈ Ps, Mo P) (h : EvPs tr σ H Ps) (hl : Ps.length ≤ 100000 := by first | decide | simp) : EvP (tLst tr) σ H (Lst Ps) := fun H1 a Q q =>
  h H1 a _ fun xs H2 e ps => ⟨by rw [ps.len]; exact sz_of hl, fun p hp => q (.ref p) _ (e.trans (Ex.new hp)) ⟨p, xs, rfl, upd_same, ps.mono hm (Ex.new hp)⟩⟩
theorem p_tup {tr : TA} {Ps : List PV} (hm : ∀ P ∈ Ps, Mo P) (h : EvPs tr σ H Ps) (hl : Ps.length ≤ 100000 := by first | decide | simp) : EvP (tTup tr) σ H (Tup Ps) := fun H1 a Q q =>
  h H1 a _ fun xs H2 e ps => ⟨by rw [ps.len]; exact sz_of hl, fun p hp => q (.ref p) _ (e.trans (Ex.new hp)) ⟨p, xs, rfl, upd_same, ps.mono hm (Ex.new hp)⟩⟩
/-- a list of values written out -/
theorem p_lstV {tr : TA} {vs : List V} (h : EvPs tr σ H (vs.map Is)) (hl : vs.length ≤ 100000 := by first | decide | simp) : EvP (tLst tr) σ H (LstV vs) :=
  (p_lst (fun P hP => by obtain ⟨v, _, rfl⟩ := List.mem_map.mp hP; exact mo_is) h (by rw [List.length_map]; exact hl)).imp fun _ _ _ p => p.values
/-- xs + ys -/
theorem p_cat {Ps Rs : List PV} (hm : ∀ P ∈ Ps, Mo P) (hn : ∀ P ∈ Rs, Mo P) (h1 : EvP ta σ H (Lst Ps)) (h2 : EvP tb σ H (Lst Rs)) (hl : Ps.length + Rs.length ≤ 100000 := by first | decide | simp) : EvP (tOp rCat ta tb) σ H (Lst (Ps ++ Rs)) := fun H1 a Q q =>
  h1 H1 a _ fun x H2 e ⟨p, xs, ex, hx, px⟩ => h2 H2 (a.trans e) _ fun y H3 e2 ⟨r, ys, ey, hy, py⟩ => by
    refine ⟨p, r, xs, ys, ex, ey, e2 p _ hx, hy, by rw [px.len, py.len]; exact sz_of hl, fun z hz => ?_⟩
    exact q (.ref z) _ (e.trans (e2.trans (Ex.new hz))) ⟨z, xs ++ ys, rfl, upd_same, allP_app (px.mono hm (e2.trans (Ex.new hz))) (py.mono hn (Ex.new hz))⟩
theorem p_catV {xs ys : List V} (h1 : EvP ta σ H (LstV xs)) (h2 : EvP tb σ H (LstV ys)) (hl : xs.length + ys.length ≤ 100000 := by first | decide | simp) : EvP (tOp rCat ta tb) σ H (LstV (xs ++ ys)) := fun H1 a Q q =>
  h1 H1 a _ fun x H2 e ⟨p, ex, hx⟩ => h2 H2 (a.trans e) _ fun y H3 e2 ⟨r, ey, hy⟩ =>
    ⟨p, r, xs, ys, ex, ey, e2 p _ hx, hy, sz_of hl, fun z hz => q (.ref z) _ (e.trans (e2.trans (Ex.new hz))) ⟨z, rfl, upd_same⟩⟩
/-- a field of an error -/
def ErrV (C : Addr) (f : Str) (v : V) : PV := fun x H => ∃ e d, x = .ref e ∧ Err.ErrAt H e C d f v
theorem mo_err {C : Addr} {f : Str} {v : V} : Mo (ErrV C f v) := fun _ _ _ ex ⟨e, d, h1, h2⟩ => ⟨e, d, h1, ex _ _ h2.ob, ex _ _ h2.dc⟩
theorem p_err {C : Addr} {f : Str} (h : Ev te σ H v) : EvP (Err.tErr C f te) σ H (ErrV C f v) := fun H1 a Q q =>
  h H1 a _ fun H2 e x d hx hd hne => by
    have nd : upd H2 d (.xd [(f, v)]) x = none := by rw [upd_ne (Ne.symm hne)]; exact hx
    exact q (.ref x) _ (e.trans ((Ex.new hd).trans (Ex.new nd))) ⟨x, d, rfl, upd_same, by rw [upd_ne hne]; exact upd_same⟩
theorem p_errK {C : Addr} {f : Str} {tk : TA} (h : EvA tk σ H [v]) : EvP (fun σ H Q => tk σ H fun zs H1 => ∃ v, zs = [v] ∧ ∀ e d, H1 e = none → H1 d = none → d ≠ e → Q (.ref e) (upd (upd H1 d (.xd [(f, v)])) e (Err.errO e C d))) σ H (ErrV C f v) := fun H1 a Q q =>
  h H1 a _ fun H2 e => ⟨v, rfl, fun x d hx hd hne => by
    have nd : upd H2 d (.xd [(f, v)]) x = none := by rw [upd_ne (Ne.symm hne)]; exact hx
    exact q (.ref x) _ (e.trans ((Ex.new hd).trans (Ex.new nd))) ⟨x, d, rfl, upd_same, by rw [upd_ne hne]; exact upd_same⟩⟩
theorem p_errF {K : PySem.W.Frag} {C fI : Addr} {f : Str} (T : Err.ErrC K C fI f) (h : EvP te σ H (ErrV C f v)) : Ev (Err.tErrF K f te) σ H v := fun H1 a Q q =>
  h H1 a _ fun x H2 e ⟨y, d, ex, at_⟩ => ⟨y, C, fI, d, v, ex, T, at_, q H2 e⟩
theorem p_isErr {K : PySem.W.Frag} {C D : Addr} {f : Str} {b : Bool} {w : V} (T : ExcC K C) (k : PySem.W.kitOne K (.ref C) (.ref D) = some b) (h : EvP te σ H (ErrV C f w)) (h2 : Ev tb σ H (.ref D)) : Ev (tCB (Err.rIsErr K) (tCons te (tCons tb tNil))) σ H (.bl b) := fun H1 a Q q =>
  h H1 a _ fun x H2 e ⟨y, d, ex, at_⟩ => h2 H2 (a.trans e) _ fun H3 e2 => by
    refine ⟨y, C, d, f, w, .ref D, .ref D, b, by rw [ex], ⟨e2 _ _ at_.ob, e2 _ _ at_.dc⟩, T, fun u hu => hu, k, q H3 (e.trans e2)⟩
theorem p_isErrT {K : PySem.W.Frag} {C : Addr} {f : Str} {b : Bool} {w : V} {n : String} (T : ExcC K C) (k : PySem.W.kitOne K (.ref C) (.type n) = some b) (h : EvP te σ H (ErrV C f w)) (h2 : Ev tb σ H (.ty n)) : Ev (tCB (Err.rIsErr K) (tCons te (tCons tb tNil))) σ H (.bl b) := fun H1 a Q q =>
  h H1 a _ fun x H2 e ⟨y, d, ex, at_⟩ => h2 H2 (a.trans e) _ fun H3 e2 => by
    refine ⟨y, C, d, f, w, .ty n, .type n, b, by rw [ex], ⟨e2 _ _ at_.ob, e2 _ _ at_.dc⟩, T, fun u hu => hu, k, q H3 (e.trans e2)⟩
/-- an operation of values that are so and so -/
theorem p_op {r : R2} (hm : Mo P1) (h1 : EvP ta σ H P1) (h2 : EvP tb σ H P2)
    (hr : ∀ x y H1, Ex H H1 → P1 x H1 → P2 y H1 → ∀ Q : VK, (∀ z H2, Ex H1 H2 → P z H2 → Q z H2) → r x y H1 Q) : EvP (tOp r ta tb) σ H P := fun H1 a Q q =>
  h1 H1 a _ fun x H2 e p1 => h2 H2 (a.trans e) _ fun y H3 e2 p2 => hr x y H3 (a.trans (e.trans e2)) (hm x H2 H3 e2 p1) p2 Q fun z H4 e3 p => q z H4 (e.trans (e2.trans e3)) p
theorem p_un {r : V → Hp → VK → Prop} (h1 : EvP ta σ H P1) (hr : ∀ x H1, Ex H H1 → P1 x H1 → ∀ Q : VK, (∀ z H2, Ex H1 H2 → P z H2 → Q z H2) → r x H1 Q) : EvP (tUn r ta) σ H P := fun H1 a Q q =>
  h1 H1 a _ fun x H2 e p1 => hr x H2 (a.trans e) p1 Q fun z H4 e3 p => q z H4 (e.trans e3) p
theorem p_cb {r : List V → Hp → VK → Prop} {tr : TA} {Ps : List PV} (h : EvPs tr σ H Ps) (hr : ∀ xs H1, Ex H H1 → AllP Ps xs H1 → ∀ Q : VK, (∀ z H2, Ex H1 H2 → P z H2 → Q z H2) → r xs H1 Q) : EvP (tCB r tr) σ H P := fun H1 a Q q =>
  h H1 a _ fun xs H2 e ps => hr xs H2 (a.trans e) ps Q fun z H3 e2 p => q z H3 (e.trans e2) p
theorem p_call {sp : Sp} {E : XK} {tr : TA} {Ps : List PV} (h : EvPs tr σ H Ps) (hr : ∀ xs H1, Ex H H1 → AllP Ps xs H1 → ∀ Q : VK, (∀ z H2, Ex H1 H2 → P z H2 → Q z H2) → sp xs H1 Q E) : EvP (tCall sp [] E tr) σ H P := fun H1 a Q q =>
  h H1 a _ fun xs H2 e ps => by
    rw [List.append_nil]
    exact hr xs H2 (a.trans e) ps Q fun z H3 e2 p => q z H3 (e.trans e2) p
theorem p_ife {t : TT} {b : Bool} (h : EvT t σ H b) (h1 : b = true → EvP ta σ H P) (h2 : b = false → EvP tb σ H P) : EvP (tIf t ta tb) σ H P := fun H1 e Q q => h H1 e _ fun H2 e2 => by
  cases b with
  | true => exact h1 rfl H2 (e.trans e2) Q fun x H3 e3 p => q x H3 (e2.trans e3) p
  | false => exact h2 rfl H2 (e.trans e2) Q fun x H3 e3 p => q x H3 (e2.trans e3) p
/-! statements -/
variable {D : Ends} {tz : TS}
theorem d_asg {i : Nat} (h : EvP te σ H P) (k : ∀ x H1, Ex H H1 → P x H1 → tz D (σ.set i (some x)) H1) : tSeq (tAsg te (gName i)) tz D σ H := h H (Ex.refl H) _ k
theorem d_asg1 {i : Nat} (h : EvP te σ H P) (k : ∀ x H1, Ex H H1 → P x H1 → D.nx (σ.set i (some x)) H1) : tAsg te (gName i) D σ H := h H (Ex.refl H) _ k
theorem d_ret (h : EvP te σ H P) (k : ∀ x H1, Ex H H1 → P x H1 → D.rt x H1) : tRet te D σ H := h H (Ex.refl H) _ k
end
/-- a promise: asked of the arguments, P of what comes back, nothing that stood is touched -/
def Pr (pre : List V → Hp → Prop) (P : List V → PV) : Sp := fun vs H Q _ => pre vs H ∧ ∀ x H', Ex H H' → P vs x H' → Q x H'
/-- the same value twice: none is told from itself -/
def noFlt : V → Bool
  | .flt _ => false
  | _ => true
theorem eq_self {A : Around} {s : Shared} {x : V} {v u : Value} (rx : RelV x v) (ru : RelV x u) (h : flatB x = true ∨ ∃ a, x = .ref a) : SeqAt.EqAt A s v u true := by
  rcases h with h | ⟨a, rfl⟩
  · exact eqAt_same rx ru h
  · cases (show v = Value.ref a from rx)
    cases (show u = Value.ref a from ru)
    exact SeqAt.EqAt.same _
def Solid (x : V) : Prop := flatB x = true ∨ ∃ a, x = .ref a
theorem items_self {A : Around} {s : Shared} {xs : List V} {us ws : List Value} (hs : ∀ x ∈ xs, Solid x) (r1 : Vals xs us) (r2 : Vals xs ws) : ∀ j (h1 : j < us.toArray.size) (h2 : j < ws.toArray.size), SeqAt.EqAt A s us.toArray[j] ws.toArray[j] true := by
  intro j h1 h2
  have l1 : j < us.length := by simpa using h1
  have l2 : j < ws.length := by simpa using h2
  have lx : j < xs.length := by rw [Vals.length r1]; exact l1
  obtain ⟨u, hu, ru⟩ := Vals.get r1 (List.getElem?_eq_getElem lx)
  obtain ⟨w', hw, rw'⟩ := Vals.get r2 (List.getElem?_eq_getElem lx)
  have e1 : us.toArray[j] = u := by
    have := (List.getElem?_eq_getElem l1).symm.trans hu
    simpa using this
  have e2 : ws.toArray[j] = w' := by
    have := (List.getElem?_eq_getElem l2).symm.trans hw
    simpa using this
  rw [e1, e2]
  exact eq_self ru rw' (hs _ (List.getElem_mem lx))
/-- two lists of the same values -/
def rLs (K : PySem.W.Frag) (b : Bool) : R2 := fun x y H Q => ∃ a c xs, x = .ref a ∧ y = .ref c ∧ SqL K H a xs ∧ SqL K H c xs ∧ (∀ z ∈ xs, Solid z) ∧ Q (.bl b) H
/-- a value beside itself -/
def rSelf (K : PySem.W.Frag) (b : Bool) : R2 := fun x y H Q => x = y ∧ (scal x x = true ∨ (∃ a xs, x = .ref a ∧ (SqL K H a xs ∨ SqT K H a xs) ∧ ∀ z ∈ xs, Solid z) ∨ ∃ a, x = .ref a ∧ H a = some (.dK [])) ∧ Q (.bl b) H
section
variable {X : Cx}
theorem op_neLs (hu : X.A.units < cLine) : OpR X (compareOp .NotEq) (rLs X.K false) := by
  intro pins s σ H x y v u Q I rx ry h
  obtain ⟨a, c, xs, rfl, rfl, h1, h2, hs, q⟩ := h
  obtain rfl : v = Value.ref a := rx
  obtain rfl : u = Value.ref c := ry
  obtain ⟨us, r1, p1, _⟩ := I.list h1
  obtain ⟨ws, r2, p2, _⟩ := I.list h2
  have sz : us.toArray.size = ws.toArray.size := by
    rw [List.size_toArray, List.size_toArray, ← Vals.length r1, ← Vals.length r2]
  show wpAny _ _ (richCompare .NotEq (.ref a) (.ref c)) _ _ _
  refine SeqAt.RcNeAt.lists (A := X.A) (e := fun _ => true) p1.isList p2.isList sz hu (items_self hs r1 r2) X.prog X.w X.xe _ ?_
  rw [show ((List.range us.toArray.size).all fun _ => true) = true from List.all_eq_true.mpr fun _ _ => rfl]
  exact ⟨.bl false, H, I, rfl, q⟩
theorem op_eqLs (hu : X.A.units < cLine) : OpR X (compareOp .Eq) (rLs X.K true) := by
  intro pins s σ H x y v u Q I rx ry h
  obtain ⟨a, c, xs, rfl, rfl, h1, h2, hs, q⟩ := h
  obtain rfl : v = Value.ref a := rx
  obtain rfl : u = Value.ref c := ry
  obtain ⟨us, r1, p1, _⟩ := I.list h1
  obtain ⟨ws, r2, p2, _⟩ := I.list h2
  have sz : us.toArray.size = ws.toArray.size := by
    rw [List.size_toArray, List.size_toArray, ← Vals.length r1, ← Vals.length r2]
  refine SeqAt.rcP_lists (e := fun _ => true) p1.isList p2.isList sz hu (fun j l1 l2 => (items_self hs r1 r2 j l1 l2).eqP) X.xe _ ?_
  rw [show ((List.range us.toArray.size).all fun _ => true) = true from List.all_eq_true.mpr fun _ _ => rfl]
  exact ⟨.bl true, H, I, rfl, q⟩
theorem op_neSelf (hu : X.A.units < cLine) : OpR X (compareOp .NotEq) (rSelf X.K false) := by
  intro pins s σ H x y v u Q I rx ry h
  obtain ⟨rfl, h, q⟩ := h
  rcases h with h | ⟨a, xs, rfl, h, hs⟩ | ⟨a, rfl, h⟩
  · refine op_ne pins s σ H x x v u Q I rx ry ⟨h, ?_⟩
    simpa using q
  · rcases h with h | h
    · exact op_neLs hu pins s σ H _ _ v u Q I rx ry ⟨a, a, xs, rfl, rfl, h, h, hs, q⟩
    · obtain rfl : v = Value.ref a := rx
      obtain rfl : u = Value.ref a := ry
      obtain ⟨us, r1, p1, _⟩ := I.tuple h
      have tp : s.heap.IsTuple a us.toArray := by
        obtain ⟨o, ho, hc, n, hd⟩ := p1
        exact ⟨o, ho, hc, n, hd⟩
      show wpAny _ _ (richCompare .NotEq (.ref a) (.ref a)) _ _ _
      refine SeqAt.RcNeAt.tuples (A := X.A) (e := fun _ => true) tp tp hu (items_self hs r1 r1) X.prog X.w X.xe _ ?_
      have ee : (!(((List.range (min us.toArray.size us.toArray.size)).all fun _ => true) && us.toArray.size == us.toArray.size)) = false := by simp
      rw [ee]
      exact ⟨.bl false, H, I, rfl, q⟩
  · exact op_ne_dictA hu pins s σ H _ _ v u Q I rx ry ⟨a, a, [], [], rfl, rfl, h, h, rfl, (fun _ h => nomatch h), q⟩
theorem pe_gref {x : Str} {C : Addr} {pos : Pos} (hg : Gl X x) (hm : X.mg x = some (.ref C)) (hd : (x == ("__debug__" : Str)) = false := by decide) : PE X (.Name x pos) (tC (.ref C)) := pe_glob hg hm (show RelV (.ref C) (.ref C) from rfl) hd
/-- a list beside []: are they unlike? -/
def rNil (K : PySem.W.Frag) : R2 := fun x y H Q => ∃ a c xs, x = .ref a ∧ y = .ref c ∧ SqL K H a xs ∧ SqL K H c [] ∧ (∀ z ∈ xs, Solid z) ∧ Q (.bl (!xs.isEmpty)) H
theorem op_neNil (hu : X.A.units < cLine) : OpR X (compareOp .NotEq) (rNil X.K) := by
  intro pins s σ H x y v u Q I rx ry h
  obtain ⟨a, c, xs, rfl, rfl, h1, h2, hs, q⟩ := h
  cases xs with
  | nil => exact op_neLs hu pins s σ H _ _ v u Q I rx ry ⟨a, c, [], rfl, rfl, h1, h2, hs, q⟩
  | cons z zs =>
    obtain rfl : v = Value.ref a := rx
    obtain rfl : u = Value.ref c := ry
    obtain ⟨us, r1, p1, _⟩ := I.list h1
    obtain ⟨ws, r2, p2, _⟩ := I.list h2
    have sz : (us.toArray.size != ws.toArray.size) = true := by
      rw [List.size_toArray, List.size_toArray, ← Vals.length r1, ← Vals.length r2]
      simp
    show wpAny _ _ (richCompare .NotEq (.ref a) (.ref c)) _ _ _
    refine SeqAt.RcNeAt.lists_lengths (A := X.A) p1.isList p2.isList sz hu X.prog X.w X.xe _ ?_
    exact ⟨.bl true, H, I, rfl, q⟩
end
section
variable {σ : L2.St} {H : Hp} {ta tb : TE}
theorem p_neLs {K : PySem.W.Frag} {vs : List V} {b : Bool} (hs : ∀ z ∈ vs, Solid z) (h1 : EvP ta σ H (LstV vs)) (h2 : EvP tb σ H (LstV vs)) : Ev (tOp (rLs K b) ta tb) σ H (.bl b) := fun H1 a Q q =>
  h1 H1 a _ fun x H2 e ⟨p, ex, hx⟩ => h2 H2 (a.trans e) _ fun y H3 e2 ⟨r, ey, hy⟩ =>
    ⟨p, r, vs, ex, ey, sq_of (e2 _ _ hx), sq_of hy, hs, q H3 (e.trans e2)⟩
end
end Pd
namespace K22
open PySem PySem.Spec PyProof.Rows L2 Evl Pd Err
def top (i : Nat) : Stmt := PySem.Challenge.pw_answeredsettings_k22_errors_made.main.body.getD i (.Pass ⟨0, 0, 0, 0⟩)
abbrev sCell : Stmt := top 20
abbrev sMade : Stmt := top 21
abbrev sOther : Stmt := top 22
abbrev sKinds : Stmt := top 23
abbrev sLaw : Stmt := top 24
/-- an own error as the top has left it -/
structure Er (K : PySem.W.Frag) (mg : Str → Option Value) (C fI : Addr) (x f : Str) : Prop where
  c : ErrC K C fI f
  m : mg x = some (.ref C)
  i : ExcC K C
structure Blt (mg : Str → Option Value) : Prop where
  len : mg "len" = none
  int : mg "int" = none
  range : mg "range" = none
  isi : mg "isinstance" = none
  exc : mg "Exception" = none
theorem pf_value : Plain "value" := ⟨by decide +kernel, by decide +kernel⟩
theorem pf_part : Plain "part" := ⟨by decide +kernel, by decide +kernel⟩
theorem pf_at : Plain "at" := ⟨by decide +kernel, by decide +kernel⟩
theorem pf_row : Plain "row" := ⟨by decide +kernel, by decide +kernel⟩
theorem pf_limit : Plain "limit" := ⟨by decide +kernel, by decide +kernel⟩
/-! ### promises -/
def spCell (K : PySem.W.Frag) : Sp := fun vs H Q _ => ∃ (a : Addr) (ns : List Int) (k : Int), vs = [.ref a, .int k] ∧ SqL K H a (ns.map V.int) ∧ ns.length ≤ 63 ∧ 0 ≤ k ∧ k < 4 ∧ ∀ n H', Ex H H' → Q (.int n) H'
def spKinds (K : PySem.W.Frag) (cs : List Addr) : Sp := fun vs H Q _ => ∃ (e C d : Addr) (f : Str) (v : V) (bs : List Bool), vs = [.ref e] ∧ ErrAt H e C d f v ∧ ExcC K C ∧
  Paired (fun c b => PySem.W.kitOne K (.ref C) (.ref c) = some b) cs bs ∧ ∀ x H', Ex H H' → LstV (bs.map V.bl) x H' → Q x H'

def pair (C : Addr) (v : V) : PV := Lst [ErrV C "value" v, Is v]
theorem mo_pair {C : Addr} {v : V} : Mo (pair C v) := mo_lst (mo_cons mo_err (mo_cons mo_is mo_nil))
def spMade (cs : List Addr) : Sp := fun vs H Q _ => ∃ v, vs = [v] ∧ ∀ x H', Ex H H' → Lst (cs.map fun C => pair C v) x H' → Q x H'
def spOther : Sp := fun vs H Q _ => ∃ v, vs = [v] ∧ Solid v ∧ ∀ H', Ex H H' → Q (.bl true) H'
section
variable {P : Program} {w : World} {K : PySem.W.Frag} {mg : Str → Option Value} {base : Heap}
/-! ### _law_cell -/
theorem scCell : FnScope ["script", "k", "cell"] ["script", "k"] (defScope sCell) := ⟨rfl, rfl, rfl, by decide +kernel, rfl, by decide +kernel, by decide +kernel⟩
theorem solid_int {ns : List Int} : ∀ z ∈ ns.map V.int, Solid z := fun z hz => by
  obtain ⟨n, _, rfl⟩ := List.mem_map.mp hz
  exact .inl rfl
theorem ok_cell {f : Addr} {fd : FuncData} (F : Fun K "_law_cell" "_law_cell" sCell f fd) (B : Blt mg) : FnOk P w K mg base CX0 1 f fd ["script", "k"] (spCell K) := by
  refine F.ok scCell (fun vs H Q E h => ?_) (fun cdv A outer s H vs Q E hr h => ?_)
  · obtain ⟨a, ns, k, rfl, _⟩ := h
    rfl
  · obtain ⟨a, ns, k, rfl, hS, hl, h0, h4, q⟩ := h
    have hu := hu_of hr
    refine ⟨_, pss_cons (ps_set (i := 2) scCell.nd rfl (Or.inl rfl) (pe_ifExp (pt_cmpR (op_neNil (Nat.lt_of_succ_lt hu)) (pv 0) (pe_lst pa_nil) (nomark _))
        (pe_callTy call_int1 (by rfl) B.int boot_int (pa_cons (pe_ix ix_list (pv 0) (pe_op op_mod (pe_callTy call_int1 (by rfl) B.int boot_int (pa_cons (pv 1) pa_nil)) (pe_callB call_len_seq (by rfl) B.len PySem.boot_len (pa_cons (pv 0) pa_nil))) (fun _ _ => rfl)) pa_nil)) pe_int))
      (pss_one (ps_ret (pe_op op_fdiv (pe_ifExp (pt_cmpR op_ge (pv 2) pe_int (nomark _)) (pv 2) (pe_un un_neg (pv 2)))
        (pe_ix ix_list (pe_lst (pa_cons pe_int (pa_cons pe_int (pa_cons pe_int (pa_cons pe_int pa_nil))))) (pv 1) (fun _ _ => rfl))))), ?_⟩
    refine d_asg (P := fun x _ => ∃ n, x = V.int n) (p_ife (b := !(ns.map V.int).isEmpty) (et_test fun H1 e Q q => ?_) (fun hb H1 e Q q => ?_) fun _ => p_c.imp fun x _ _ hx => ⟨7, hx⟩) fun x H1 e ⟨n, hx⟩ => ?_
    · refine ⟨_, rfl, by show 0 ≤ sizeLine; exact Nat.zero_le _, fun p hp => ⟨a, p, _, rfl, rfl, ex_l (e.trans (Ex.new hp)) hS, sq_of upd_same, solid_int, q _ (Ex.new hp)⟩⟩
    · have pos : 0 < ns.length := by
        cases ns with
        | nil => exact absurd hb (by decide)
        | cons => exact Nat.succ_pos _
      have hS1 := ex_l e hS
      have m0 : 0 ≤ k % ((ns.map V.int).length : Int) := Int.emod_nonneg _ (by rw [List.length_map]; omega)
      have m1 : k % ((ns.map V.int).length : Int) < ((ns.map V.int).length : Int) := Int.emod_lt_of_pos _ (by rw [List.length_map]; omega)
      obtain ⟨j, hj⟩ : ∃ j : Nat, k % ((ns.map V.int).length : Int) = (j : Int) := ⟨(k % ((ns.map V.int).length : Int)).toNat, by omega⟩
      have jl : j < (ns.map V.int).length := by omega
      have jn : j < ns.length := by rw [List.length_map] at jl; exact jl
      refine ⟨_, rfl, _, rfl, .inl ⟨k, rfl, _, rfl, a, _, rfl, .inl hS1, _, _, rfl, rfl, by rw [List.length_map]; omega, a, ns.map V.int, _, V.int (ns[j]), rfl, rfl, hS1, ?_, .inl ⟨_, rfl, q _ H1 (Ex.refl _) ⟨_, rfl⟩⟩⟩⟩
      show atI (ns.map V.int) (k % ((ns.map V.int).length : Int)) = some (V.int ns[j])
      rw [hj]
      unfold atI
      rw [ixN_nat jl]
      simp [jn]
    · subst hx
      refine d_ret (P := fun x _ => ∃ n, x = V.int n) (p_op (P1 := fun x _ => ∃ n, x = V.int n) (P2 := fun x _ => ∃ n, x = V.int n ∧ 0 < n ∧ n < 1073741824) (fun _ _ _ _ h => h)
        (p_ife (b := decide (0 ≤ n)) (et_test (ev_op (ev_var rfl) ev_c rv_I0)) (fun _ => p_is (v := .int n) rfl |>.imp fun _ _ _ h => ⟨n, h⟩) fun _ => p_un (P1 := Is (.int n)) (p_is rfl) fun x H2 _ hx Q2 q2 => ?_)
        (p_op (P1 := LstV [.int 1, .int 5, .int 25, .int 125]) (P2 := Is (.int k)) mo_lstV (p_lstV (ps_cons mo_is p_c (ps_cons mo_is p_c (ps_cons mo_is p_c (ps_cons mo_is p_c ps_nil))))) (p_is rfl) fun x y H2 _ hx hy Q2 q2 => ?_)
        fun x y H2 _ ⟨i, hi⟩ ⟨j, hj, j0, j1⟩ Q2 q2 => ⟨i, j, hi, hj, ⟨j0, j1⟩, q2 _ H2 (Ex.refl _) ⟨_, rfl⟩⟩) fun x H2 e2 ⟨m, hm⟩ => ?_
      · exact ⟨n, hx, q2 _ H2 (Ex.refl _) ⟨_, rfl⟩⟩
      · obtain ⟨r, hr, hl⟩ := hx
        have cs : k = 0 ∨ k = 1 ∨ k = 2 ∨ k = 3 := by omega
        rcases cs with rfl | rfl | rfl | rfl
        · exact ⟨r, _, 0, .int 1, hr, hy, sq_of hl, rfl, q2 _ H2 (Ex.refl _) ⟨1, rfl, by decide, by decide⟩⟩
        · exact ⟨r, _, 1, .int 5, hr, hy, sq_of hl, rfl, q2 _ H2 (Ex.refl _) ⟨5, rfl, by decide, by decide⟩⟩
        · exact ⟨r, _, 2, .int 25, hr, hy, sq_of hl, rfl, q2 _ H2 (Ex.refl _) ⟨25, rfl, by decide, by decide⟩⟩
        · exact ⟨r, _, 3, .int 125, hr, hy, sq_of hl, rfl, q2 _ H2 (Ex.refl _) ⟨125, rfl, by decide, by decide⟩⟩
      · subst hm
        exact q m H2 (e.trans e2)

/-! ### _law_kinds -/
theorem scKinds : FnScope ["error", "found"] ["error"] (defScope sKinds) := ⟨rfl, rfl, rfl, by decide +kernel, rfl, by decide +kernel, by decide +kernel⟩
theorem ok_kinds {f0 : Addr} {fd : FuncData} {C0 C1 C2 C3 C4 C5 C6 C7 C8 C9 C10 C11 : Addr} (F : Fun K "_law_kinds" "_law_kinds" sKinds f0 fd) (B : Blt mg) (m0 : mg "BadArgument" = some (.ref C0)) (m1 : mg "BadName" = some (.ref C1)) (m2 : mg "BadDeed" = some (.ref C2)) (m3 : mg "BadState" = some (.ref C3)) (m4 : mg "BadMove" = some (.ref C4)) (m5 : mg "BadClaim" = some (.ref C5)) (m6 : mg "BadNumber" = some (.ref C6)) (m7 : mg "BadMenu" = some (.ref C7)) (m8 : mg "BadChange" = some (.ref C8)) (m9 : mg "BadText" = some (.ref C9)) (m10 : mg "BadSetting" = some (.ref C10)) (m11 : mg "NothingLeft" = some (.ref C11)) : FnOk P w K mg base CX0 1 f0 fd ["error"] (spKinds K [C0, C1, C2, C3, C4, C5, C6, C7, C8, C9, C10, C11]) := by
  refine F.ok scKinds (fun vs H Q E h => ?_) (fun cdv A outer s H vs Q E hr h => ?_)
  · obtain ⟨e, C, d, f, v, bs, rfl, _⟩ := h
    rfl
  · obtain ⟨e, C, d, f, v, bs, rfl, at_, T, hp, q⟩ := h
    cases hp with | cons k0 hp =>
    cases hp with | cons k1 hp =>
    cases hp with | cons k2 hp =>
    cases hp with | cons k3 hp =>
    cases hp with | cons k4 hp =>
    cases hp with | cons k5 hp =>
    cases hp with | cons k6 hp =>
    cases hp with | cons k7 hp =>
    cases hp with | cons k8 hp =>
    cases hp with | cons k9 hp =>
    cases hp with | cons k10 hp =>
    cases hp with | cons k11 hp =>
    cases hp
    refine ⟨_, pss_cons (ps_set (i := 1) scKinds.nd rfl (Or.inl rfl) (pe_lst (pa_cons (pe_callB call_isErr (by rfl) B.isi boot_isinstance (pa_cons (pv 0) (pa_cons (pe_gref (by rfl) m0) pa_nil))) (pa_cons (pe_callB call_isErr (by rfl) B.isi boot_isinstance (pa_cons (pv 0) (pa_cons (pe_gref (by rfl) m1) pa_nil))) (pa_cons (pe_callB call_isErr (by rfl) B.isi boot_isinstance (pa_cons (pv 0) (pa_cons (pe_gref (by rfl) m2) pa_nil))) pa_nil)))))
      (pss_cons (ps_set (i := 1) scKinds.nd rfl (Or.inl rfl) (pe_op op_cat (pv 1) (pe_lst (pa_cons (pe_callB call_isErr (by rfl) B.isi boot_isinstance (pa_cons (pv 0) (pa_cons (pe_gref (by rfl) m3) pa_nil))) (pa_cons (pe_callB call_isErr (by rfl) B.isi boot_isinstance (pa_cons (pv 0) (pa_cons (pe_gref (by rfl) m4) pa_nil))) (pa_cons (pe_callB call_isErr (by rfl) B.isi boot_isinstance (pa_cons (pv 0) (pa_cons (pe_gref (by rfl) m5) pa_nil))) pa_nil))))))
      (pss_cons (ps_set (i := 1) scKinds.nd rfl (Or.inl rfl) (pe_op op_cat (pv 1) (pe_lst (pa_cons (pe_callB call_isErr (by rfl) B.isi boot_isinstance (pa_cons (pv 0) (pa_cons (pe_gref (by rfl) m6) pa_nil))) (pa_cons (pe_callB call_isErr (by rfl) B.isi boot_isinstance (pa_cons (pv 0) (pa_cons (pe_gref (by rfl) m7) pa_nil))) (pa_cons (pe_callB call_isErr (by rfl) B.isi boot_isinstance (pa_cons (pv 0) (pa_cons (pe_gref (by rfl) m8) pa_nil))) pa_nil))))))
      (pss_one (ps_ret (pe_op op_cat (pv 1) (pe_lst (pa_cons (pe_callB call_isErr (by rfl) B.isi boot_isinstance (pa_cons (pv 0) (pa_cons (pe_gref (by rfl) m9) pa_nil))) (pa_cons (pe_callB call_isErr (by rfl) B.isi boot_isinstance (pa_cons (pv 0) (pa_cons (pe_gref (by rfl) m10) pa_nil))) (pa_cons (pe_callB call_isErr (by rfl) B.isi boot_isinstance (pa_cons (pv 0) (pa_cons (pe_gref (by rfl) m11) pa_nil))) pa_nil))))))))), ?_⟩
    have E0 : ∀ (σ : L2.St) (H1 : Hp) (i : Nat), Ex H H1 → σ[i]? = some (some (V.ref e)) → EvP (tVar i) σ H1 (ErrV C f v) := fun σ H1 i ex hs => p_var hs mo_err ⟨e, d, rfl, ex _ _ at_.ob, ex _ _ at_.dc⟩
    refine d_asg (P := LstV _) (p_lstV (vs := [_, _, _]) (ps_cons mo_is (EvP.of (p_isErr T k0 (E0 _ _ 0 (Ex.refl _) rfl) ev_c) mo_is rfl) (ps_cons mo_is (EvP.of (p_isErr T k1 (E0 _ _ 0 (Ex.refl _) rfl) ev_c) mo_is rfl) (ps_cons mo_is (EvP.of (p_isErr T k2 (E0 _ _ 0 (Ex.refl _) rfl) ev_c) mo_is rfl) ps_nil)))) fun x1 H1 e1 p1 => ?_
    refine d_asg (P := LstV _) (p_catV (p_var rfl mo_lstV p1) (p_lstV (vs := [_, _, _]) (ps_cons mo_is (EvP.of (p_isErr T k3 (E0 _ _ 0 e1 rfl) ev_c) mo_is rfl) (ps_cons mo_is (EvP.of (p_isErr T k4 (E0 _ _ 0 e1 rfl) ev_c) mo_is rfl) (ps_cons mo_is (EvP.of (p_isErr T k5 (E0 _ _ 0 e1 rfl) ev_c) mo_is rfl) ps_nil))))) fun x2 H2 e2 p2 => ?_
    refine d_asg (P := LstV _) (p_catV (p_var rfl mo_lstV p2) (p_lstV (vs := [_, _, _]) (ps_cons mo_is (EvP.of (p_isErr T k6 (E0 _ _ 0 (e1.trans e2) rfl) ev_c) mo_is rfl) (ps_cons mo_is (EvP.of (p_isErr T k7 (E0 _ _ 0 (e1.trans e2) rfl) ev_c) mo_is rfl) (ps_cons mo_is (EvP.of (p_isErr T k8 (E0 _ _ 0 (e1.trans e2) rfl) ev_c) mo_is rfl) ps_nil))))) fun x3 H3 e3 p3 => ?_
    refine d_ret (P := LstV _) (p_catV (p_var rfl mo_lstV p3) (p_lstV (vs := [_, _, _]) (ps_cons mo_is (EvP.of (p_isErr T k9 (E0 _ _ 0 (e1.trans (e2.trans e3)) rfl) ev_c) mo_is rfl) (ps_cons mo_is (EvP.of (p_isErr T k10 (E0 _ _ 0 (e1.trans (e2.trans e3)) rfl) ev_c) mo_is rfl) (ps_cons mo_is (EvP.of (p_isErr T k11 (E0 _ _ 0 (e1.trans (e2.trans e3)) rfl) ev_c) mo_is rfl) ps_nil))))) fun x4 H4 e4 p4 => ?_
    exact q x4 H4 (e1.trans (e2.trans (e3.trans e4))) p4
/-! ### _law_made_errors -/
theorem scMade : FnScope ["thing", "found"] ["thing"] (defScope sMade) := ⟨rfl, rfl, rfl, by decide +kernel, rfl, by decide +kernel, by decide +kernel⟩
theorem ok_made {f0 : Addr} {fd : FuncData} {CBadArgument fBadArgument : Addr} (EBadArgument : Er K mg CBadArgument fBadArgument "BadArgument" "value") {CBadName fBadName : Addr} (EBadName : Er K mg CBadName fBadName "BadName" "value") {CBadDeed fBadDeed : Addr} (EBadDeed : Er K mg CBadDeed fBadDeed "BadDeed" "value") {CBadState fBadState : Addr} (EBadState : Er K mg CBadState fBadState "BadState" "value") {CBadMove fBadMove : Addr} (EBadMove : Er K mg CBadMove fBadMove "BadMove" "value") {CBadClaim fBadClaim : Addr} (EBadClaim : Er K mg CBadClaim fBadClaim "BadClaim" "value") {CBadNumber fBadNumber : Addr} (EBadNumber : Er K mg CBadNumber fBadNumber "BadNumber" "value") {CBadMenu fBadMenu : Addr} (EBadMenu : Er K mg CBadMenu fBadMenu "BadMenu" "value") {CBadChange fBadChange : Addr} (EBadChange : Er K mg CBadChange fBadChange "BadChange" "value") {CBadText fBadText : Addr} (EBadText : Er K mg CBadText fBadText "BadText" "value") (F : Fun K "_law_made_errors" "_law_made_errors" sMade f0 fd) : FnOk P w K mg base CX0 2 f0 fd ["thing"] (spMade [CBadArgument, CBadName, CBadDeed, CBadState, CBadMove, CBadClaim, CBadNumber, CBadMenu, CBadChange, CBadText]) := by
  refine F.ok scMade (fun vs H Q E h => ?_) (fun cdv A outer s H vs Q E hr h => ?_)
  · obtain ⟨v, rfl, _⟩ := h
    rfl
  · obtain ⟨v, rfl, q⟩ := h
    have hr0 : Room 1 _ := hr.mono (by decide)
    refine ⟨_, pss_cons (ps_set (i := 1) scMade.nd rfl (Or.inl rfl) (pe_lst (pa_cons (pe_lst (pa_cons (pe_err EBadArgument.c pf_value hr0 EBadArgument.m (by rfl) (pv 0) (fun _ _ _ _ _ _ _ _ _ _ _ _ _ _ => rfl)) (pa_cons (pe_errF (pe_errK EBadArgument.c pf_value hr0 EBadArgument.m (by rfl) (pk_cons (pv 0) pk_nil) (fun _ _ _ _ _ _ _ _ _ _ _ _ _ _ => rfl))) pa_nil))) (pa_cons (pe_lst (pa_cons (pe_err EBadName.c pf_value hr0 EBadName.m (by rfl) (pv 0) (fun _ _ _ _ _ _ _ _ _ _ _ _ _ _ => rfl)) (pa_cons (pe_errF (pe_errK EBadName.c pf_value hr0 EBadName.m (by rfl) (pk_cons (pv 0) pk_nil) (fun _ _ _ _ _ _ _ _ _ _ _ _ _ _ => rfl))) pa_nil))) pa_nil))))
      (pss_cons (ps_set (i := 1) scMade.nd rfl (Or.inl rfl) (pe_op op_cat (pv 1) (pe_lst (pa_cons (pe_lst (pa_cons (pe_err EBadDeed.c pf_value hr0 EBadDeed.m (by rfl) (pv 0) (fun _ _ _ _ _ _ _ _ _ _ _ _ _ _ => rfl)) (pa_cons (pe_errF (pe_errK EBadDeed.c pf_value hr0 EBadDeed.m (by rfl) (pk_cons (pv 0) pk_nil) (fun _ _ _ _ _ _ _ _ _ _ _ _ _ _ => rfl))) pa_nil))) (pa_cons (pe_lst (pa_cons (pe_err EBadState.c pf_value hr0 EBadState.m (by rfl) (pv 0) (fun _ _ _ _ _ _ _ _ _ _ _ _ _ _ => rfl)) (pa_cons (pe_errF (pe_errK EBadState.c pf_value hr0 EBadState.m (by rfl) (pk_cons (pv 0) pk_nil) (fun _ _ _ _ _ _ _ _ _ _ _ _ _ _ => rfl))) pa_nil))) pa_nil)))))
      (pss_cons (ps_set (i := 1) scMade.nd rfl (Or.inl rfl) (pe_op op_cat (pv 1) (pe_lst (pa_cons (pe_lst (pa_cons (pe_err EBadMove.c pf_value hr0 EBadMove.m (by rfl) (pv 0) (fun _ _ _ _ _ _ _ _ _ _ _ _ _ _ => rfl)) (pa_cons (pe_errF (pe_errK EBadMove.c pf_value hr0 EBadMove.m (by rfl) (pk_cons (pv 0) pk_nil) (fun _ _ _ _ _ _ _ _ _ _ _ _ _ _ => rfl))) pa_nil))) (pa_cons (pe_lst (pa_cons (pe_err EBadClaim.c pf_value hr0 EBadClaim.m (by rfl) (pv 0) (fun _ _ _ _ _ _ _ _ _ _ _ _ _ _ => rfl)) (pa_cons (pe_errF (pe_errK EBadClaim.c pf_value hr0 EBadClaim.m (by rfl) (pk_cons (pv 0) pk_nil) (fun _ _ _ _ _ _ _ _ _ _ _ _ _ _ => rfl))) pa_nil))) pa_nil)))))
      (pss_cons (ps_set (i := 1) scMade.nd rfl (Or.inl rfl) (pe_op op_cat (pv 1) (pe_lst (pa_cons (pe_lst (pa_cons (pe_err EBadNumber.c pf_value hr0 EBadNumber.m (by rfl) (pv 0) (fun _ _ _ _ _ _ _ _ _ _ _ _ _ _ => rfl)) (pa_cons (pe_errF (pe_errK EBadNumber.c pf_value hr0 EBadNumber.m (by rfl) (pk_cons (pv 0) pk_nil) (fun _ _ _ _ _ _ _ _ _ _ _ _ _ _ => rfl))) pa_nil))) (pa_cons (pe_lst (pa_cons (pe_err EBadMenu.c pf_value hr0 EBadMenu.m (by rfl) (pv 0) (fun _ _ _ _ _ _ _ _ _ _ _ _ _ _ => rfl)) (pa_cons (pe_errF (pe_errK EBadMenu.c pf_value hr0 EBadMenu.m (by rfl) (pk_cons (pv 0) pk_nil) (fun _ _ _ _ _ _ _ _ _ _ _ _ _ _ => rfl))) pa_nil))) pa_nil)))))
      (pss_one (ps_ret (pe_op op_cat (pv 1) (pe_lst (pa_cons (pe_lst (pa_cons (pe_err EBadChange.c pf_value hr0 EBadChange.m (by rfl) (pv 0) (fun _ _ _ _ _ _ _ _ _ _ _ _ _ _ => rfl)) (pa_cons (pe_errF (pe_errK EBadChange.c pf_value hr0 EBadChange.m (by rfl) (pk_cons (pv 0) pk_nil) (fun _ _ _ _ _ _ _ _ _ _ _ _ _ _ => rfl))) pa_nil))) (pa_cons (pe_lst (pa_cons (pe_err EBadText.c pf_value hr0 EBadText.m (by rfl) (pv 0) (fun _ _ _ _ _ _ _ _ _ _ _ _ _ _ => rfl)) (pa_cons (pe_errF (pe_errK EBadText.c pf_value hr0 EBadText.m (by rfl) (pk_cons (pv 0) pk_nil) (fun _ _ _ _ _ _ _ _ _ _ _ _ _ _ => rfl))) pa_nil))) pa_nil))))))))), ?_⟩
    have mp : ∀ cs : List Addr, ∀ P ∈ cs.map (fun C => pair C v), Mo P := fun cs P hP => by obtain ⟨C, _, rfl⟩ := List.mem_map.mp hP; exact mo_pair
    refine d_asg (P := Lst ([CBadArgument, CBadName].map fun C => pair C v)) (p_lst (Ps := [pair CBadArgument v, pair CBadName v]) (mo_cons mo_pair (mo_cons mo_pair mo_nil)) (ps_cons mo_pair (p_lst (mo_cons mo_err (mo_cons mo_is mo_nil)) (ps_cons mo_err (p_err (ev_var rfl)) (ps_cons mo_is (.of (p_errF EBadArgument.c (p_errK (ea_cons (ev_var rfl) ea_nil))) mo_is rfl) ps_nil))) (ps_cons mo_pair (p_lst (mo_cons mo_err (mo_cons mo_is mo_nil)) (ps_cons mo_err (p_err (ev_var rfl)) (ps_cons mo_is (.of (p_errF EBadName.c (p_errK (ea_cons (ev_var rfl) ea_nil))) mo_is rfl) ps_nil))) ps_nil))) fun x1 H1 e1 p1 => ?_
    refine d_asg (P := Lst ([CBadArgument, CBadName, CBadDeed, CBadState].map fun C => pair C v)) (p_cat (Ps := [CBadArgument, CBadName].map fun C => pair C v) (mp _) (mp [CBadDeed, CBadState]) (p_var rfl (mo_lst (mp _)) p1) (p_lst (Ps := [pair CBadDeed v, pair CBadState v]) (mo_cons mo_pair (mo_cons mo_pair mo_nil)) (ps_cons mo_pair (p_lst (mo_cons mo_err (mo_cons mo_is mo_nil)) (ps_cons mo_err (p_err (ev_var rfl)) (ps_cons mo_is (.of (p_errF EBadDeed.c (p_errK (ea_cons (ev_var rfl) ea_nil))) mo_is rfl) ps_nil))) (ps_cons mo_pair (p_lst (mo_cons mo_err (mo_cons mo_is mo_nil)) (ps_cons mo_err (p_err (ev_var rfl)) (ps_cons mo_is (.of (p_errF EBadState.c (p_errK (ea_cons (ev_var rfl) ea_nil))) mo_is rfl) ps_nil))) ps_nil)))) fun x2 H2 e2 p2 => ?_
    refine d_asg (P := Lst ([CBadArgument, CBadName, CBadDeed, CBadState, CBadMove, CBadClaim].map fun C => pair C v)) (p_cat (Ps := [CBadArgument, CBadName, CBadDeed, CBadState].map fun C => pair C v) (mp _) (mp [CBadMove, CBadClaim]) (p_var rfl (mo_lst (mp _)) p2) (p_lst (Ps := [pair CBadMove v, pair CBadClaim v]) (mo_cons mo_pair (mo_cons mo_pair mo_nil)) (ps_cons mo_pair (p_lst (mo_cons mo_err (mo_cons mo_is mo_nil)) (ps_cons mo_err (p_err (ev_var rfl)) (ps_cons mo_is (.of (p_errF EBadMove.c (p_errK (ea_cons (ev_var rfl) ea_nil))) mo_is rfl) ps_nil))) (ps_cons mo_pair (p_lst (mo_cons mo_err (mo_cons mo_is mo_nil)) (ps_cons mo_err (p_err (ev_var rfl)) (ps_cons mo_is (.of (p_errF EBadClaim.c (p_errK (ea_cons (ev_var rfl) ea_nil))) mo_is rfl) ps_nil))) ps_nil)))) fun x3 H3 e3 p3 => ?_
    refine d_asg (P := Lst ([CBadArgument, CBadName, CBadDeed, CBadState, CBadMove, CBadClaim, CBadNumber, CBadMenu].map fun C => pair C v)) (p_cat (Ps := [CBadArgument, CBadName, CBadDeed, CBadState, CBadMove, CBadClaim].map fun C => pair C v) (mp _) (mp [CBadNumber, CBadMenu]) (p_var rfl (mo_lst (mp _)) p3) (p_lst (Ps := [pair CBadNumber v, pair CBadMenu v]) (mo_cons mo_pair (mo_cons mo_pair mo_nil)) (ps_cons mo_pair (p_lst (mo_cons mo_err (mo_cons mo_is mo_nil)) (ps_cons mo_err (p_err (ev_var rfl)) (ps_cons mo_is (.of (p_errF EBadNumber.c (p_errK (ea_cons (ev_var rfl) ea_nil))) mo_is rfl) ps_nil))) (ps_cons mo_pair (p_lst (mo_cons mo_err (mo_cons mo_is mo_nil)) (ps_cons mo_err (p_err (ev_var rfl)) (ps_cons mo_is (.of (p_errF EBadMenu.c (p_errK (ea_cons (ev_var rfl) ea_nil))) mo_is rfl) ps_nil))) ps_nil)))) fun x4 H4 e4 p4 => ?_
    refine d_ret (P := Lst ([CBadArgument, CBadName, CBadDeed, CBadState, CBadMove, CBadClaim, CBadNumber, CBadMenu, CBadChange, CBadText].map fun C => pair C v)) (p_cat (Ps := [CBadArgument, CBadName, CBadDeed, CBadState, CBadMove, CBadClaim, CBadNumber, CBadMenu].map fun C => pair C v) (mp _) (mp [CBadChange, CBadText]) (p_var rfl (mo_lst (mp _)) p4) (p_lst (Ps := [pair CBadChange v, pair CBadText v]) (mo_cons mo_pair (mo_cons mo_pair mo_nil)) (ps_cons mo_pair (p_lst (mo_cons mo_err (mo_cons mo_is mo_nil)) (ps_cons mo_err (p_err (ev_var rfl)) (ps_cons mo_is (.of (p_errF EBadChange.c (p_errK (ea_cons (ev_var rfl) ea_nil))) mo_is rfl) ps_nil))) (ps_cons mo_pair (p_lst (mo_cons mo_err (mo_cons mo_is mo_nil)) (ps_cons mo_err (p_err (ev_var rfl)) (ps_cons mo_is (.of (p_errF EBadText.c (p_errK (ea_cons (ev_var rfl) ea_nil))) mo_is rfl) ps_nil))) ps_nil)))) fun x5 H5 e5 p5 => ?_
    exact q x5 H5 (e1.trans (e2.trans (e3.trans (e4.trans e5)))) p5
/-! ### _law_other_fields -/
theorem scOther : FnScope ["thing"] ["thing"] (defScope sOther) := ⟨rfl, rfl, rfl, by decide +kernel, rfl, by decide +kernel, by decide +kernel⟩
theorem ok_other {f0 : Addr} {fd : FuncData} {CBadSetting fBadSetting : Addr} (EBadSetting : Er K mg CBadSetting fBadSetting "BadSetting" "part") {CBadEnd fBadEnd : Addr} (EBadEnd : Er K mg CBadEnd fBadEnd "BadEnd" "part") {CBadPact fBadPact : Addr} (EBadPact : Er K mg CBadPact fBadPact "BadPact" "part") {CBadScript fBadScript : Addr} (EBadScript : Er K mg CBadScript fBadScript "BadScript" "at") {CNoRow fNoRow : Addr} (ENoRow : Er K mg CNoRow fNoRow "NoRow" "row") {CTooMany fTooMany : Addr} (ETooMany : Er K mg CTooMany fTooMany "TooMany" "limit") (F : Fun K "_law_other_fields" "_law_other_fields" sOther f0 fd) : FnOk P w K mg base CX0 2 f0 fd ["thing"] spOther := by
  refine F.ok scOther (fun vs H Q E h => ?_) (fun cdv A outer s H vs Q E hr h => ?_)
  · obtain ⟨v, rfl, _⟩ := h
    rfl
  · obtain ⟨v, rfl, hv, q⟩ := h
    have hr0 : Room 1 _ := hr.mono (by decide)
    have hu := hu_of hr
    refine ⟨_, pss_cons (ps_if (pt_cmpR (op_neLs (Nat.lt_of_succ_lt hu)) (pe_lst (pa_cons (pe_errF (pe_err EBadSetting.c pf_part hr0 EBadSetting.m (by rfl) (pv 0) (fun _ _ _ _ _ _ _ _ _ _ _ _ _ _ => rfl))) (pa_cons (pe_errF (pe_err EBadEnd.c pf_part hr0 EBadEnd.m (by rfl) (pv 0) (fun _ _ _ _ _ _ _ _ _ _ _ _ _ _ => rfl))) (pa_cons (pe_errF (pe_err EBadPact.c pf_part hr0 EBadPact.m (by rfl) (pv 0) (fun _ _ _ _ _ _ _ _ _ _ _ _ _ _ => rfl))) pa_nil)))) (pe_lst (pa_cons (pv 0) (pa_cons (pv 0) (pa_cons (pv 0) pa_nil)))) (nomark _)) (pss_one (ps_ret pe_bl)) pss_nil)
      (pss_cons (ps_if (pt_cmpR (op_neLs (Nat.lt_of_succ_lt hu)) (pe_lst (pa_cons (pe_errF (pe_errK EBadSetting.c pf_part hr0 EBadSetting.m (by rfl) (pk_cons (pv 0) pk_nil) (fun _ _ _ _ _ _ _ _ _ _ _ _ _ _ => rfl))) (pa_cons (pe_errF (pe_errK EBadEnd.c pf_part hr0 EBadEnd.m (by rfl) (pk_cons (pv 0) pk_nil) (fun _ _ _ _ _ _ _ _ _ _ _ _ _ _ => rfl))) (pa_cons (pe_errF (pe_errK EBadPact.c pf_part hr0 EBadPact.m (by rfl) (pk_cons (pv 0) pk_nil) (fun _ _ _ _ _ _ _ _ _ _ _ _ _ _ => rfl))) pa_nil)))) (pe_lst (pa_cons (pv 0) (pa_cons (pv 0) (pa_cons (pv 0) pa_nil)))) (nomark _)) (pss_one (ps_ret pe_bl)) pss_nil)
      (pss_cons (ps_if (pt_cmpR (op_neLs (Nat.lt_of_succ_lt hu)) (pe_lst (pa_cons (pe_errF (pe_err EBadScript.c pf_at hr0 EBadScript.m (by rfl) (pv 0) (fun _ _ _ _ _ _ _ _ _ _ _ _ _ _ => rfl))) (pa_cons (pe_errF (pe_err ENoRow.c pf_row hr0 ENoRow.m (by rfl) (pv 0) (fun _ _ _ _ _ _ _ _ _ _ _ _ _ _ => rfl))) (pa_cons (pe_errF (pe_err ETooMany.c pf_limit hr0 ETooMany.m (by rfl) (pv 0) (fun _ _ _ _ _ _ _ _ _ _ _ _ _ _ => rfl))) pa_nil)))) (pe_lst (pa_cons (pv 0) (pa_cons (pv 0) (pa_cons (pv 0) pa_nil)))) (nomark _)) (pss_one (ps_ret pe_bl)) pss_nil)
      (pss_one (ps_ret (pe_cmpR (op_eqLs (Nat.lt_of_succ_lt hu)) (pe_lst (pa_cons (pe_errF (pe_errK EBadScript.c pf_at hr0 EBadScript.m (by rfl) (pk_cons (pv 0) pk_nil) (fun _ _ _ _ _ _ _ _ _ _ _ _ _ _ => rfl))) (pa_cons (pe_errF (pe_errK ENoRow.c pf_row hr0 ENoRow.m (by rfl) (pk_cons (pv 0) pk_nil) (fun _ _ _ _ _ _ _ _ _ _ _ _ _ _ => rfl))) (pa_cons (pe_errF (pe_errK ETooMany.c pf_limit hr0 ETooMany.m (by rfl) (pk_cons (pv 0) pk_nil) (fun _ _ _ _ _ _ _ _ _ _ _ _ _ _ => rfl))) pa_nil)))) (pe_lst (pa_cons (pv 0) (pa_cons (pv 0) (pa_cons (pv 0) pa_nil)))) (nomark _)))))), ?_⟩
    have s3 : ∀ z ∈ [v, v, v], Solid z := fun z hz => by simp at hz; rw [hz]; exact hv
    have T3 : ∀ H1, EvP (tLst (tCons (tVar 0) (tCons (tVar 0) (tCons (tVar 0) tNil)))) [some v] H1 (LstV [v, v, v]) := fun H1 => p_lstV (vs := [v, v, v]) (ps_cons mo_is (p_is rfl) (ps_cons mo_is (p_is rfl) (ps_cons mo_is (p_is rfl) ps_nil)))
    refine q_when (b := false) (et_test (p_neLs s3 (p_lstV (vs := [v, v, v]) (ps_cons mo_is (.of (p_errF EBadSetting.c (p_err (ev_var rfl))) mo_is rfl) (ps_cons mo_is (.of (p_errF EBadEnd.c (p_err (ev_var rfl))) mo_is rfl) (ps_cons mo_is (.of (p_errF EBadPact.c (p_err (ev_var rfl))) mo_is rfl) ps_nil)))) (T3 _))) (fun z => nomatch z) fun _ H1 e1 => ?_
    refine q_when (b := false) (et_test (p_neLs s3 (p_lstV (vs := [v, v, v]) (ps_cons mo_is (.of (p_errF EBadSetting.c (p_errK (ea_cons (ev_var rfl) ea_nil))) mo_is rfl) (ps_cons mo_is (.of (p_errF EBadEnd.c (p_errK (ea_cons (ev_var rfl) ea_nil))) mo_is rfl) (ps_cons mo_is (.of (p_errF EBadPact.c (p_errK (ea_cons (ev_var rfl) ea_nil))) mo_is rfl) ps_nil)))) (T3 _))) (fun z => nomatch z) fun _ H2 e2 => ?_
    refine q_when (b := false) (et_test (p_neLs s3 (p_lstV (vs := [v, v, v]) (ps_cons mo_is (.of (p_errF EBadScript.c (p_err (ev_var rfl))) mo_is rfl) (ps_cons mo_is (.of (p_errF ENoRow.c (p_err (ev_var rfl))) mo_is rfl) (ps_cons mo_is (.of (p_errF ETooMany.c (p_err (ev_var rfl))) mo_is rfl) ps_nil)))) (T3 _))) (fun z => nomatch z) fun _ H3 e3 => ?_
    exact s_ret (p_neLs s3 (p_lstV (vs := [v, v, v]) (ps_cons mo_is (.of (p_errF EBadScript.c (p_errK (ea_cons (ev_var rfl) ea_nil))) mo_is rfl) (ps_cons mo_is (.of (p_errF ENoRow.c (p_errK (ea_cons (ev_var rfl) ea_nil))) mo_is rfl) (ps_cons mo_is (.of (p_errF ETooMany.c (p_errK (ea_cons (ev_var rfl) ea_nil))) mo_is rfl) ps_nil)))) (T3 _)) fun H4 e4 => q H4 (e1.trans (e2.trans (e3.trans e4)))
end
end K22
namespace K22
open PySem PySem.Spec PyProof.Rows L2 Evl Pd Err
section
variable {P : Program} {w : World} {K : PySem.W.Frag} {mg : Str → Option Value} {base : Heap}
/-! ### the law -/
/-- what a drawn thing may be -/
def Thing : PV := fun x H => scal x x = true ∨ (∃ a xs, x = .ref a ∧ (H a = some (.lst xs) ∨ H a = some (.tup xs)) ∧ ∀ z ∈ xs, Solid z) ∨ ∃ a, x = .ref a ∧ H a = some (.dK [])
theorem mo_thing : Mo Thing := fun x H H' e h => by
  rcases h with h | ⟨a, xs, h1, h2, h3⟩ | ⟨a, h1, h2⟩
  · exact .inl h
  · exact .inr (.inl ⟨a, xs, h1, h2.imp (e a _) (e a _), h3⟩)
  · exact .inr (.inr ⟨a, h1, e a _ h2⟩)
theorem Thing.solid {x : V} {H : Hp} (h : Thing x H) : Solid x := by
  rcases h with h | ⟨a, xs, h1, _⟩ | ⟨a, h1, _⟩
  · cases x <;> first | exact .inl rfl | (simp [scal] at h)
  · exact .inr ⟨a, h1⟩
  · exact .inr ⟨a, h1⟩
theorem mo_twelve : ∀ P ∈ List.replicate 12 Thing, Mo P := fun P hP => by rw [List.eq_of_mem_replicate hP]; exact mo_thing
theorem p_thing {σ : L2.St} {H : Hp} {v : V} (h : scal v v = true) : EvP (tC v) σ H Thing := p_c.imp fun x _ _ hx => by
  rw [show x = v from hx]
  exact .inl h
def So : PV := fun x _ => Solid x
theorem mo_so : Mo So := fun _ _ _ _ h => h
theorem p_so {σ : L2.St} {H : Hp} {v : V} (h : flatB v = true) : EvP (tC v) σ H So := p_c.imp fun x _ _ hx => by
  rw [show x = v from hx]
  exact .inl h
theorem allP_rep {P : PV} {H : Hp} : ∀ {n : Nat} {xs : List V}, AllP (List.replicate n P) xs H → ∀ z ∈ xs, P z H
  | 0, [], _ => fun z hz => nomatch hz
  | n + 1, x :: xs, h => fun z hz => by
    rcases List.mem_cons.mp hz with rfl | q
    · exact h.1
    · exact allP_rep (n := n) h.2 z q
theorem allP_one {P : PV} {H : Hp} : ∀ {xs : List V}, AllP [P] xs H → ∃ x, xs = [x] ∧ P x H
  | [x], h => ⟨x, rfl, h.1⟩
theorem allP_two {P R : PV} {H : Hp} : ∀ {xs : List V}, AllP [P, R] xs H → ∃ x y, xs = [x, y] ∧ P x H ∧ R y H
  | [x, y], h => ⟨x, y, rfl, h.1, h.2.1⟩
theorem mo_rep {n : Nat} : ∀ P ∈ List.replicate n So, Mo P := fun P hP => by rw [List.eq_of_mem_replicate hP]; exact mo_so
theorem thing_tup {σ : L2.St} {H : Hp} {n : Nat} {tr : TA} (h : EvPs tr σ H (List.replicate n So)) (hl : n ≤ 100000 := by decide) : EvP (tTup tr) σ H Thing :=
  (p_tup mo_rep h (by rw [List.length_replicate]; exact hl)).imp fun x _ _ ⟨a, xs, h1, h2, h3⟩ => .inr (.inl ⟨a, xs, h1, .inr h2, allP_rep h3⟩)
theorem thing_lst {σ : L2.St} {H : Hp} {n : Nat} {tr : TA} (h : EvPs tr σ H (List.replicate n So)) (hl : n ≤ 100000 := by decide) : EvP (tLst tr) σ H Thing :=
  (p_lst mo_rep h (by rw [List.length_replicate]; exact hl)).imp fun x _ _ ⟨a, xs, h1, h2, h3⟩ => .inr (.inl ⟨a, xs, h1, .inl h2, allP_rep h3⟩)
theorem at_nat {xs : List V} {n : Nat} {z : V} (h : xs[n]? = some z) : atI xs (n : Int) = some z := by
  unfold atI
  rw [ixN_nat (List.getElem?_eq_some_iff.mp h).1]
  exact h
theorem rv_self {K : PySem.W.Frag} {H : Hp} {v : V} (h : Thing v H) : RV (rSelf K false) v v H (.bl false) := fun H1 e Q q => by
  refine ⟨rfl, ?_, q H1 (Ex.refl _)⟩
  rcases mo_thing _ _ _ e h with h | ⟨a, xs, h1, h2, h3⟩ | h
  · exact .inl h
  · exact .inr (.inl ⟨a, xs, h1, h2.imp sq_of st_of, h3⟩)
  · exact .inr (.inr h)
theorem solid_bl {bs : List Bool} : ∀ z ∈ bs.map V.bl, Solid z := fun z hz => by
  obtain ⟨b, _, rfl⟩ := List.mem_map.mp hz
  exact .inl rfl
abbrev NL : List Str := ["script", "values", "turn", "thing", "made", "j", "error", "told", "k"]
theorem scL : FnScope NL ["script"] (defScope sLaw) := ⟨rfl, rfl, rfl, by decide +kernel, rfl, by decide +kernel, by decide +kernel⟩
def spLaw (K : PySem.W.Frag) : Sp := fun vs H Q _ => ∃ (a : Addr) (ns : List Int), vs = [.ref a] ∧ SqL K H a (ns.map V.int) ∧ ns.length ≤ 63 ∧ ∀ H', Q (.bl true) H'
/-- what is asked of the j-th made error's class -/
structure Kin (K : PySem.W.Frag) (CP : Addr) (kinds : List Addr) (j : Nat) (C : Addr) : Prop where
  c : ∃ fI, ErrC K C fI "value"
  i : ExcC K C
  ks : Paired (fun c b => PySem.W.kitOne K (.ref C) (.ref c) = some b) kinds ((List.range 12).map fun k : Nat => decide (V.int (k : Int) = V.int (j : Int)))
  p : PySem.W.kitOne K (.ref C) (.ref CP) = some true
  e : PySem.W.kitOne K (.ref C) (.type "Exception") = some true
def rMod0 : R2 := rI (fun _ j => 0 < j) fun i j => .int (i % j)
theorem ok_law {f0 fC fM fO fK CP CS fS CN fN : Addr} {fd fdC fdM fdO fdK : FuncData} {made kinds : List Addr} (F : Fun K "law" "law" sLaw f0 fd) (B : Blt mg)
    (GC : FnOk P w K mg base CX0 1 fC fdC ["script", "k"] (spCell K)) (mC : mg "_law_cell" = some (.ref fC)) (kC : PySem.W.keepIn K (.ref fC) = true) (bC : Binds K fdC ["script", "k"] [])
    (GM : FnOk P w K mg base CX0 2 fM fdM ["thing"] (spMade made)) (mM : mg "_law_made_errors" = some (.ref fM)) (kM : PySem.W.keepIn K (.ref fM) = true) (bM : Binds K fdM ["thing"] [])
    (GO : FnOk P w K mg base CX0 2 fO fdO ["thing"] spOther) (mO : mg "_law_other_fields" = some (.ref fO)) (kO : PySem.W.keepIn K (.ref fO) = true) (bO : Binds K fdO ["thing"] [])
    (GK : FnOk P w K mg base CX0 1 fK fdK ["error"] (spKinds K kinds)) (mK : mg "_law_kinds" = some (.ref fK)) (kK : PySem.W.keepIn K (.ref fK) = true) (bK : Binds K fdK ["error"] [])
    (mP : mg "PactError" = some (.ref CP)) (ES : Er K mg CS fS "BadSetting" "part") (EN : NilC K CN fN) (iN : ExcC K CN) (mN : mg "NothingLeft" = some (.ref CN))
    (nP : PySem.W.kitOne K (.ref CN) (.ref CP) = some true) (sN : PySem.W.kitOne K (.ref CS) (.ref CN) = some false) (ml : made.length = 10) (hall : ∀ (j : Nat) (C : Addr), made[j]? = some C → Kin K CP kinds j C) :
    FnOk P w K mg base CX0 3 f0 fd ["script"] (spLaw K) := by
  refine F.ok scL (fun vs H Q E h => ?_) (fun cdv A outer s H vs Q E hr h => ?_)
  · obtain ⟨a, ns, rfl, _⟩ := h
    rfl
  · obtain ⟨a, ns, rfl, hS, hl, q⟩ := h
    have hr1 : Room 1 _ := hr.mono (by decide)
    have hu := hu_of hr
    have hu1 := Nat.lt_of_succ_lt hu

    refine ⟨_, pss_cons (ps_set (i := 1) scL.nd rfl (Or.inl rfl) (pe_lst (pa_cons pe_non (pa_cons pe_int (pa_cons pe_str (pa_cons (pe_tup pa_nil) (pa_cons (pe_lst (pa_cons pe_int pa_nil)) (pa_cons pe_dnewK (pa_cons pe_bl (pa_cons (pe_tup (pa_cons pe_str (pa_cons (pe_tup (pa_cons pe_str pa_nil)) pa_nil))) (pa_cons (pe_un un_neg pe_int) (pa_cons pe_str (pa_cons (pe_lst (pa_cons pe_non pa_nil)) (pa_cons (pe_op op_pow pe_int pe_int) pa_nil))))))))))))))
      (pss_cons (ps_for PassesOwn.never rfl (pi_range1 (by rfl) B.range (pa_cons pe_int pa_nil)) (pg_name (i := 2) scL.nd rfl (Or.inl rfl))
      (pss_cons (ps_set (i := 3) scL.nd rfl (Or.inl rfl) (pe_ix ix_list (pv 1) (pe_op op_mod (pe_callTy call_int1 (by rfl) B.int boot_int (pa_cons (pe_call GC hr1 (by rfl) mC kC bC .nil pass0 (pa_cons (pv 0) (pa_cons (pv 2) pa_nil))) pa_nil)) pe_int) (fun _ _ => rfl)))
      (pss_cons (ps_set (i := 4) scL.nd rfl (Or.inl rfl) (pe_call GM hr (by rfl) mM kM bM .nil pass0 (pa_cons (pv 3) pa_nil)))
      (pss_cons (ps_for PassesOwn.never rfl (pi_range1 (by rfl) B.range (pa_cons (pe_callB call_len_seq (by rfl) B.len PySem.boot_len (pa_cons (pv 4) pa_nil)) pa_nil)) (pg_name (i := 5) scL.nd rfl (Or.inr rfl))
        (pss_cons (ps_asg (pe_ix ix_list (pv 4) (pv 5) (fun _ _ => rfl)) (pg_lst rfl (pgs_cons (pg_name (i := 6) scL.nd rfl (Or.inl rfl)) (pgs_cons (pg_name (i := 7) scL.nd rfl (Or.inl rfl)) pgs_nil))))
        (pss_cons (ps_if (PW.pt (pw_or (pt_cmpR (op_neSelf hu1) (pe_errF (pv 6)) (pv 3) (nomark _)) (pw_or (pt_cmpR (op_neSelf hu1) (pv 7) (pv 3) (nomark _)) (pw_or1 (pt_not (pt_val (pe_callB call_isErr (by rfl) B.isi boot_isinstance (pa_cons (pv 6) (pa_cons (pe_gref (by rfl) mP) pa_nil))))))))) (pss_one (ps_ret pe_bl)) pss_nil)
        (pss_one (ps_if (PW.pt (pw_or (pt_cmpR (op_neLs hu1) (pe_call GK hr1 (by rfl) mK kK bK .nil pass0 (pa_cons (pv 6) pa_nil)) (pe_lc (own := [("k", 8)]) (g := gName 8) (tt := tYes) rfl scL.nd (pi_range1 (by rfl) B.range (pa_cons pe_int pa_nil)) (blkOk_by (N := NL) (sc := defScope sLaw) (by decide +kernel)) (fun _ _ _ _ _ => pg_name (i := 8) scL.nd rfl (Or.inl rfl)) (fun _ _ _ _ _ => pts_nil) (fun _ _ _ _ _ => pe_cmpR op_eq (pv 8) (pv 5) (nomark _))) (nomark _)) (pw_or1 (pt_not (pt_val (pe_callB call_isErr (by rfl) B.isi boot_isinstance (pa_cons (pv 6) (pa_cons (pe_bltn (by rfl) B.exc (show bootBuiltins "Exception" = some (.type "Exception") by decide +kernel) (show RelV (.ty "Exception") (.type "Exception") from rfl)) pa_nil)))))))) (pss_one (ps_ret pe_bl)) pss_nil)))))
      (pss_one (ps_if (pt_not (pt_val (pe_call GO hr (by rfl) mO kO bO .nil pass0 (pa_cons (pv 3) pa_nil)))) (pss_one (ps_ret pe_bl)) pss_nil))))))
      (pss_one (ps_ret (pe_and (pe_callB call_is0 (by rfl) B.isi boot_isinstance (pa_cons (pe_err0 EN hr1 mN (by rfl)) (pa_cons (pe_gref (by rfl) mP) pa_nil))) (pe_one (pe_not (pe_callB call_isErr (by rfl) B.isi boot_isinstance (pa_cons (pe_err ES.c pf_part hr1 ES.m (by rfl) pe_str (fun _ _ _ _ _ _ _ _ _ _ _ _ _ _ => rfl)) (pa_cons (pe_gref (by rfl) mN) pa_nil))))))))), ?_⟩
    have so : EvPs (tCons (tC (.str "left")) (tCons (tTup (tCons (tC (.str "hear")) tNil)) tNil)) [some (V.ref a), none, none, none, none, none, none, none, none] H (List.replicate 2 So) := ps_cons mo_so (p_so rfl) (ps_cons mo_so ((p_tup (Ps := [So]) (mo_cons mo_so mo_nil) (ps_cons mo_so (p_so rfl) ps_nil)).imp fun x _ _ ⟨b, _, h1, _⟩ => .inr ⟨b, h1⟩) ps_nil)
    refine d_asg (P := Lst (List.replicate 12 Thing)) ?vals fun xv H1 e1 pv1 => ?_
    case vals =>
      refine p_lst mo_twelve (show EvPs _ _ _ [Thing, Thing, Thing, Thing, Thing, Thing, Thing, Thing, Thing, Thing, Thing, Thing] from ?_)
      refine ps_cons mo_thing (p_thing rfl) (ps_cons mo_thing (p_thing rfl) (ps_cons mo_thing (p_thing rfl) (ps_cons mo_thing (thing_tup (n := 0) ps_nil) (ps_cons mo_thing (thing_lst (n := 1) (ps_cons mo_so (p_so rfl) ps_nil)) (ps_cons mo_thing (fun H1 e1 Q q => fun d hd => q _ _ (Ex.new hd) (.inr (.inr ⟨d, rfl, upd_same⟩)))
        (ps_cons mo_thing (p_thing rfl) (ps_cons mo_thing (thing_tup (n := 2) so) (ps_cons mo_thing (p_un (P1 := Is (.int 1)) p_c fun x H1 _ hx Q q => ⟨1, hx, q _ H1 (Ex.refl _) (.inl rfl)⟩) (ps_cons mo_thing (p_thing rfl) (ps_cons mo_thing (thing_lst (n := 1) (ps_cons mo_so (p_so rfl) ps_nil))
        (ps_cons mo_thing (p_op (P1 := Is (.int 10)) (P2 := Is (.int 20)) mo_is p_c p_c fun x y H1 _ hx hy Q q => ⟨10, 20, hx, hy, ⟨by decide, by decide, by decide⟩, q _ H1 (Ex.refl _) (.inl rfl)⟩) ps_nil)))))))))))
    refine q_forR1 (n := 4) (ea_cons ev_c ea_nil) (by decide) (fun i σ' H' => ∃ b c d e f g h, σ' = [some (V.ref a), some xv, b, c, d, e, f, g, h] ∧ Ex H1 H') (fun H2 e2 => ⟨_, _, _, _, _, _, _, rfl, e2⟩) ?turn ?after
    case after =>
      rintro σ' H' ⟨b, c, d, e, f, g, h, rfl, ex⟩
      exact fun e he => ⟨e, CN, .ref CP, .ref CP, true, rfl, upd_same, iN, fun u hu => hu, nP, true, rfl, iteT ((ev_notV (p_isErr ES.i sN (p_err ev_c) ev_c)) _ (Ex.refl _) _ fun H2 _ => q H2)⟩
    case turn =>
      rintro i σ' H' hi ⟨b, c, d, e, f, g, h, rfl, ex⟩
      have pv2 := mo_lst mo_twelve _ _ _ ex pv1
      have hS2 := ex_l (e1.trans ex) hS
      refine d_asg (P := Thing) (p_op (P1 := Lst (List.replicate 12 Thing)) (P2 := fun x _ => ∃ n : Nat, n < 12 ∧ x = V.int (n : Int)) (mo_lst mo_twelve) (p_var rfl (mo_lst mo_twelve) pv2)
        (p_op (P1 := fun x _ => ∃ n, x = V.int n) (P2 := Is (.int 12)) (fun _ _ _ _ h => h) (p_cb (Ps := [fun x _ => ∃ n, x = V.int n]) (ps_cons (fun _ _ _ _ h => h) (p_call (Ps := [Is (.ref a), Is (.int (i : Int))]) (ps_cons mo_is (p_is rfl) (ps_cons mo_is (p_is rfl) ps_nil)) ?cell) ps_nil) ?int) p_c ?mod) ?get) fun th H3 e3 hth => ?_
      case cell => exact fun xs H4 e4 hps Q4 q4 => ⟨a, ns, i, allP_is (vs := [V.ref a, V.int i]) hps, ex_l e4 hS2, hl, by omega, by omega, fun n H5 e5 => q4 _ H5 e5 ⟨n, rfl⟩⟩
      case int =>
        intro xs H4 e4 hps Q4 q4
        obtain ⟨x, rfl, n, rfl⟩ := allP_one hps
        exact .inl ⟨n, rfl, q4 _ H4 (Ex.refl _) ⟨n, rfl⟩⟩
      case mod =>
        rintro x y H4 e4 ⟨n, rfl⟩ hy Q4 q4
        refine ⟨n, 12, rfl, hy, (by show (0 : Int) < 12; decide), q4 _ H4 (Ex.refl _) ⟨(n % 12).toNat, by omega, ?_⟩⟩
        exact congrArg V.int (by omega)
      case get =>
        rintro x y H4 e4 ⟨p, xs, rfl, hx, hps⟩ ⟨n, hn, rfl⟩ Q4 q4
        obtain ⟨z, hz, pz⟩ := allP_get (i := n) (P := Thing) hps (by rw [List.getElem?_replicate]; simp [hn])
        exact ⟨p, xs, n, z, rfl, rfl, sq_of hx, at_nat hz, q4 z H4 (Ex.refl _) pz⟩
      have mp : ∀ P ∈ made.map (fun C => pair C th), Mo P := fun P hP => by obtain ⟨C, _, rfl⟩ := List.mem_map.mp hP; exact mo_pair
      refine d_asg (P := Lst (made.map fun C => pair C th)) (p_call (Ps := [Is th]) (ps_cons mo_is (p_is rfl) ps_nil) fun xs H4 _ hps Q4 q4 => ⟨th, allP_is (vs := [th]) hps, fun x H5 e5 p => q4 x H5 e5 p⟩) fun md H4 e4 hmd => ?_
      refine q_forR1 (n := 10) (ea_cons ?len ea_nil) (by decide) (fun j σ' H' => ∃ e f g h, σ' = [some (V.ref a), some xv, some (V.int (i : Int)), some th, some md, e, f, g, h] ∧ Ex H4 H') (fun H5 e5 => ⟨_, _, _, _, rfl, e5⟩) ?step ?next
      case len =>
        intro H5 e5 Q5 q5
        obtain ⟨p, xs, rfl, hx, hps⟩ := mo_lst mp _ _ _ e5 hmd
        refine ⟨_, rfl, p, xs, rfl, .inl (sq_of hx), ?_⟩
        rw [hps.len, List.length_map, ml]
        exact q5 H5 (Ex.refl _)
      case next =>
        rintro σ' H' ⟨e, f, g, h, rfl, ex5⟩
        exact s_when (b := false) (et_is (et_not (et_B (b := true) fun H6 e6 Q6 q6 => ⟨_, rfl, th, rfl, hth.solid, fun H7 e7 => q6 H7 e7⟩)) rfl) (fun z => nomatch z) fun _ H7 e7 => ⟨_, _, _, _, _, _, _, rfl, ex.trans (e3.trans (e4.trans (ex5.trans e7)))⟩
      case step =>
        rintro j σ' H' hj ⟨e, f, g, h, rfl, ex5⟩
        obtain ⟨p, xs, rfl, hx, hps⟩ := mo_lst mp _ _ _ ex5 hmd
        obtain ⟨C, hC⟩ : ∃ C, made[j]? = some C := ⟨made[j]'(by omega), List.getElem?_eq_getElem _⟩
        have T := hall j C hC
        obtain ⟨z, hz, p2, ys, rfl, hp2, hq⟩ := allP_get (i := j) (P := pair C th) hps (by rw [List.getElem?_map, hC]; rfl)
        obtain ⟨er, tl, rfl, her, htl⟩ := allP_two hq
        cases htl
        have hth5 : Thing th H' := mo_thing _ _ _ (e4.trans ex5) hth
        refine ⟨_, rfl, _, rfl, p, xs, (j : Int), _, rfl, rfl, sq_of hx, at_nat hz, p2, _, rfl, sq_of hp2, rfl, er, [th], rfl, th, [], rfl, rfl, ?_⟩
        obtain ⟨fI, TC⟩ := T.c
        have her2 : ∀ H6, Ex H' H6 → EvP (tVar 6) [some (V.ref a), some xv, some (V.int (i : Int)), some th, some (V.ref p), some (V.int (j : Int)), some er, some th, h] H6 (ErrV C "value" th) := fun H6 e6 => p_var rfl mo_err (mo_err _ _ _ e6 her)
        refine q_when (b := false) (et_is (et_or (et_test (ev_op (p_errF TC (her2 _ (Ex.refl _))) (ev_var rfl) (rv_self hth5))) fun _ => et_or (et_test (ev_op (ev_var rfl) (ev_var rfl) (rv_self hth5))) fun _ => et_not (et_B (b := true) (p_isErr T.i T.p (her2 _ (Ex.refl _)) ev_c))) rfl) (fun z => nomatch z) fun _ H6 e6 => ?_
        refine s_when (b := false) (et_is (et_or (et_test (p_neLs (vs := ((List.range 12).map fun k : Nat => decide (V.int (k : Int) = V.int (j : Int))).map V.bl) solid_bl ?ks ?lc)) fun _ => et_not (et_B (b := true) (p_isErrT T.i T.e (her2 _ e6) ev_c))) rfl) (fun z => nomatch z) fun _ H7 e7 => ⟨_, _, _, _, rfl, ex5.trans (e6.trans e7)⟩
        case ks =>
          refine p_call (Ps := [ErrV C "value" th]) (ps_cons mo_err (her2 _ e6) ps_nil) fun xs H8 e8 hps Q8 q8 => ?_
          obtain ⟨x, rfl, y, d, rfl, at_⟩ := allP_one hps
          exact ⟨y, C, d, "value", th, _, rfl, at_, T.i, T.ks, fun x H9 e9 p => q8 x H9 e9 p⟩
        case lc =>
          have el := el_lcR1 (σ := [some (V.ref a), some xv, some (V.int (i : Int)), some th, some (V.ref p), some (V.int (j : Int)), some er, some th, h]) (H := H6) (j := 8) (vs := [8]) (n := 12) (ta := tCons (tC (.int 12)) tNil) (t := tYes) (te := tOp rEq (tVar 8) (tVar 5))
            (fun _ => true) (fun k => .bl (decide (V.int (k : Int) = V.int (j : Int)))) (ea_cons ev_c ea_nil) (by decide) (fun _ => rfl) (fun k H8 _ _ H9 e9 Q9 q9 => q9 H9 (Ex.refl _)) fun k H8 _ _ _ => ev_op (ev_var rfl) (ev_var rfl) (rv_eq rfl)
          intro H8 e8 Q8 q8
          refine el H8 e8 Q8 fun p H9 hp e9 h9 => q8 (.ref p) H9 e9 ⟨p, rfl, ?_⟩
          rw [h9]
          unfold given
          rw [List.filter_eq_self.mpr (fun _ _ => rfl), List.map_map]
          rfl
end
end K22
namespace K22
open PySem PySem.Spec PyProof.Rows L2 Evl Pd Err
def pairB (K : PySem.W.Frag) (C : Addr) : List Addr → List Bool → Bool
  | [], [] => true
  | c :: cs, b :: bs => decide (PySem.W.kitOne K (.ref C) (.ref c) = some b) && pairB K C cs bs
  | _, _ => false
theorem pairB_ok {K : PySem.W.Frag} {C : Addr} : ∀ {cs : List Addr} {bs : List Bool}, pairB K C cs bs = true → Paired (fun c b => PySem.W.kitOne K (.ref C) (.ref c) = some b) cs bs
  | [], [], _ => .nil
  | c :: cs, b :: bs, h => by
    have h' : (decide (PySem.W.kitOne K (.ref C) (.ref c) = some b) && pairB K C cs bs) = true := h
    rw [Bool.and_eq_true] at h'
    exact .cons (of_decide_eq_true h'.1) (pairB_ok h'.2)
  | [], _ :: _, h => Bool.noConfusion h
  | _ :: _, [], h => Bool.noConfusion h
def kinB (K : PySem.W.Frag) (CP : Addr) (kinds : List Addr) (j : Nat) (C : Addr) : Bool :=
  pairB K C kinds ((List.range 12).map fun k : Nat => decide (V.int (k : Int) = V.int (j : Int))) && (decide (PySem.W.kitOne K (.ref C) (.ref CP) = some true) && decide (PySem.W.kitOne K (.ref C) (.type "Exception") = some true))
def allB (K : PySem.W.Frag) (CP : Addr) (kinds : List Addr) : Nat → List Addr → Bool
  | _, [] => true
  | j, C :: r => kinB K CP kinds j C && allB K CP kinds (j + 1) r
theorem kin_ok {K : PySem.W.Frag} {CP : Addr} {kinds : List Addr} {j : Nat} {C fI : Addr} (h : kinB K CP kinds j C = true) (c : ErrC K C fI "value") (i : ExcC K C) : Kin K CP kinds j C := by
  unfold kinB at h
  rw [Bool.and_eq_true, Bool.and_eq_true] at h
  exact ⟨⟨fI, c⟩, i, pairB_ok h.1, of_decide_eq_true h.2.1, of_decide_eq_true h.2.2⟩
theorem allB_ok {K : PySem.W.Frag} {CP : Addr} {kinds : List Addr} : ∀ {i : Nat} {cs : List Addr}, allB K CP kinds i cs = true → (∀ C ∈ cs, (∃ fI, ErrC K C fI "value") ∧ ExcC K C) → ∀ (j : Nat) (C : Addr), cs[j]? = some C → Kin K CP kinds (i + j) C
  | i, D :: cs, h, hc, 0, C, e => by
    cases (show some D = some C from e)
    have h' : (kinB K CP kinds i D && allB K CP kinds (i + 1) cs) = true := h
    rw [Bool.and_eq_true] at h'
    obtain ⟨⟨fI, c⟩, x⟩ := hc D List.mem_cons_self
    exact kin_ok h'.1 c x
  | i, D :: cs, h, hc, j + 1, C, e => by
    have h' : (kinB K CP kinds i D && allB K CP kinds (i + 1) cs) = true := h
    rw [Bool.and_eq_true] at h'
    have r := allB_ok h'.2 (fun C hC => hc C (List.mem_cons_of_mem _ hC)) j C (show cs[j]? = some C from e)
    rw [show i + (j + 1) = i + 1 + j from by omega]
    exact r
theorem er_mk {K : PySem.W.Frag} {h : Heap} {mg : Str → Option Value} (X : K.In h) (G : h.Ns mainGlobals mg) {C CP fI N : Addr} {x f qn nm q : Str} {bs : List Value} {sn : List Str} {sub : List Value} {ab : Bool} {col : Option Bool} {dd od an : Option Addr} {m0 m1 m2 m3 m5 : Option Value} {sl : Array (Option Value)} {oc dc pm cd ct : Value} {p1 p2 q1 q2 q3 q4 : Pos}
    (a : PySem.W.nsIn K mainGlobals x = some (some (.ref C))) (b : K.lookup C = some (excClassObj nm q C N bs [.ref CP, .type "Exception", .type "BaseException", .type "object"] true sn sub ab col dd m0 m1 m2 m3 m5 "Exception.__new__"))
    (sa : PySem.W.findIn K (.ref C) "__setattr__" = some (some (.builtin "object.__setattr__"))) (ga : PySem.W.findIn K (.ref C) "__getattribute__" = some (some (.builtin "BaseException.__getattribute__"))) (gg : PySem.W.findIn K (.ref C) "__getattr__" = some none) (nf : PySem.W.findIn K (.ref C) f = some none)
    (i : PySem.W.findIn K (.ref C) "__init__" = some (some (.ref fI))) (t : PySem.W.typeIn K (.ref fI) = some (.type "function")) (l : K.lookup fI = some ⟨oc, od, .func (PySem.W.fnOf "__init__" qn (iA f p1 p2) (iB f q1 q2 q3 q4) (iS f) .none .none dc pm an cd ct), sl⟩) (c : PySem.W.codeIn K cd qn = true)
    (kC : PySem.W.keepIn K (.ref C) = true) (eC : PySem.W.subIn K (.ref C) (.type "BaseException") = some true) (tC : PySem.W.typeIn K (.ref C) = some (.type "type")) (hC : PySem.W.hasDictIn K C = true)
    (ca : PySem.W.findIn K (.ref C) "__class__" = some (some (.builtin "object.__class__"))) (cn : PySem.W.specialIn K (.builtin "object.__class__") "__get__" = some (some (.builtin "getset_descriptor.__get__"))) (ct' : PySem.W.takesIn K (.builtin "object.__class__") = some true) (cm : PySem.W.mroIn K C (.type "object") = some true) :
    Er K mg C fI x f :=
  ⟨⟨⟨nm, q, N, bs, _, sn, sub, ab, col, dd, m0, m1, m2, m3, m5, b, .cons CP .base⟩, sa, ga, gg, nf, i, t, kC, eC, tC, hC, ⟨qn, oc, od, dc, pm, an, cd, ct, sl, p1, p2, q1, q2, q3, q4, l, c⟩⟩, PySem.W.mg_of X G a, ⟨ga, gg, eC, hC, ca, cn, ct', cm⟩⟩
theorem nil_mk {K : PySem.W.Frag} {h : Heap} {mg : Str → Option Value} (X : K.In h) (G : h.Ns mainGlobals mg) {C CP fI N : Addr} {x qn nm q : Str} {bs : List Value} {sn : List Str} {sub : List Value} {ab : Bool} {col : Option Bool} {dd od an : Option Addr} {m0 m1 m2 m3 m5 : Option Value} {sl : Array (Option Value)} {oc dc pm cd ct : Value} {p1 q1 : Pos}
    (a : PySem.W.nsIn K mainGlobals x = some (some (.ref C))) (b : K.lookup C = some (excClassObj nm q C N bs [.ref CP, .type "Exception", .type "BaseException", .type "object"] true sn sub ab col dd m0 m1 m2 m3 m5 "Exception.__new__"))
    (ga : PySem.W.findIn K (.ref C) "__getattribute__" = some (some (.builtin "BaseException.__getattribute__"))) (gg : PySem.W.findIn K (.ref C) "__getattr__" = some none)
    (i : PySem.W.findIn K (.ref C) "__init__" = some (some (.ref fI))) (t : PySem.W.typeIn K (.ref fI) = some (.type "function")) (l : K.lookup fI = some ⟨oc, od, .func (PySem.W.fnOf "__init__" qn (nA p1) (nB q1) nS .none .none dc pm an cd ct), sl⟩) (c : PySem.W.codeIn K cd qn = true)
    (kC : PySem.W.keepIn K (.ref C) = true) (eC : PySem.W.subIn K (.ref C) (.type "BaseException") = some true) (hC : PySem.W.hasDictIn K C = true)
    (ca : PySem.W.findIn K (.ref C) "__class__" = some (some (.builtin "object.__class__"))) (cn : PySem.W.specialIn K (.builtin "object.__class__") "__get__" = some (some (.builtin "getset_descriptor.__get__"))) (ct' : PySem.W.takesIn K (.builtin "object.__class__") = some true) (cm : PySem.W.mroIn K C (.type "object") = some true) :
    NilC K C fI ∧ mg x = some (.ref C) ∧ ExcC K C :=
  ⟨⟨⟨nm, q, N, bs, _, sn, sub, ab, col, dd, m0, m1, m2, m3, m5, b, .cons CP .base⟩, i, t, kC, ⟨qn, oc, od, dc, pm, an, cd, ct, sl, p1, q1, l, c⟩⟩, PySem.W.mg_of X G a, ⟨ga, gg, eC, hC, ca, cn, ct', cm⟩⟩
/-- a def of the top -/
structure Dn (K : PySem.W.Frag) (mg : Str → Option Value) (x : Str) (st : Stmt) (f : Addr) : Prop where
  g : mg x = some (.ref f)
  k : PySem.W.keepIn K (.ref f) = true
  F : ∃ fd, Fun K x x st f fd
theorem dn_mk {K : PySem.W.Frag} {h : Heap} {mg : Str → Option Value} (X : K.In h) (G : h.Ns mainGlobals mg) {f : Addr} {x : Str} {st : Stmt} {od an : Option Addr} {sl : Array (Option Value)} {oc kV dc pm cd ct : Value}
    (a : PySem.W.nsIn K mainGlobals x = some (some (.ref f))) (l : K.lookup f = some ⟨oc, od, .func (PySem.W.fnOf x x (defArgs st) (defBody st) (defScope st) .none kV dc pm an cd ct), sl⟩) (c : PySem.W.codeIn K cd x = true) (k : PySem.W.keepIn K (.ref f) = true) : Dn K mg x st f :=
  ⟨PySem.W.mg_of X G a, k, _, fun_mk l c k⟩
theorem dn_of {K : PySem.W.Frag} {h : Heap} {mg : Str → Option Value} (X : K.In h) (G : h.Ns mainGlobals mg) {f fa : Addr} {x : Str} {st : Stmt} {od an : Option Addr} {sl : Array (Option Value)} {oc kV dc pm cd ct : Value} (hm : mg x = some (.ref fa))
    (a : PySem.W.nsIn K mainGlobals x = some (some (.ref f))) (l : K.lookup f = some ⟨oc, od, .func (PySem.W.fnOf x x (defArgs st) (defBody st) (defScope st) .none kV dc pm an cd ct), sl⟩) (c : PySem.W.codeIn K cd x = true) (k : PySem.W.keepIn K (.ref f) = true) : Dn K mg x st fa := by
  have e := hm.symm.trans (PySem.W.mg_of X G a)
  cases e
  exact dn_mk X G a l c k
theorem all_ok {l : PySem.W.OpenLaw} {w : World} {K : PySem.W.Frag} {mg : Str → Option Value} {fa CP CN fN fC fM fO fK CBadArgument fBadArgument CBadSetting fBadSetting CBadEnd fBadEnd CBadPact fBadPact CBadName fBadName CBadDeed fBadDeed CBadState fBadState CBadMove fBadMove CBadScript fBadScript CBadNumber fBadNumber CBadClaim fBadClaim CBadChange fBadChange CBadMenu fBadMenu CBadText fBadText CNoRow fNoRow CTooMany fTooMany : Addr} (B : Blt mg) (mP : mg "PactError" = some (.ref CP)) (N : NilC K CN fN ∧ mg "NothingLeft" = some (.ref CN) ∧ ExcC K CN)
    (EBadArgument : Er K mg CBadArgument fBadArgument "BadArgument" "value")
    (EBadSetting : Er K mg CBadSetting fBadSetting "BadSetting" "part")
    (EBadEnd : Er K mg CBadEnd fBadEnd "BadEnd" "part")
    (EBadPact : Er K mg CBadPact fBadPact "BadPact" "part")
    (EBadName : Er K mg CBadName fBadName "BadName" "value")
    (EBadDeed : Er K mg CBadDeed fBadDeed "BadDeed" "value")
    (EBadState : Er K mg CBadState fBadState "BadState" "value")
    (EBadMove : Er K mg CBadMove fBadMove "BadMove" "value")
    (EBadScript : Er K mg CBadScript fBadScript "BadScript" "at")
    (EBadNumber : Er K mg CBadNumber fBadNumber "BadNumber" "value")
    (EBadClaim : Er K mg CBadClaim fBadClaim "BadClaim" "value")
    (EBadChange : Er K mg CBadChange fBadChange "BadChange" "value")
    (EBadMenu : Er K mg CBadMenu fBadMenu "BadMenu" "value")
    (EBadText : Er K mg CBadText fBadText "BadText" "value")
    (ENoRow : Er K mg CNoRow fNoRow "NoRow" "row")
    (ETooMany : Er K mg CTooMany fTooMany "TooMany" "limit")
    (DC : Dn K mg "_law_cell" sCell fC) (DM : Dn K mg "_law_made_errors" sMade fM) (DO : Dn K mg "_law_other_fields" sOther fO) (DK : Dn K mg "_law_kinds" sKinds fK) (DL : Dn K mg "law" sLaw fa)
    (kin : allB K CP [CBadArgument, CBadName, CBadDeed, CBadState, CBadMove, CBadClaim, CBadNumber, CBadMenu, CBadChange, CBadText, CBadSetting, CN] 0 [CBadArgument, CBadName, CBadDeed, CBadState, CBadMove, CBadClaim, CBadNumber, CBadMenu, CBadChange, CBadText] = true) (nP : PySem.W.kitOne K (.ref CN) (.ref CP) = some true) (sN : PySem.W.kitOne K (.ref CBadSetting) (.ref CN) = some false) :
    ∃ fd : FuncData, (∀ (s : Shared) (v : Value), BindsTo s fd ⟨[v], []⟩ [("script", v)]) ∧ ∀ base : Heap, K.In base → base.Ns mainGlobals mg → FnOk l.prog w K mg base CX0 3 fa fd ["script"] (spLaw K) := by
  obtain ⟨fdC, FC⟩ := DC.F
  obtain ⟨fdM, FM⟩ := DM.F
  obtain ⟨fdO, FO⟩ := DO.F
  obtain ⟨fdK, FK⟩ := DK.F
  obtain ⟨fdL, FL⟩ := DL.F
  have bC := FC.binds (ps := ["script", "k"]) fun _ _ _ _ _ _ us hl => match us, hl with | [_, _], _ => rfl
  have bM := FM.binds (ps := ["thing"]) fun _ _ _ _ _ _ us hl => match us, hl with | [_], _ => rfl
  have bO := FO.binds (ps := ["thing"]) fun _ _ _ _ _ _ us hl => match us, hl with | [_], _ => rfl
  have bK := FK.binds (ps := ["error"]) fun _ _ _ _ _ _ us hl => match us, hl with | [_], _ => rfl
  have bL : ∀ (s : Shared) (v : Value), BindsTo s fdL ⟨[v], []⟩ [("script", v)] := by
    obtain ⟨oc, od, kV, doc, pm, an, cdv, ct, osl, rfl, lk, hcd⟩ := FL.ex
    exact fun s v => .of_eq rfl
  have hall : ∀ (j : Nat) (C : Addr), [CBadArgument, CBadName, CBadDeed, CBadState, CBadMove, CBadClaim, CBadNumber, CBadMenu, CBadChange, CBadText][j]? = some C → Kin K CP [CBadArgument, CBadName, CBadDeed, CBadState, CBadMove, CBadClaim, CBadNumber, CBadMenu, CBadChange, CBadText, CBadSetting, CN] j C := fun j C e => by
    have r := allB_ok kin (fun D hD => by
      simp only [List.mem_cons, List.not_mem_nil, or_false] at hD
      rcases hD with rfl | rfl | rfl | rfl | rfl | rfl | rfl | rfl | rfl | rfl
      · exact ⟨⟨_, EBadArgument.c⟩, EBadArgument.i⟩
      · exact ⟨⟨_, EBadName.c⟩, EBadName.i⟩
      · exact ⟨⟨_, EBadDeed.c⟩, EBadDeed.i⟩
      · exact ⟨⟨_, EBadState.c⟩, EBadState.i⟩
      · exact ⟨⟨_, EBadMove.c⟩, EBadMove.i⟩
      · exact ⟨⟨_, EBadClaim.c⟩, EBadClaim.i⟩
      · exact ⟨⟨_, EBadNumber.c⟩, EBadNumber.i⟩
      · exact ⟨⟨_, EBadMenu.c⟩, EBadMenu.i⟩
      · exact ⟨⟨_, EBadChange.c⟩, EBadChange.i⟩
      · exact ⟨⟨_, EBadText.c⟩, EBadText.i⟩
      ) j C e
    rw [Nat.zero_add] at r
    exact r
  exact ⟨fdL, bL, fun base _ _ => ok_law FL B (ok_cell FC B) DC.g DC.k bC (ok_made EBadArgument EBadName EBadDeed EBadState EBadMove EBadClaim EBadNumber EBadMenu EBadChange EBadText FM) DM.g DM.k bM (ok_other EBadSetting EBadEnd EBadPact EBadScript ENoRow ETooMany FO) DO.g DO.k bO
    (ok_kinds FK B EBadArgument.m EBadName.m EBadDeed.m EBadState.m EBadMove.m EBadClaim.m EBadNumber.m EBadMenu.m EBadChange.m EBadText.m EBadSetting.m N.2.1) DK.g DK.k bK mP EBadSetting N.1 N.2.2 N.2.1 nP sN rfl hall⟩
theorem walk {l : PySem.W.OpenLaw} {q : Program} {loose : List Str} {XP : (Str → Option Value) → Heap → Prop} {YP : World → Heap → Prop} {d : DefRec} {K : Params → PySem.W.Frag} (hn : l.most = some 63) (hdf : d.params.defaults = [])
    (hY : ∀ (w : World) (h : Heap), YP w h → (K w.params).In h)
    (F : ∀ (w : World) (mg : Str → Option Value) (fa : Addr) (h : Heap), (K w.params).In h → h.Ns mainGlobals mg → mg d.name = some (.ref fa) →
      ∃ fd : FuncData, (∀ (s : Shared) (u : Value), BindsTo s fd ⟨[u], []⟩ [("script", u)]) ∧ ∀ base : Heap, (K w.params).In base → base.Ns mainGlobals mg → FnOk l.prog w (K w.params) mg base CX0 3 fa fd ["script"] (spLaw (K w.params))) :
    PySem.W.WalkO q loose XP YP l.row.toRowW d [] (fun f vs => PySem.call f vs) :=
  L2.walk_of (n := 63) (k := 3) (x := "script") (CX := fun _ => CX0) (sp := fun w => spLaw (K w.params)) hn (by decide) hdf ⟨rfl, by decide, by decide⟩ hY F (fun _ _ a ns hl _ hS => ⟨a, ns, rfl, hS, hl, fun _ => rfl⟩) fun _ _ _ _ _ z => z
end K22
open PySem PySem.W PyProof.Rows
set_option maxRecDepth 100000 in
set_option maxHeartbeats 0 in
theorem PySem.Challenge.cw_answeredsettings_k22_errors_made_holds : PySem.Challenge.rw_answeredsettings_k22_errors_made.Holds := by
  w_on; o_law; k_head; (case hw => w_witness2)
  k_fill
  refine K22.walk (l := PySem.Challenge.rw_answeredsettings_k22_errors_made) rfl rfl (fun w h Y => PySem.W.kIn_of Y) ?F
  case F =>
    intro w mg fa h KX G hmg
    have fe := hmg
    refine' K22.all_ok (l := PySem.Challenge.rw_answeredsettings_k22_errors_made) ⟨(PySem.W.mg_none_of KX G ?z0), (PySem.W.mg_none_of KX G ?z1), (PySem.W.mg_none_of KX G ?z2), (PySem.W.mg_none_of KX G ?z3), (PySem.W.mg_none_of KX G ?z4)⟩ (PySem.W.mg_of KX G ?pe) (K22.nil_mk KX G ?n_a ?n_b ?n_ga ?n_gg ?n_i ?n_t ?n_l ?n_c ?n_kC ?n_eC ?n_hC ?n_ca ?n_cn ?n_ct ?n_cm)
      (K22.er_mk (f := "value") KX G ?x0_a ?x0_b ?x0_sa ?x0_ga ?x0_gg ?x0_nf ?x0_i ?x0_t ?x0_l ?x0_c ?x0_kC ?x0_eC ?x0_tC ?x0_hC ?x0_ca ?x0_cn ?x0_ct ?x0_cm)
      (K22.er_mk (f := "part") KX G ?x1_a ?x1_b ?x1_sa ?x1_ga ?x1_gg ?x1_nf ?x1_i ?x1_t ?x1_l ?x1_c ?x1_kC ?x1_eC ?x1_tC ?x1_hC ?x1_ca ?x1_cn ?x1_ct ?x1_cm)
      (K22.er_mk (f := "part") KX G ?x2_a ?x2_b ?x2_sa ?x2_ga ?x2_gg ?x2_nf ?x2_i ?x2_t ?x2_l ?x2_c ?x2_kC ?x2_eC ?x2_tC ?x2_hC ?x2_ca ?x2_cn ?x2_ct ?x2_cm)
      (K22.er_mk (f := "part") KX G ?x3_a ?x3_b ?x3_sa ?x3_ga ?x3_gg ?x3_nf ?x3_i ?x3_t ?x3_l ?x3_c ?x3_kC ?x3_eC ?x3_tC ?x3_hC ?x3_ca ?x3_cn ?x3_ct ?x3_cm)
      (K22.er_mk (f := "value") KX G ?x4_a ?x4_b ?x4_sa ?x4_ga ?x4_gg ?x4_nf ?x4_i ?x4_t ?x4_l ?x4_c ?x4_kC ?x4_eC ?x4_tC ?x4_hC ?x4_ca ?x4_cn ?x4_ct ?x4_cm)
      (K22.er_mk (f := "value") KX G ?x5_a ?x5_b ?x5_sa ?x5_ga ?x5_gg ?x5_nf ?x5_i ?x5_t ?x5_l ?x5_c ?x5_kC ?x5_eC ?x5_tC ?x5_hC ?x5_ca ?x5_cn ?x5_ct ?x5_cm)
      (K22.er_mk (f := "value") KX G ?x6_a ?x6_b ?x6_sa ?x6_ga ?x6_gg ?x6_nf ?x6_i ?x6_t ?x6_l ?x6_c ?x6_kC ?x6_eC ?x6_tC ?x6_hC ?x6_ca ?x6_cn ?x6_ct ?x6_cm)
      (K22.er_mk (f := "value") KX G ?x7_a ?x7_b ?x7_sa ?x7_ga ?x7_gg ?x7_nf ?x7_i ?x7_t ?x7_l ?x7_c ?x7_kC ?x7_eC ?x7_tC ?x7_hC ?x7_ca ?x7_cn ?x7_ct ?x7_cm)
      (K22.er_mk (f := "at") KX G ?x8_a ?x8_b ?x8_sa ?x8_ga ?x8_gg ?x8_nf ?x8_i ?x8_t ?x8_l ?x8_c ?x8_kC ?x8_eC ?x8_tC ?x8_hC ?x8_ca ?x8_cn ?x8_ct ?x8_cm)
      (K22.er_mk (f := "value") KX G ?x9_a ?x9_b ?x9_sa ?x9_ga ?x9_gg ?x9_nf ?x9_i ?x9_t ?x9_l ?x9_c ?x9_kC ?x9_eC ?x9_tC ?x9_hC ?x9_ca ?x9_cn ?x9_ct ?x9_cm)
      (K22.er_mk (f := "value") KX G ?x10_a ?x10_b ?x10_sa ?x10_ga ?x10_gg ?x10_nf ?x10_i ?x10_t ?x10_l ?x10_c ?x10_kC ?x10_eC ?x10_tC ?x10_hC ?x10_ca ?x10_cn ?x10_ct ?x10_cm)
      (K22.er_mk (f := "value") KX G ?x11_a ?x11_b ?x11_sa ?x11_ga ?x11_gg ?x11_nf ?x11_i ?x11_t ?x11_l ?x11_c ?x11_kC ?x11_eC ?x11_tC ?x11_hC ?x11_ca ?x11_cn ?x11_ct ?x11_cm)
      (K22.er_mk (f := "value") KX G ?x12_a ?x12_b ?x12_sa ?x12_ga ?x12_gg ?x12_nf ?x12_i ?x12_t ?x12_l ?x12_c ?x12_kC ?x12_eC ?x12_tC ?x12_hC ?x12_ca ?x12_cn ?x12_ct ?x12_cm)
      (K22.er_mk (f := "value") KX G ?x13_a ?x13_b ?x13_sa ?x13_ga ?x13_gg ?x13_nf ?x13_i ?x13_t ?x13_l ?x13_c ?x13_kC ?x13_eC ?x13_tC ?x13_hC ?x13_ca ?x13_cn ?x13_ct ?x13_cm)
      (K22.er_mk (f := "row") KX G ?x14_a ?x14_b ?x14_sa ?x14_ga ?x14_gg ?x14_nf ?x14_i ?x14_t ?x14_l ?x14_c ?x14_kC ?x14_eC ?x14_tC ?x14_hC ?x14_ca ?x14_cn ?x14_ct ?x14_cm)
      (K22.er_mk (f := "limit") KX G ?x15_a ?x15_b ?x15_sa ?x15_ga ?x15_gg ?x15_nf ?x15_i ?x15_t ?x15_l ?x15_c ?x15_kC ?x15_eC ?x15_tC ?x15_hC ?x15_ca ?x15_cn ?x15_ct ?x15_cm)
      (K22.dn_mk KX G ?d0_a ?d0_l ?d0_c ?d0_k) (K22.dn_mk KX G ?d1_a ?d1_l ?d1_c ?d1_k) (K22.dn_mk KX G ?d2_a ?d2_l ?d2_c ?d2_k) (K22.dn_mk KX G ?d3_a ?d3_l ?d3_c ?d3_k) (K22.dn_of KX G hmg ?d4_a ?d4_l ?d4_c ?d4_k) ?kin ?nP ?sN
    (case z0 => k_is); (case z1 => k_is); (case z2 => k_is); (case z3 => k_is); (case z4 => k_is); (case pe => k_is); (case n_a => k_is); (case n_b => k_is)
    (case n_ga => k_is); (case n_gg => k_is); (case n_i => k_is); (case n_t => k_is); (case n_l => k_is); (case n_c => k_is); (case n_kC => k_is); (case n_eC => k_is)
    (case n_hC => k_is); (case n_ca => k_is); (case n_cn => k_is); (case n_ct => k_is); (case n_cm => k_is); (case x0_a => k_is); (case x0_b => k_is); (case x0_sa => k_is)
    (case x0_ga => k_is); (case x0_gg => k_is); (case x0_nf => k_is); (case x0_i => k_is); (case x0_t => k_is); (case x0_l => k_is); (case x0_c => k_is); (case x0_kC => k_is)
    (case x0_eC => k_is); (case x0_tC => k_is); (case x0_hC => k_is); (case x0_ca => k_is); (case x0_cn => k_is); (case x0_ct => k_is); (case x0_cm => k_is); (case x1_a => k_is)
    (case x1_b => k_is); (case x1_sa => k_is); (case x1_ga => k_is); (case x1_gg => k_is); (case x1_nf => k_is); (case x1_i => k_is); (case x1_t => k_is); (case x1_l => k_is)
    (case x1_c => k_is); (case x1_kC => k_is); (case x1_eC => k_is); (case x1_tC => k_is); (case x1_hC => k_is); (case x1_ca => k_is); (case x1_cn => k_is); (case x1_ct => k_is)
    (case x1_cm => k_is); (case x2_a => k_is); (case x2_b => k_is); (case x2_sa => k_is); (case x2_ga => k_is); (case x2_gg => k_is); (case x2_nf => k_is); (case x2_i => k_is)
    (case x2_t => k_is); (case x2_l => k_is); (case x2_c => k_is); (case x2_kC => k_is); (case x2_eC => k_is); (case x2_tC => k_is); (case x2_hC => k_is); (case x2_ca => k_is)
    (case x2_cn => k_is); (case x2_ct => k_is); (case x2_cm => k_is); (case x3_a => k_is); (case x3_b => k_is); (case x3_sa => k_is); (case x3_ga => k_is); (case x3_gg => k_is)
    (case x3_nf => k_is); (case x3_i => k_is); (case x3_t => k_is); (case x3_l => k_is); (case x3_c => k_is); (case x3_kC => k_is); (case x3_eC => k_is); (case x3_tC => k_is)
    (case x3_hC => k_is); (case x3_ca => k_is); (case x3_cn => k_is); (case x3_ct => k_is); (case x3_cm => k_is); (case x4_a => k_is); (case x4_b => k_is); (case x4_sa => k_is)
    (case x4_ga => k_is); (case x4_gg => k_is); (case x4_nf => k_is); (case x4_i => k_is); (case x4_t => k_is); (case x4_l => k_is); (case x4_c => k_is); (case x4_kC => k_is)
    (case x4_eC => k_is); (case x4_tC => k_is); (case x4_hC => k_is); (case x4_ca => k_is); (case x4_cn => k_is); (case x4_ct => k_is); (case x4_cm => k_is); (case x5_a => k_is)
    (case x5_b => k_is); (case x5_sa => k_is); (case x5_ga => k_is); (case x5_gg => k_is); (case x5_nf => k_is); (case x5_i => k_is); (case x5_t => k_is); (case x5_l => k_is)
    (case x5_c => k_is); (case x5_kC => k_is); (case x5_eC => k_is); (case x5_tC => k_is); (case x5_hC => k_is); (case x5_ca => k_is); (case x5_cn => k_is); (case x5_ct => k_is)
    (case x5_cm => k_is); (case x6_a => k_is); (case x6_b => k_is); (case x6_sa => k_is); (case x6_ga => k_is); (case x6_gg => k_is); (case x6_nf => k_is); (case x6_i => k_is)
    (case x6_t => k_is); (case x6_l => k_is); (case x6_c => k_is); (case x6_kC => k_is); (case x6_eC => k_is); (case x6_tC => k_is); (case x6_hC => k_is); (case x6_ca => k_is)
    (case x6_cn => k_is); (case x6_ct => k_is); (case x6_cm => k_is); (case x7_a => k_is); (case x7_b => k_is); (case x7_sa => k_is); (case x7_ga => k_is); (case x7_gg => k_is)
    (case x7_nf => k_is); (case x7_i => k_is); (case x7_t => k_is); (case x7_l => k_is); (case x7_c => k_is); (case x7_kC => k_is); (case x7_eC => k_is); (case x7_tC => k_is)
    (case x7_hC => k_is); (case x7_ca => k_is); (case x7_cn => k_is); (case x7_ct => k_is); (case x7_cm => k_is); (case x8_a => k_is); (case x8_b => k_is); (case x8_sa => k_is)
    (case x8_ga => k_is); (case x8_gg => k_is); (case x8_nf => k_is); (case x8_i => k_is); (case x8_t => k_is); (case x8_l => k_is); (case x8_c => k_is); (case x8_kC => k_is)
    (case x8_eC => k_is); (case x8_tC => k_is); (case x8_hC => k_is); (case x8_ca => k_is); (case x8_cn => k_is); (case x8_ct => k_is); (case x8_cm => k_is); (case x9_a => k_is)
    (case x9_b => k_is); (case x9_sa => k_is); (case x9_ga => k_is); (case x9_gg => k_is); (case x9_nf => k_is); (case x9_i => k_is); (case x9_t => k_is); (case x9_l => k_is)
    (case x9_c => k_is); (case x9_kC => k_is); (case x9_eC => k_is); (case x9_tC => k_is); (case x9_hC => k_is); (case x9_ca => k_is); (case x9_cn => k_is); (case x9_ct => k_is)
    (case x9_cm => k_is); (case x10_a => k_is); (case x10_b => k_is); (case x10_sa => k_is); (case x10_ga => k_is); (case x10_gg => k_is); (case x10_nf => k_is); (case x10_i => k_is)
    (case x10_t => k_is); (case x10_l => k_is); (case x10_c => k_is); (case x10_kC => k_is); (case x10_eC => k_is); (case x10_tC => k_is); (case x10_hC => k_is); (case x10_ca => k_is)
    (case x10_cn => k_is); (case x10_ct => k_is); (case x10_cm => k_is); (case x11_a => k_is); (case x11_b => k_is); (case x11_sa => k_is); (case x11_ga => k_is); (case x11_gg => k_is)
    (case x11_nf => k_is); (case x11_i => k_is); (case x11_t => k_is); (case x11_l => k_is); (case x11_c => k_is); (case x11_kC => k_is); (case x11_eC => k_is); (case x11_tC => k_is)
    (case x11_hC => k_is); (case x11_ca => k_is); (case x11_cn => k_is); (case x11_ct => k_is); (case x11_cm => k_is); (case x12_a => k_is); (case x12_b => k_is); (case x12_sa => k_is)
    (case x12_ga => k_is); (case x12_gg => k_is); (case x12_nf => k_is); (case x12_i => k_is); (case x12_t => k_is); (case x12_l => k_is); (case x12_c => k_is); (case x12_kC => k_is)
    (case x12_eC => k_is); (case x12_tC => k_is); (case x12_hC => k_is); (case x12_ca => k_is); (case x12_cn => k_is); (case x12_ct => k_is); (case x12_cm => k_is); (case x13_a => k_is)
    (case x13_b => k_is); (case x13_sa => k_is); (case x13_ga => k_is); (case x13_gg => k_is); (case x13_nf => k_is); (case x13_i => k_is); (case x13_t => k_is); (case x13_l => k_is)
    (case x13_c => k_is); (case x13_kC => k_is); (case x13_eC => k_is); (case x13_tC => k_is); (case x13_hC => k_is); (case x13_ca => k_is); (case x13_cn => k_is); (case x13_ct => k_is)
    (case x13_cm => k_is); (case x14_a => k_is); (case x14_b => k_is); (case x14_sa => k_is); (case x14_ga => k_is); (case x14_gg => k_is); (case x14_nf => k_is); (case x14_i => k_is)
    (case x14_t => k_is); (case x14_l => k_is); (case x14_c => k_is); (case x14_kC => k_is); (case x14_eC => k_is); (case x14_tC => k_is); (case x14_hC => k_is); (case x14_ca => k_is)
    (case x14_cn => k_is); (case x14_ct => k_is); (case x14_cm => k_is); (case x15_a => k_is); (case x15_b => k_is); (case x15_sa => k_is); (case x15_ga => k_is); (case x15_gg => k_is)
    (case x15_nf => k_is); (case x15_i => k_is); (case x15_t => k_is); (case x15_l => k_is); (case x15_c => k_is); (case x15_kC => k_is); (case x15_eC => k_is); (case x15_tC => k_is)
    (case x15_hC => k_is); (case x15_ca => k_is); (case x15_cn => k_is); (case x15_ct => k_is); (case x15_cm => k_is); (case d0_a => k_is); (case d0_l => k_is); (case d0_c => k_is)
    (case d0_k => k_is); (case d1_a => k_is); (case d1_l => k_is); (case d1_c => k_is); (case d1_k => k_is); (case d2_a => k_is); (case d2_l => k_is); (case d2_c => k_is)
    (case d2_k => k_is); (case d3_a => k_is); (case d3_l => k_is); (case d3_c => k_is); (case d3_k => k_is); (case d4_a => k_is); (case d4_l => k_is); (case d4_c => k_is)
    (case d4_k => k_is)
    (case nP => kernel_rfl); (case sN => kernel_rfl); (case kin => kernel_rfl)
#print axioms PySem.Challenge.cw_answeredsettings_k22_errors_made_holds
