import PyProof.Rows.All
import Wide.All
import OpenK.AllK
import Wide.FinOn
import PyProof.EqAt
import PyProof.EqKinds
import PyProof.TupleCall
import KE.KIsAll
import HandS.Base
import HandS.Call
import HandS.List
import HandS.Ends
import HandS.Exc
import HandS.ExcInit
import HandS.ForExc
import HandS.IsInst
import HandS.Defaults
import HandS.MakeKwOnly
import KE.KIsNot
import OpenK.KDescr
import HandS.ExcIs
import HandS.ForMost
import HandS.More
import HandS.DictComp
import HandS.DeepEq
import HandS.Evl
import PyProof.NeKinds
import HandS.DictTup
import HandS.Conv
import HandS.DictEq
import HandS.SortKw
import KE.SortKeyHeap
import PyProof.ReprRoads
import HandS.Property
import HandS.Codes
import HandS.TryMany
import HandS.WordsExc
import HandS.OwnEq
import PyProof.InstNe
import KE.KRevSl
import HandS.Deep
import HandS.RaiseMore
import HandS.Lambda
import HandS.Iter
import HandS.Steps
import HandS.Walk
import HandS.WordsDict
import HandS.ExcField
import HandS.EndTab
import KE.KDictPairs
import HandS.TupAny
import HandS.TupLen
import HandS.ExcOwn
import PyProof.StrLawsRepr
import HandS.HeadHook3
import PySem.Challenge.RW_answeredsettings_k40_whole_nested_values
set_option Elab.async false
set_option linter.all false
set_option maxRecDepth 100000
set_option maxHeartbeats 4000000
/-! Own errors over Exception: made by position or by name, kept as values. -/
namespace Err
open PySem PySem.W PySem.Calls PyProof.Rows PySem.HandSPX PySem.Builtin PySem.Builtin.ObjectAttr
/-- the chain above an own error: own classes, then the three built-in ones -/
inductive OwnMro : List Value → Prop
  | base : OwnMro [.type "Exception", .type "BaseException", .type "object"]
  | cons (c : Addr) {r : List Value} : OwnMro r → OwnMro (.ref c :: r)
theorem OwnMro.has {l : List Value} (m : OwnMro l) (X : String) : l.contains (.type X) = ([.type "Exception", .type "BaseException", .type "object"] : List Value).contains (.type X) := by
  induction m with
  | base => rfl
  | cons c _ ih => rw [List.contains_cons, ih]; rfl
theorem OwnMro.goes {l : List Value} (m : OwnMro l) (self : Value) : refuseLoop self "__setattr__" l = pure () := by
  induction m with
  | base => exact F.store_Exception.passes self
  | cons c _ ih => rw [refuseLoop_ref]; exact ih
theorem OwnMro.some {l : List Value} (m : OwnMro l) : l.isEmpty = false := by cases m <;> rfl
/-- the object of an error that is being made: t its arguments -/
abbrev raw (C t : Addr) (d : Option Addr) : Obj := { cls := .ref C, dict := d, data := .fields #[.ref t, .none, .none, .none, .bool false, .none] }
section
variable {prog : Program} {w : World} {A : Around} {E : Value → Shared → Prop} {R : Result → Shared → Prop} {hp : Heap} {g : Array GenState} {dr : Drawn} {tk : Nat} {os : OsState}
variable {nm q : Str} {C N : Addr} {bs bm bmB : List Value} {hdct : Bool} {sn : List Str} {sub : List Value} {ab : Bool} {col : Option Bool} {dd : Option Addr} {k0 k1 k2 k3 k5 : Option Value} {B newId initId : String}
/-- the maker is asked whether it may be called: with names, too -/
theorem may_new {M : Model} (FB : ExcBaseFacts B newId initId bmB) (hT : ∀ X : String, bm.contains (.type X) = bmB.contains (.type X)) {us : List Value} {kw : List (Str × Value)} {Q : Unit → Shared → Prop}
    (hC : hp.get? C = Option.some (excClassObj nm q C N bs bm hdct sn sub ab col dd k0 k1 k2 k3 k5 newId)) (hq : Q () ⟨hp, g, dr, tk, os⟩) :
    wpAny M A (checkBuiltinCall newId ⟨.ref C :: us, kw⟩) Q E ⟨hp, g, dr, tk, os⟩ := by
  have has : (Value.ref C :: bm).contains (.type B) = true := by rw [List.contains_cons, hT, FB.hasB, Bool.or_true]
  have st := FB.noStar
  simp only [checkBuiltinCall, FB.newKind, FB.newSplit, FB.newRow]
  repeat (first
    | refine wpAny_loadPart_at hC ?_
    | (refine wpAny_isSubtype_exc hC ?_
       rw [has])
    | refine wpAny_staticBase_exc hC ?_
    | refine wpAny_madeBy_exc hC ?_
    | simp only [bne_self_eq_false, Bool.false_eq_true, if_false]
    | wp_step)
  exact hq
theorem new_any (FB : ExcBaseFacts B newId initId bmB) (hT : ∀ X : String, bm.contains (.type X) = bmB.contains (.type X)) {us : List Value} {kw : List (Str × Value)}
    (hC : hp.get? C = Option.some (excClassObj nm q C N bs bm hdct sn sub ab col dd k0 k1 k2 k3 k5 newId))
    (hq : R (.ok (.ret (.ref (hp.objs.size + 1)))) ⟨(hp.push (kdv_tup us)).push (raw C hp.objs.size none), g, dr, tk, os⟩) (hl : us.length ≤ sizeLine) :
    codeAny (model prog w) A (.builtin newId ⟨.ref C :: us, kw⟩) R ⟨hp, g, dr, tk, os⟩ := by
  have he := FB.ends
  have b1 : (Value.ref C :: bm).contains (.type B) = true := by rw [List.contains_cons, hT, FB.hasB, Bool.or_true]
  have b2 : (Value.ref C :: bm).contains (.type "AttributeError") = false := by rw [List.contains_cons, hT, FB.noAttr]; rfl
  have b3 : (Value.ref C :: bm).contains (.type "NameError") = false := by rw [List.contains_cons, hT, FB.noName]; rfl
  refine codeAny_builtinAt FB.entry ?_
  unfold Builtin.«BaseException.__new__»
  refine PySem.wpAt_bind ?_
  show PySem.wpAt _ _ _ (stack >>= _) _ _ _
  refine PySem.wpAt_bind (PySem.wpAt_stack fun p below => PySem.wpAt_of_wpAny ?_)
  wp_walk
  refine wpAt_of_wpAny ?_
  rw [FB.owner]
  repeat (first
    | with_reducible refine wpAny_madeHere_exc FB.canon hC ?_
    | with_reducible refine wpAny_loadPart_at hC ?_
    | (with_reducible refine wpAny_isSubtype_exc hC ?_
       first | rw [b1] | rw [b2] | rw [b3])
    | wp_step)
  show R _ _
  rw [Heap.size_push]
  exact hq
theorem type_call_any (FB : ExcBaseFacts B newId initId bmB) (hT : ∀ X : String, bm.contains (.type X) = bmB.contains (.type X)) {us : List Value} {kw : List (Str × Value)} {fI : Addr} {Q : Fin → Shared → Prop}
    (hC : hp.get? C = Option.some (excClassObj nm q C N bs bm hdct sn sub ab col dd k0 k1 k2 k3 k5 newId)) (hi : Looks (model prog w) hp (typeLookup (.ref C) "__init__") (Option.some (.ref fI)))
    (hb : ∀ self, Looks (model prog w) hp (bindSpecial (.ref fI) self) (.ref fI, [self])) (hl : us.length ≤ sizeLine)
    (hq : codeAny (model prog w) A (.call (.ref fI) ⟨.ref (hp.objs.size + 1) :: us, kw⟩)
      (fun r s' => match r with | .ok (.ret v) => v = .none ∧ Q (.done (.ret (.ref (hp.objs.size + 1)))) s' | .ok _ => False | .error e => E e s') ⟨(hp.push (kdv_tup us)).push (raw C hp.objs.size none), g, dr, tk, os⟩) :
    wpAny (model prog w) A (Builtin.«type.__call__» ⟨.ref C :: us, kw⟩) Q E ⟨hp, g, dr, tk, os⟩ := by
  repeat (first
    | with_reducible refine wpAny_loadPart_at hC ?_
    | with_reducible refine wpAny_madeBy_exc hC ?_
    | wp_step)
  refine codeAny_call_builtin_code (Code.quiet_builtin _ FB.quiet) (may_new FB hT hC ?_)
  refine new_any FB hT hC ?_ hl
  show wpAny _ _ _ _ _ _
  have keep : ∀ b o, hp.get? b = Option.some o → ((hp.push (kdv_tup us)).push (raw C hp.objs.size none)).get? b = Option.some o := fun b o e => Heap.get?_push_of_some _ (Heap.get?_push_of_some _ e)
  have hC1 := keep _ _ hC
  have here : ((hp.push (kdv_tup us)).push (raw C hp.objs.size none)).get? (hp.objs.size + 1) = Option.some (raw C hp.objs.size none) := by heap_get
  have self : (Value.ref C :: bm).contains (.ref C) = true := by simp
  have i1 := hi.keeps keep
  have b1 := (hb (.ref (hp.objs.size + 1))).keeps keep
  unfold isInstance
  repeat (first
    | with_reducible refine wpAny_loadPart_at here ?_
    | (with_reducible refine wpAny_isSubtype_exc hC1 ?_
       rw [self])
    | wp_step)
  show wpAny _ _ (typeLookup (.ref C) _) _ _ _
  refine i1.at (wpAny_holding (wpAny_bind (b1.at ?_)))
  refine wpAny_bind (wpAny_call (codeAny_mono hq fun r s' z => ?_))
  rcases r with e | (v | _ | _ | _) <;> first | exact z | exact z.elim | skip
  obtain ⟨rfl, z⟩ := z
  first
    | exact wpAny_pure (wpAny_pure z)
    | (wp_walk
       exact z)
theorem call_any (FB : ExcBaseFacts B newId initId bmB) (hT : ∀ X : String, bm.contains (.type X) = bmB.contains (.type X)) {us : List Value} {kw : List (Str × Value)} {fI : Addr}
    (hC : hp.get? C = Option.some (excClassObj nm q C N bs bm hdct sn sub ab col dd k0 k1 k2 k3 k5 newId)) (hi : Looks (model prog w) hp (typeLookup (.ref C) "__init__") (Option.some (.ref fI)))
    (hb : ∀ self, Looks (model prog w) hp (bindSpecial (.ref fI) self) (.ref fI, [self])) (hl : us.length ≤ sizeLine)
    (hq : codeAny (model prog w) (A.under (.builtin "type.__call__" ⟨.ref C :: us, kw⟩)) (.call (.ref fI) ⟨.ref (hp.objs.size + 1) :: us, kw⟩) (InitBack (hp.objs.size + 1) R) ⟨(hp.push (kdv_tup us)).push (raw C hp.objs.size none), g, dr, tk, os⟩) :
    codeAny (model prog w) A (.call (.ref C) ⟨us, kw⟩) R ⟨hp, g, dr, tk, os⟩ := by
  have l1 := tc_lookup
  have l2 := tc_bind (.ref C)
  have ty : (⟨hp, g, dr, tk, os⟩ : Shared).TypeIs (.ref C) "type" := ⟨_, hC, rfl⟩
  have l3 := tc_sub
  refine codeAny_of_tree ?_
  show wpAny _ _ (callAny (.ref C) _) _ _ _
  repeat (any_goals (first
    | assumption
    | with_reducible refine wpAny_loadPart_at hC ?_
    | wp_step))
  refine ⟨rfl, ?_⟩
  have chk : ∀ {M : Model} {Q : Unit → Shared → Prop} {E : Value → Shared → Prop} {A : Around}, Q () ⟨hp, g, dr, tk, os⟩ → wpAny M A (checkBuiltinCall "type.__call__" ⟨.ref C :: us, kw⟩) Q E ⟨hp, g, dr, tk, os⟩ := by
    intro M Q E A hq
    simp only [checkBuiltinCall, tc_kind, tc_split]
    repeat (any_goals (first
      | assumption
      | with_reducible refine wpAny_loadPart_at hC ?_
      | with_reducible refine wpAny_onRaise ?_
      | with_reducible refine wpAny_map ?_
      | wp_step))
  refine codeAny_call_builtin_at (Code.quiet_builtin _ (by decide +kernel)) entry_typeCall (chk (type_call_any FB hT hC hi hb hl ?_))
  refine codeAny_mono hq fun r s' z => ?_
  rcases r with e | (v | _ | _ | _) <;> exact z
end
/-! ### self.f = v on a bare error -/
section
variable {prog : Program} {w : World} {A : Around} {E : Value → Shared → Prop} {R : Result → Shared → Prop} {hp : Heap} {g : Array GenState} {dr : Drawn} {tk : Nat} {os : OsState}
theorem put_first {M : Model} {dx : Addr} {f : Str} {t : Tok} {v : Value} {Q : Fin → Shared → Prop} (he : hp.Ns dx (fun _ => none))
    (hq : ∀ h' tk', h'.Ns1 dx (fun y => if y = f then Option.some v else none) → Heap.SameBut dx hp h' → Q (.done (.ret .none)) ⟨h', g, dr, tk', os⟩) : wpAny M A (storeInDict dx (.str f t) f v) Q E ⟨hp, g, dr, tk, os⟩ := by
  unfold storeInDict newKeyGuard
  refine wpAny_bind (wpAny_pure (wpAny_bind (wpAny_nsSet1 (Heap.Ns1.of_empty he) fun h' n1 sb => ?_)))
  obtain ⟨o, es, ep, ho, hd, hc⟩ := n1.count (Within.cons f v Within.nil)
  have small : es.size ≤ sizeLine + 1 := Nat.le_trans hc (by rw [List.length_cons, List.length_nil, sizeLine_eq]; omega)
  refine wpAny_bind (wpAny_lookBehind ho (by rw [hd]; exact pastItsLine_dict small) ?_)
  wp_walk
  exact hq h' _ n1 sb
theorem set_first {K : Frag} {f : Str} {t : Tok} {v : Value} {x C : Addr} {fv : Array Value} {cd : ClassData} (X : K.In hp) (hx : hp.get? x = Option.some { cls := .ref C, data := .fields fv }) (hcd : clsIn K C = Option.some cd) (hm : OwnMro cd.mro) (hh : cd.hasDict = true)
    (hn : findIn K (.ref C) f = Option.some none)
    (hq : ∀ h' tk' dx, (∀ b o, b ≠ x → hp.get? b = Option.some o → h'.get? b = Option.some o) → hp.objs.size ≤ dx → dx ≠ x → h'.get? x = Option.some { cls := .ref C, dict := Option.some dx, data := .fields fv } →
      h'.Ns1 dx (fun y => if y = f then Option.some v else none) → R (.ok (.ret .none)) ⟨h', g, dr, tk', os⟩) :
    codeAny (model prog w) A (.call (.builtin "object.__setattr__") ⟨[.ref x, .str f t, v], []⟩) R ⟨hp, g, dr, tk, os⟩ := by
  have I : InstAt hp x { cls := .ref C, data := .fields fv } C none := ⟨hx, rfl, rfl, trivial⟩
  have S := F.store_object
  have some_ := hm.some
  have top : cd.mro.contains (.type "object") = true := (hm.has "object").trans (by decide +kernel)
  have xs : x ≠ hp.objs.size := Nat.ne_of_lt (Heap.lt_size hx)
  have isObj : Looks (model prog w) hp (isInstance (.ref x) (.type "object")) true :=
    I.type.andThen (looks_mroIn X (by unfold mroIn; rw [hcd, Option.bind_some, if_neg (by rw [some_]; decide), top]))
  refine codeAny_call_builtin S.slot.plain S.entry (@check_slot (model prog w) _ _ ⟨hp, g, dr, tk, os⟩ "object.__setattr__" "object" "__setattr__" (.ref x) [.str f t, v] [] _ S.kind S.split isObj (S.args (.ref x) (.str f t) v) ?_)
  have mro_ : Looks (model prog w) hp (mroOf (.ref C)) cd.mro := (looks_clsIn X hcd).andThen .now
  have taker : Looks (model prog w) hp (storeTaker? none) none := .now
  have data_ : Looks (model prog w) hp (classData C) cd := looks_clsIn X hcd
  rw [osa_eq, refuse_eq]
  refine wpAny_bind (wpAny_bind (I.type.at (wpAny_bind (mro_.at ?_))))
  rw [hm.goes]
  refine wpAny_pure (wpAny_bind (I.type.at (wpAny_bind ((looks_findIn X hn).at (wpAny_bind (taker.at ?_))))))
  show wpAny _ _ (storeInOwnDict (.ref x) (.ref C) (.str f t) f v false) _ _ _
  obtain ⟨nm, bs, mro, ns, qn, hd, sn, sb, ab, col, del⟩ := cd
  dsimp only at hh
  subst hh
  unfold storeInOwnDict ownDictForStores
  repeat (first
    | with_reducible refine put_first ?_ ?_
    | with_reducible refine wpAny_loadPart_at hx ?_
    | with_reducible refine data_.at ?_
    | wp_step)
  · exact ⟨_, #[], _, (Heap.get?_update_ne _ _ _ _ xs.symm).trans (Heap.get?_push_at rfl rfl), rfl, fun e he => absurd he (by simp), fun _ => rfl⟩
  · intro h' tk' n1 sb
    have x1 : (hp.push { cls := .type "dict", data := .dict #[] }).get? x = Option.some { cls := .ref C, data := .fields fv } := Heap.get?_push_of_some _ hx
    refine hq h' tk' hp.objs.size (fun b o hb ho => ?_) (Nat.le_refl _) xs.symm ?_ n1
    · exact (sb.2 b (Nat.ne_of_lt (Heap.lt_size ho))).trans ((Heap.get?_update_ne _ _ _ _ hb).trans (Heap.get?_push_of_some _ ho))
    · exact (sb.2 x xs).trans (Heap.get?_update_self _ x1 rfl)
end
/-! ### what the top has written of an own error C with the field f; its __init__ at fI -/
def iA (f : Str) (p1 p2 : Pos) : Arguments := { posonlyargs := [], args := [{ arg := "self", annotation := none, pos := p1 }, { arg := f, annotation := none, pos := p2 }], vararg := none, kwonlyargs := [], kw_defaults := [], kwarg := none, defaults := [] }
def iB (f : Str) (q1 q2 q3 q4 : Pos) : List Stmt := [.Assign [.Attribute (.Name "self" q1) f q2] (.Name f q3) q4]
def iS (f : Str) : Scope := { kind := .function, names := [(PySem.Str.ofString "self", .local), (f, .local)], isGenerator := false, isCoroutine := false, more := [] }
structure ErrC (K : Frag) (C fI : Addr) (f : Str) : Prop where
  cls : ∃ nm q N bs bm sn sub ab col dd k0 k1 k2 k3 k5, K.lookup C = Option.some (excClassObj nm q C N bs bm true sn sub ab col dd k0 k1 k2 k3 k5 "Exception.__new__") ∧ OwnMro bm
  sa : findIn K (.ref C) "__setattr__" = Option.some (Option.some (.builtin "object.__setattr__"))
  ga : findIn K (.ref C) "__getattribute__" = Option.some (Option.some (.builtin "BaseException.__getattribute__"))
  gg : findIn K (.ref C) "__getattr__" = Option.some none
  noF : findIn K (.ref C) f = Option.some none
  iC : findIn K (.ref C) "__init__" = Option.some (Option.some (.ref fI))
  tC : typeIn K (.ref fI) = Option.some (.type "function")
  kC : keepIn K (.ref C) = true
  exC : subIn K (.ref C) (.type "BaseException") = Option.some true
  tyC : typeIn K (.ref C) = Option.some (.type "type")
  hdC : hasDictIn K C = true
  fn : ∃ (qn : Str) (oc : Value) (od : Option Addr) (doc pm : Value) (an : Option Addr) (cdv ct : Value) (osl : Array (Option Value)) (p1 p2 q1 q2 q3 q4 : Pos),
    K.lookup fI = Option.some ⟨oc, od, .func (fnOf "__init__" qn (iA f p1 p2) (iB f q1 q2 q3 q4) (iS f) .none .none doc pm an cdv ct), osl⟩ ∧ codeIn K cdv qn = true
/-- a made error -/
structure Made (h h' : Heap) (e C d : Addr) (f : Str) (v : Value) : Prop where
  keep : ∀ b o, h.get? b = Option.some o → h'.get? b = Option.some o
  new : h.objs.size ≤ e
  obj : ∃ t0, h'.get? e = Option.some (raw C t0 (Option.some d))
  dbig : h.objs.size ≤ d
  dne : d ≠ e
  ns : h'.Ns1 d (fun y => if y = f then Option.some v else none)
/-- a field's name that does not get in the way -/
structure Plain (f : Str) : Prop where
  ns : ¬ (f = "self")
  nd : (f == ("__debug__" : Str)) = false
section
variable {prog : Program} {w : World} {A : Around} {E : Value → Shared → Prop} {R : Result → Shared → Prop} {s : Shared} {K : Frag} {C fI : Addr} {f : Str}
theorem ld_own {M : Model} {sh : Shared} {name : Str} {scope : Scope} {L a : Addr} {cd : Value} {m : Str → Option Value} {x : Str} {pos : Pos} {v : Value} {Q : Value → Shared → Prop} (hn : sh.heap.Ns L m) (hk : scope.kind = .function) (hl : (envOfC name scope L a cd).kindOf x = Option.some .local)
    (hd : (x == ("__debug__" : Str)) = false) (hv : m x = Option.some v) (h : Q v sh) : wpAny M A (eval (.Name x pos) (envOfC name scope L a cd)) Q E sh := wpAny_Name (wpAny_loadName_local hk hl hn hv h) hd
theorem init_any (T : ErrC K C fI f) (pf : Plain f) {x t0 : Addr} {v : Value} {us : List Value} {kw : List (Str × Value)} (X : K.In s.heap) (lim : s.heap.NoLimit) (hx : s.heap.get? x = Option.some (raw C t0 none)) (deep : A.depth < recursionLimit)
    (hb : ∀ (qn : Str) (doc pm : Value) (an : Option Addr) (cdv ct : Value) (p1 p2 q1 q2 q3 q4 : Pos), bindArgs (fnOf "__init__" qn (iA f p1 p2) (iB f q1 q2 q3 q4) (iS f) .none .none doc pm an cdv ct) ⟨.ref x :: us, kw⟩ = pure [(("self" : Str), Value.ref x), (f, v)])
    (hq : ∀ h' t' dx, (∀ b o, b ≠ x → s.heap.get? b = Option.some o → h'.get? b = Option.some o) → h'.get? x = Option.some (raw C t0 (Option.some dx)) → s.heap.objs.size ≤ dx → dx ≠ x → h'.Ns1 dx (fun y => if y = f then Option.some v else none) →
      R (.ok (.ret .none)) { s with heap := h', toks := t' }) : codeAny (model prog w) A (.call (.ref fI) ⟨.ref x :: us, kw⟩) R s := by
  obtain ⟨qn, oc, od, doc, pm, an, cdv, ct, osl, p1, p2, q1, q2, q3, q4, ho, hcd⟩ := T.fn
  obtain ⟨nm, q, N, bs, bm, sn, sub, ab, col, dd, k0, k1, k2, k3, k5, hC, hbm⟩ := T.cls
  have hcl : clsIn K C = Option.some { name := nm, bases := bs, mro := .ref C :: bm, ns := N, qualname := q, hasDict := true, slotNames := sn, subclasses := sub, abstract := ab, collection := col, hasDel := false } := by unfold clsIn; rw [hC] <;> rfl
  have sf : (f == ("self" : Str)) = false := by simpa using pf.ns
  have fs : (("self" : Str) == f) = false := by simpa using fun e : ("self" : Str) = f => pf.ns e.symm
  have lkf : (iS f).names.lookup f = Option.some NameKind.local := by
    show List.lookup f [((PySem.Str.ofString "self" : Str), NameKind.local), (f, NameKind.local)] = _
    have sf' : (f == (PySem.Str.ofString "self")) = false := sf
    simp [List.lookup, sf']
  refine Att.call_fn (binds := [(("self" : Str), Value.ref x), (f, v)]) X lim ho hcd deep (BindsTo.of_eq (hb qn doc pm an cdv ct p1 p2 q1 q2 q3 q4)) ?bb (fun s1 IC => ?_) rfl rfl rfl
  case bb =>
    show (((iS f).names.lookup ("self" : Str) == Option.some .local || (iS f).names.lookup ("self" : Str) == Option.some .cell) && (((iS f).names.lookup f == Option.some .local || (iS f).names.lookup f == Option.some .cell) && true)) = true
    rw [lkf]
    rfl
  have kf : (envOfC qn (iS f) s.heap.objs.size fI cdv).kindOf f = Option.some .local := lkf
  have ks : (envOfC qn (iS f) s.heap.objs.size fI cdv).kindOf ("self" : Str) = Option.some .local := rfl
  obtain ⟨h1, t1, rfl⟩ := IC.toInCall.same
  have k : ∀ b o, s.heap.get? b = Option.some o → h1.get? b = Option.some o := IC.toInCall.keep
  have ns1 := IC.toInCall.ns
  have X1 : K.In h1 := X.keeps k
  have x1 := k _ _ hx
  show wpAny _ _ (execs _ _) _ _ _
  refine wpAny_execs_cons (plainObj_wpAny_Assign_Attribute ?_)
  refine ld_own (v := v) ns1 rfl ?l1 pf.nd ?v1 (ld_own (v := .ref x) ns1 rfl ?l2 (by decide) ?v2 ?_)
  case l1 => exact kf
  case l2 => exact ks
  case v1 => simp [bindL, kf, ks, fs, sf]
  case v2 =>
    simp [bindL, kf, ks, fs, sf]
    exact fun e => (pf.ns e.symm).elim
  refine set_plain X1 (ox := raw C t0 none) (od := none) ⟨x1, rfl, rfl, trivial⟩ T.sa ?_
  refine set_first X1 x1 hcl (show OwnMro (.ref C :: bm) from .cons C hbm) rfl T.noF (fun h3 t3 dx k3 dn dne x3 n3 => ?_)
  show wpAny _ _ (execs _ _) _ _ _
  have z : s.heap.objs.size < h1.objs.size := ns1.lt
  exact wpAny_execs_nil (hq h3 t3 dx (fun b o hb e => k3 b o hb (k b o e)) x3 (Nat.le_of_lt (Nat.lt_of_lt_of_le z dn)) dne n3)
theorem made_any (T : ErrC K C fI f) (pf : Plain f) {v : Value} {us : List Value} {kw : List (Str × Value)} (X : K.In s.heap) (lim : s.heap.NoLimit) (deep : A.depth + 1 < recursionLimit) (hl : us.length ≤ sizeLine)
    (hb : ∀ (x : Addr) (qn : Str) (doc pm : Value) (an : Option Addr) (cdv ct : Value) (p1 p2 q1 q2 q3 q4 : Pos), bindArgs (fnOf "__init__" qn (iA f p1 p2) (iB f q1 q2 q3 q4) (iS f) .none .none doc pm an cdv ct) ⟨.ref x :: us, kw⟩ = pure [(("self" : Str), Value.ref x), (f, v)])
    (hq : ∀ h' t' e d, Made s.heap h' e C d f v → R (.ok (.ret (.ref e))) { s with heap := h', toks := t' }) : codeAny (model prog w) A (.call (.ref C) ⟨us, kw⟩) R s := by
  obtain ⟨nm, q, N, bs, bm, sn, sub, ab, col, dd, k0, k1, k2, k3, k5, hC, hbm⟩ := T.cls
  obtain ⟨hp, g, dr, tk, os⟩ := s
  have k : ∀ b o, hp.get? b = Option.some o → ((hp.push (kdv_tup us)).push (raw C hp.objs.size none)).get? b = Option.some o := fun b o e => Heap.get?_push_of_some _ (Heap.get?_push_of_some _ e)
  have here : ((hp.push (kdv_tup us)).push (raw C hp.objs.size none)).get? (hp.objs.size + 1) = Option.some (raw C hp.objs.size none) := by heap_get
  refine call_any F.excBase_Exception hbm.has (X _ _ hC) (looks_findIn X T.iC) (fun self => bind_fn X self T.tC) hl ?_
  refine init_any (s := ⟨(hp.push (kdv_tup us)).push (raw C hp.objs.size none), g, dr, tk, os⟩) T pf (X.keeps k) (lim.keeps k) here deep (hb _) fun h' t' dx k' hx dn dne hns => ?_
  have old : ∀ b o, hp.get? b = Option.some o → h'.get? b = Option.some o := fun b o e => k' b o (Nat.ne_of_lt (Nat.lt_succ_of_lt (Heap.lt_size e))) (k b o e)
  have z : hp.objs.size + 1 + 1 ≤ dx := by
    have q := dn
    simp only [Heap.size_push] at q
    exact q
  exact ⟨rfl, hq h' t' (hp.objs.size + 1) dx ⟨old, Nat.le_succ _, ⟨_, hx⟩, Nat.le_trans (Nat.le_trans (Nat.le_succ _) (Nat.le_succ _)) z, dne, hns⟩⟩
end
end Err
set_option maxHeartbeats 4000000
namespace Err
open PySem PySem.Spec PyProof.Rows L2
/-- an error as a value at e: its class at C, its own dict at d -/
def errO (e C d : Addr) : HO := .ext fun h => ∃ t0, h.get? e = some (raw C t0 (some d))
structure ErrAt (H : Hp) (e C d : Addr) (f : Str) (v : V) : Prop where
  ob : H e = some (errO e C d)
  dc : H d = some (.xd [(f, v)])
theorem errO_ok {P : Program} {w : World} {H : Hp} {h : Heap} {e C d t0 : Addr} (he : h.get? e = some (raw C t0 (some d))) : ObjOk P w H h e (errO e C d) :=
  ⟨⟨t0, he⟩, ⟨_, he⟩, fun _ _ ⟨t, q⟩ k => ⟨t, k _ q⟩⟩
theorem errO_at {P : Program} {w : World} {H : Hp} {h : Heap} {e C d : Addr} (hok : HOk P w H h) (he : H e = some (errO e C d)) : ∃ t0, h.get? e = some (raw C t0 (some d)) := by
  have x : ObjOk P w H h e (.ext fun h => ∃ t0, h.get? e = some (raw C t0 (some d))) := hok e _ he
  exact x.1
theorem one_field {v : V} {v' : Value} (r : RelV v v') (f g : Str) : RelO (List.lookup g [(f, v)]) (if g = f then some v' else none) := by
  by_cases h : g = f
  · subst h
    simp [List.lookup, RelO, r]
  · have q : (g == f) = false := by simpa using h
    simp [List.lookup, q, h, RelO]
section
variable {X : Cx} {pins : List (Addr × Obj)} {σ : L2.St} {H : Hp} {s : Shared} {C fI : Addr} {f : Str}
/-- a made error is laid and tracked -/
theorem Made.inv {h' : Heap} {t' : Nat} {e d : Addr} {v : V} {u : Value} (I : Inv X pins σ H s) (M : Made s.heap h' e C d f u) (r : RelV v u) :
    Inv X pins σ (upd (upd H d (.xd [(f, v)])) e (errO e C d)) { s with heap := h', toks := t' } := by
  have ne : H e = none := I.hok.fresh M.new
  have nd : H d = none := I.hok.fresh M.dbig
  have ee : ∀ {b : Addr} {o : Obj}, s.heap.get? b = some o → b ≠ e := fun {b o} q => Nat.ne_of_lt (Nat.lt_of_lt_of_le (Heap.lt_size q) M.new)
  have ed : ∀ {b : Addr} {o : Obj}, s.heap.get? b = some o → b ≠ d := fun {b o} q => Nat.ne_of_lt (Nat.lt_of_lt_of_le (Heap.lt_size q) M.dbig)
  have stay : ∀ {b : Addr} {o : HO}, H b = some o → (upd (upd H d (.xd [(f, v)])) e (errO e C d)) b = some o := fun {b o} q => by
    rw [upd_ne (ne_of_none q ne), upd_ne (ne_of_none q nd)]; exact q
  obtain ⟨t0, hob⟩ := M.obj
  have free : ∀ {b : Addr} {o : Obj}, s.heap.get? b = some o → H b = none → (upd (upd H d (.xd [(f, v)])) e (errO e C d)) b = none := fun {b o} q n => by
    rw [upd_ne (ee q), upd_ne (ed q)]; exact n
  have U : Un X.fs [] H (upd (upd H d (.xd [(f, v)])) e (errO e C d)) s.heap h' :=
    { keep := fun b o q _ _ _ => M.keep b o q
      slot := fun b o q _ _ _ => ⟨o.slots, M.keep b o q⟩
      free := fun b o q n _ => free q n
      there := fun b o q _ => ⟨o, M.keep b o q⟩
      tups := fun b xs q => stay q
      frzs := fun b o u q => stay q
      tbls := fun b ps q => ⟨#[], by rw [stay q]; simp⟩ }
  refine I.un (t' := t') U fun b o q => ?_
  by_cases hb : b = e
  · subst hb
    rw [upd_same] at q
    cases q
    exact errO_ok hob
  · rw [upd_ne hb] at q
    by_cases hd : b = d
    · subst hd
      rw [upd_same] at q
      cases q
      exact ⟨_, M.ns, fun g => one_field r f g⟩
    · rw [upd_ne hd] at q
      exact (I.hok b o q).stay (fun c z _ y => M.keep c z y) (fun c y => stay y) fun c xs y => stay y
end
/-- the reading of a made error -/
def tErr (C : Addr) (f : Str) (te : TE) : TE := fun σ H Q => te σ H fun v H1 => ∀ e d, H1 e = none → H1 d = none → d ≠ e → Q (.ref e) (upd (upd H1 d (.xd [(f, v)])) e (errO e C d))
section
variable {X : Cx} {C fI : Addr} {f x : Str} {a : Expr} {te : TE} {p pos : Pos}
theorem run_err {pins : List (Addr × Obj)} {σ : L2.St} {H : Hp} {s : Shared} {Q : VK} {v : V} {u : Value} {us : List Value} {kw : List (Str × Value)} (T : ErrC X.K C fI f) (pf : Plain f) (hr : Room 1 X.A) (I : Inv X pins σ H s) (r : RelV v u) (hl : us.length ≤ sizeLine)
    (hb : ∀ (x : Addr) (qn : Str) (doc pm : Value) (an : Option Addr) (cdv ct : Value) (p1 p2 q1 q2 q3 q4 : Pos), bindArgs (PySem.W.fnOf "__init__" qn (iA f p1 p2) (iB f q1 q2 q3 q4) (iS f) .none .none doc pm an cdv ct) ⟨.ref x :: us, kw⟩ = pure [(("self" : Str), Value.ref x), (f, u)])
    (h : ∀ e d, H e = none → H d = none → d ≠ e → Q (.ref e) (upd (upd H d (.xd [(f, v)])) e (errO e C d))) : wpAny (model X.prog X.w) X.A (call (.ref C) us kw) (EP X pins σ Q) X.xe s := by
  have lim := I.nolimit
  have hd := hr.dp
  obtain ⟨hp, g, dr, tk, os⟩ := s
  refine wpAny_call (made_any T pf I.kIn lim (by omega) hl hb fun h' t' e d M => ?_)
  exact ⟨.ref e, _, M.inv I r, rfl, h e d (I.hok.fresh M.new) (I.hok.fresh M.dbig) M.dne⟩
theorem pe_err (T : ErrC X.K C fI f) (pf : Plain f) (hr : Room 1 X.A) (hm : X.mg x = some (.ref C)) (hg : Gl X x) (ha : PE X a te)
    (hb : ∀ (y : Addr) (u : Value) (qn : Str) (doc pm : Value) (an : Option Addr) (cdv ct : Value) (p1 p2 q1 q2 q3 q4 : Pos), bindArgs (PySem.W.fnOf "__init__" qn (iA f p1 p2) (iB f q1 q2 q3 q4) (iS f) .none .none doc pm an cdv ct) ⟨[.ref y, u], []⟩ = pure [(("self" : Str), Value.ref y), (f, u)])
    (hs : starEach [a] X.env = (false, eval a X.env) :: starEach [] X.env := by rfl) (hdb : (x == ("__debug__" : Str)) = false := by decide) (hpl : (backTo pos (starEach [] X.env)).any (·.1) = false := by rfl) :
    PE X (.Call (.Name x p) [a] [] pos) (tErr C f te) := by
  refine ⟨fun pins s σ H Q I h => ?_⟩
  refine wpAny_Call_Name_kw (ld_glob I hg hm ?_ hdb)
  refine PySem.W.callWith_K (h₀ := X.base) I.ok.mod.kin T.kC ?_ hs hpl
  rw [hs]
  show wpAny _ _ (spliced ((false, eval a X.env) :: backTo pos (starEach [] X.env))) _ _ s
  refine Calls.spliced_cons (thn (ha.run pins s σ H _ I h) fun u s1 ⟨v, H1, I1, r1, q1⟩ => ?_)
  refine Calls.spliced_nil ⟨I1.kIn, ?_⟩
  show wpAny _ _ (call (.ref C) [u]) _ _ _
  exact run_err T pf hr I1 r1 (by show 1 ≤ sizeLine; rw [sizeLine_eq]; omega) (fun y => hb y u) q1
theorem pe_errK {kws : List Keyword} {tk : TA} (T : ErrC X.K C fI f) (pf : Plain f) (hr : Room 1 X.A) (hm : X.mg x = some (.ref C)) (hg : Gl X x) (hkw : PK X kws tk)
    (hb : ∀ (y : Addr) (u : Value) (qn : Str) (doc pm : Value) (an : Option Addr) (cdv ct : Value) (p1 p2 q1 q2 q3 q4 : Pos), bindArgs (PySem.W.fnOf "__init__" qn (iA f p1 p2) (iB f q1 q2 q3 q4) (iS f) .none .none doc pm an cdv ct) ⟨[.ref y], [(f, u)]⟩ = pure [(("self" : Str), Value.ref y), (f, u)])
    (hall : (backToKw pos (keywordEach kws X.env)).all (·.1.isSome) = true := by rfl) (hks : (backToKw pos (keywordEach kws X.env)).filterMap (·.1) = [f] := by rfl) (hdb : (x == ("__debug__" : Str)) = false := by decide)
    (hpl : ((backTo pos (starEach [] X.env)).any (·.1) || (backToKw pos (keywordEach kws X.env)).any (·.1.isNone)) = false := by rfl) :
    PE X (.Call (.Name x p) [] kws pos) (fun σ H Q => tk σ H fun zs H1 => ∃ v, zs = [v] ∧ ∀ e d, H1 e = none → H1 d = none → d ≠ e → Q (.ref e) (upd (upd H1 d (.xd [(f, v)])) e (errO e C d))) := by
  refine ⟨fun pins s σ H Q I h => ?_⟩
  refine wpAny_Call_Name_kw (ld_glob I hg hm ?_ hdb)
  refine PySem.W.callWith_KW0 (h₀ := X.base) I.ok.mod.kin T.kC hall ?_ hpl
  refine thn (hkw.run pos pins s σ H _ I h) fun ws s2 ⟨zs, H2, I2, rz, v, ez, q2⟩ => ⟨I2.kIn, ?_⟩
  subst ez
  rw [hks]
  cases rz with
  | cons r1 rn =>
    cases rn
    show wpAny _ _ (call (.ref C) [] [(f, _)]) _ _ _
    exact run_err (us := []) T pf hr I2 r1 (Nat.zero_le _) (fun y => hb y _) q2
/-- error.f -/
def tErrF (K : PySem.W.Frag) (f : Str) (te : TE) : TE := fun σ H Q => te σ H fun x H1 => ∃ (e C fI d : Addr) (v : V), x = .ref e ∧ ErrC K C fI f ∧ ErrAt H1 e C d f v ∧ Q v H1
theorem pe_errF (he : PE X a te) (hb : attributeBase a f X.env (eval a X.env) = eval a X.env := by rfl) : PE X (.Attribute a f pos) (tErrF X.K f te) := by
  refine ⟨fun pins s σ H Q I h => ?_⟩
  refine attr_of hb (thn (he.run pins s σ H _ I h) fun u s1 hh => ?_)
  obtain ⟨y, H1, I1, rx, e, C, fI, d, v, ex, T, at_, q⟩ := hh
  subst ex
  obtain rfl : u = Value.ref e := rx
  obtain ⟨t0, ho⟩ := errO_at I1.hok at_.ob
  have hx : ObjOk X.prog X.w H1 s1.heap d (.xd [(f, v)]) := I1.hok d _ at_.dc
  obtain ⟨mA, hns, hrel⟩ := hx
  obtain ⟨od, hod, hl⟩ := lookIn_ns hns
  have l : List.lookup f [(f, v)] = some v := by simp [List.lookup]
  obtain ⟨u, hu, ru⟩ := RelO.some_of (v := v) (o := mA f) (by rw [← l]; exact hrel f)
  have J : PySem.W.InstAt s1.heap e (raw C t0 (some d)) C (some od) := ⟨ho, rfl, rfl, hod⟩
  exact HandSPX.exc_get I1.kIn J T.ga T.gg T.exC (PySem.W.findObj_own T.hdC T.noF rfl (by rw [hl, hu])) (handed_of ru) ⟨v, H1, I1.tok _, ru, q⟩
end
end Err
set_option maxHeartbeats 4000000
namespace Err
open PySem PySem.W PySem.Spec PySem.Calls PyProof.Rows
section
variable {prog : Program} {w : World} {A : Around} {E : Value → Shared → Prop} {s : Shared} {K : Frag} {x D : Addr}
/-- error.__class__, the error with a dict of its own -/
theorem class_of {ox od : Obj} {Q : Option Value → Shared → Prop} (T : L2.ExcC K D) (X : K.In s.heap) (I : InstAt s.heap x ox D (some od)) (h : Q (some (.ref D)) { s with toks := s.toks + 1 }) :
    wpAny (model prog w) A (getAttr? (.ref x) "__class__") Q E s := by
  have fo : findObj K D (some od) "__class__" = some (.bind (.builtin "getset_descriptor.__get__") (.builtin "object.__class__")) :=
    findObj_data (by obtain ⟨cd, hc, _⟩ := any_some T.hd; rw [hc]; rfl) T.ha T.hn T.ht
  obtain ⟨hp, g, d, t, os⟩ := s
  have ty := I.type (M := model prog w)
  have l1 := looks_findIn (M := model prog w) X T.hg
  have l2 := looks_findIn (M := model prog w) X T.hk
  have l3 := looks_find (M := model prog w) X I fo
  have sub : Looks (model prog w) hp (isInstance (.ref x) (.type "BaseException")) true := ty.andThen (looks_subIn X T.hs)
  have e0 : (false && onTheHeap (Value.builtin "BaseException.__getattribute__")) = false := rfl
  have e2 : (Value.builtin "BaseException.__getattribute__" == Value.builtin "object.__getattribute__") = false := by decide +kernel
  have e1 : (onTheHeap (Value.ref D) && Value.builtin "BaseException.__getattribute__" == Value.builtin "object.__getattribute__") = false := by rw [e2]; rfl
  unfold getAttr? getAttrBy? getAttrBy
  refine wpAny_bind (wpAny_mkText (wpAny_bind (wpAny_attempt (wpAny_holding (wpAny_bind (ty.at (wpAny_bind (l1.at ?_))))))))
  show wpAny _ _ (if (onTheHeap (Value.ref D) && Value.builtin "BaseException.__getattribute__" == Value.builtin "object.__getattribute__") = true then _ else _) _ _ _
  rw [e1, if_neg Bool.false_ne_true]
  unfold getAttrByItsOwn hookBefore
  refine wpAny_bind ?_
  rw [if_pos (show onTheHeap (Value.ref D) = true from rfl)]
  refine l2.at (wpAny_bind (wpAny_attempt (wpAny_holding ?_)))
  unfold callGetattribute
  rw [e0, if_neg Bool.false_ne_true]
  unfold boundAndCalled
  rw [PySem.F.excAttr_ValueError.ga.bind (.ref x)]
  refine wpAny_bind (wpAny_pure ?_)
  show wpAny _ _ (call (.builtin "BaseException.__getattribute__") [.ref x, .str "__class__" t]) _ _ _
  refine wpAny_call (codeAny_call_builtin PySem.F.excAttr_ValueError.ga.plain PySem.F.entry_bexc_ga ?_)
  refine @check_slot (model prog w) _ _ ⟨hp, g, d, t + 1, os⟩ "BaseException.__getattribute__" "BaseException" "__getattribute__" (.ref x) [.str "__class__" t] [] _ (by decide +kernel) (by decide +kernel) sub (PySem.F.args_bexc_ga (.ref x) (.str "__class__" t)) ?_
  unfold Builtin.«object.__getattribute__»
  refine wpAny_bind (wpAny_of_eq (a := ((Value.ref x : Value), [Value.str "__class__" t])) (by first | rfl | (simp only [slotArgs]; rfl)) ?_)
  refine wpAny_bind (wpAny_pure (wpAny_bind (ty.at (wpAny_bind (l3.at ?_)))))
  show wpAny _ _ (holding [Value.builtin "object.__class__"] (call (.builtin "getset_descriptor.__get__") [.builtin "object.__class__", .ref x, .ref D]) >>= ret) _ _ _
  refine wpAny_bind (wpAny_holding (wpAny_call (class_get (s := ⟨hp, g, d, t + 1, os⟩) (ox := ox) (od := some od) X I T.hm ?_)))
  refine wpAny_pure ?_
  show wpAny _ _ (handedOut (.ref D)) _ _ _
  rw [handedOut_of (v := .ref D) rfl]
  first
    | exact wpAny_pure (wpAny_pure h)
    | exact wpAny_pure h
    | exact wpAny_pure (wpAny_bind (wpAny_pure (wpAny_pure h)))
theorem kit_err (T : L2.ExcC K D) : KitX K (.ref x) (.ref D) (fun h => ∃ ox od, InstAt h x ox D (some od)) where
  ty := fun _ _ _ ⟨_, _, I⟩ => I.type
  it := fun _ _ X _ => by
    obtain ⟨cdD, hcD, _⟩ := any_some T.hd
    unfold clsIn at hcD
    split at hcD
    · rename_i c' d' cd' sl' ho
      intro A' Q' E' s' k q
      unfold isType loadHead
      exact wpAny_bind (wpAny_loadPart (k _ _ (X _ _ ho)) (wpAny_pure q))
    · cases hcD
  ne := fun h tp dd its n sl X htp => by
    obtain ⟨cdD, hcD, _⟩ := any_some T.hd
    refine Bool.eq_false_iff.mpr fun q => ?_
    have e : D = tp := Value.ref.inj (beq_iff_eq.mp q)
    subst e
    unfold clsIn at hcD
    split at hcD
    · rename_i c' d' cd' sl' ho
      have z := (X _ _ ho).symm.trans htp
      cases z
    · cases hcD
  ca := fun X ⟨_, _, I⟩ k => class_of T X I k
end
open L2
/-- isinstance(error, c), c a class -/
def rIsErr (K : Frag) : List V → Hp → VK → Prop := fun xs H Q => ∃ (e C d : Addr) (f : Str) (v c : V) (cv : Value) (b : Bool), xs = [.ref e, c] ∧ ErrAt H e C d f v ∧ ExcC K C ∧ (∀ u, RelV c u → u = cv) ∧ kitOne K (.ref C) cv = some b ∧ Q (.bl b) H
theorem call_isErr {X : Cx} : CallR X (.builtin "isinstance") (rIsErr X.K) := by
  intro pins s σ H xs us Q I r h
  obtain ⟨e, C, d, f, v, c, cv, b, rfl, at_, T, hcv, k1, q⟩ := h
  cases r with
  | cons rx rr =>
    cases rr with
    | cons rt rr =>
      cases rr
      cases rx
      have ec := hcv _ rt
      subst ec
      obtain ⟨t0, ho⟩ := errO_at I.hok at_.ob
      have hx : ObjOk X.prog X.w H s.heap d (.xd [(f, v)]) := I.hok d _ at_.dc
      obtain ⟨mA, hns, _⟩ := hx
      obtain ⟨od, hod, _⟩ := lookIn_ns hns
      exact kia_one (kit_err T) I.kIn ⟨raw C t0 (some d), od, ⟨ho, rfl, rfl, hod⟩⟩ k1 (fun z => nomatch z) fun tk => ⟨.bl b, H, I.kept (t' := tk) fun _ _ z => z, rfl, q⟩
end Err
set_option maxHeartbeats 4000000
/-! What a value is, kept by every later heap: P; what an expression gives: EvP. -/
namespace Pd
open PySem PySem.Spec PyProof.Rows L2 Evl
abbrev PV := V → Hp → Prop
/-- it stays so -/
def Mo (P : PV) : Prop := ∀ x H H', Ex H H' → P x H → P x H'
def Is (v : V) : PV := fun x _ => x = v
theorem mo_is {v : V} : Mo (Is v) := fun _ _ _ _ h => h
def AllP : List PV → List V → Hp → Prop
  | [], [], _ => True
  | P :: Ps, x :: xs, H => P x H ∧ AllP Ps xs H
  | _, _, _ => False
theorem AllP.len : ∀ {Ps : List PV} {xs : List V} {H : Hp}, AllP Ps xs H → xs.length = Ps.length
  | [], [], _, _ => rfl
  | _ :: _, _ :: _, _, h => congrArg Nat.succ h.2.len
theorem AllP.mono {Ps : List PV} (hm : ∀ P ∈ Ps, Mo P) : ∀ {xs : List V} {H H' : Hp}, Ex H H' → AllP Ps xs H → AllP Ps xs H' := by
  induction Ps with
  | nil =>
    intro xs H H' e h
    cases xs with
    | nil => trivial
    | cons => exact h.elim
  | cons P Ps ih =>
    intro xs H H' e h
    cases xs with
    | nil => exact h.elim
    | cons x xs => exact ⟨hm P List.mem_cons_self x H H' e h.1, ih (fun P hP => hm P (List.mem_cons_of_mem _ hP)) e h.2⟩
def Lst (Ps : List PV) : PV := fun x H => ∃ a xs, x = .ref a ∧ H a = some (.lst xs) ∧ AllP Ps xs H
def Tup (Ps : List PV) : PV := fun x H => ∃ a xs, x = .ref a ∧ H a = some (.tup xs) ∧ AllP Ps xs H
theorem mo_lst {Ps : List PV} (hm : ∀ P ∈ Ps, Mo P) : Mo (Lst Ps) := fun _ _ _ e ⟨a, xs, h1, h2, h3⟩ => ⟨a, xs, h1, e a _ h2, h3.mono hm e⟩
theorem mo_tup {Ps : List PV} (hm : ∀ P ∈ Ps, Mo P) : Mo (Tup Ps) := fun _ _ _ e ⟨a, xs, h1, h2, h3⟩ => ⟨a, xs, h1, e a _ h2, h3.mono hm e⟩
/-- a list of just these values -/
def LstV (vs : List V) : PV := fun x H => ∃ a, x = .ref a ∧ H a = some (.lst vs)
theorem mo_lstV {vs : List V} : Mo (LstV vs) := fun _ _ _ e ⟨a, h1, h2⟩ => ⟨a, h1, e a _ h2⟩
theorem allP_is : ∀ {vs xs : List V} {H : Hp}, AllP (vs.map Is) xs H → xs = vs
  | [], [], _, _ => rfl
  | v :: vs, x :: xs, H, h => by
    obtain ⟨h1, h2⟩ := h
    rw [show x = v from h1, allP_is h2]
theorem Lst.values {vs : List V} {x : V} {H : Hp} (h : Lst (vs.map Is) x H) : LstV vs x H := by
  obtain ⟨a, xs, h1, h2, h3⟩ := h
  rw [allP_is h3] at h2
  exact ⟨a, h1, h2⟩
theorem allP_app : ∀ {Ps Rs : List PV} {xs ys : List V} {H : Hp}, AllP Ps xs H → AllP Rs ys H → AllP (Ps ++ Rs) (xs ++ ys) H
  | [], _, [], _, _, _, h => h
  | _ :: _, _, _ :: _, _, _, h, k => ⟨h.1, allP_app h.2 k⟩
theorem allP_get : ∀ {Ps : List PV} {xs : List V} {H : Hp} {i : Nat} {P : PV}, AllP Ps xs H → Ps[i]? = some P → ∃ x, xs[i]? = some x ∧ P x H
  | P :: Ps, x :: xs, H, 0, R, h, e => by
    cases (show some P = some R from e)
    exact ⟨x, rfl, h.1⟩
  | P :: Ps, x :: xs, H, i + 1, R, h, e => by
    obtain ⟨y, h1, h2⟩ := allP_get h.2 (show Ps[i]? = some R from e)
    exact ⟨y, h1, h2⟩
theorem mo_nil : ∀ P ∈ ([] : List PV), Mo P := fun _ h => nomatch h
theorem mo_cons {P : PV} {Ps : List PV} (h : Mo P) (hs : ∀ P ∈ Ps, Mo P) : ∀ Q ∈ P :: Ps, Mo Q := fun Q hQ => by
  rcases List.mem_cons.mp hQ with rfl | q
  · exact h
  · exact hs Q q
/-- an expression gives a P, whatever stands beside -/
def EvP (te : TE) (σ : L2.St) (H : Hp) (P : PV) : Prop := ∀ H1, Ex H H1 → ∀ Q : VK, (∀ x H2, Ex H1 H2 → P x H2 → Q x H2) → te σ H1 Q
def EvPs (ta : TA) (σ : L2.St) (H : Hp) (Ps : List PV) : Prop := ∀ H1, Ex H H1 → ∀ Q : List V → Hp → Prop, (∀ xs H2, Ex H1 H2 → AllP Ps xs H2 → Q xs H2) → ta σ H1 Q
section
variable {σ : L2.St} {H H' : Hp} {te ta tb : TE} {P P' P1 P2 : PV} {v : V}
theorem EvP.up (e : Ex H H') (h : EvP te σ H P) : EvP te σ H' P := fun H1 a Q q => h H1 (e.trans a) Q q
theorem EvPs.up {tr : TA} {Ps : List PV} (e : Ex H H') (h : EvPs tr σ H Ps) : EvPs tr σ H' Ps := fun H1 a Q q => h H1 (e.trans a) Q q
theorem EvP.imp (h : EvP te σ H P) (k : ∀ x H1, Ex H H1 → P x H1 → P' x H1) : EvP te σ H P' := fun H1 a Q q => h H1 a Q fun x H2 e p => q x H2 e (k x H2 (a.trans e) p)
theorem EvP.of (h : Ev te σ H v) (hm : Mo P) (hp : P v H) : EvP te σ H P := fun H1 a Q q => h H1 a Q fun H2 e => q v H2 e (hm v H H2 (a.trans e) hp)
theorem EvP.ev (h : EvP te σ H (Is v)) : Ev te σ H v := fun H1 a Q q => h H1 a Q fun x H2 e p => by rw [p]; exact q H2 e
theorem p_var {i : Nat} (h : σ[i]? = some (some v)) (hm : Mo P) (hp : P v H) : EvP (tVar i) σ H P := .of (ev_var h) hm hp
theorem p_is {i : Nat} (h : σ[i]? = some (some v)) : EvP (tVar i) σ H (Is v) := .of (ev_var h) mo_is rfl
theorem p_c : EvP (tC v) σ H (Is v) := .of ev_c mo_is rfl
theorem ps_nil : EvPs tNil σ H [] := fun H1 _ Q q => q [] H1 (Ex.refl H1) trivial
theorem ps_cons {tr : TA} {Ps : List PV} (hm : Mo P) (h : EvP te σ H P) (hr : EvPs tr σ H Ps) : EvPs (tCons te tr) σ H (P :: Ps) := fun H1 a Q q =>
  h H1 a _ fun x H2 e p => hr H2 (a.trans e) _ fun xs H3 e2 ps => q (x :: xs) H3 (e.trans e2) ⟨hm x H2 H3 e2 p, ps⟩
theorem p_lst {tr : TA} {Ps : List PV} (hm : ∀ P ∈ Ps, Mo P) (h : EvPs tr σ H Ps) (hl : Ps.length ≤ 100000 := by first | decide | simp) : EvP (tLst tr) σ H (Lst Ps) := fun H1 a Q q =>
  h H1 a _ fun xs H2 e ps => ⟨by rw [ps.len]; exact sz_of hl, fun p hp => q (.ref p) _ (e.trans (Ex.new hp)) ⟨p, xs, rfl, upd_same, ps.mono hm (Ex.new hp)⟩⟩
theorem p_tup {tr : TA} {Ps : List PV} (hm : ∀ P ∈ Ps, Mo P) (h : EvPs tr σ H Ps) (hl : Ps.length ≤ 100000 := by first | decide | simp) : EvP (tTup tr) σ H (Tup Ps) := fun H1 a Q q =>
  h H1 a _ fun xs H2 e ps => ⟨by rw [ps.len]; exact sz_of hl, fun p hp => q (.ref p) _ (e.trans (Ex.new hp)) ⟨p, xs, rfl, upd_same, ps.mono hm (Ex.new hp)⟩⟩
/-- a list of values written out -/
theorem p_lstV {tr : TA} {vs : List V} (h : EvPs tr σ H (vs.map Is)) (hl : vs.length ≤ 100000 := by first | decide | simp) : EvP (tLst tr) σ H (LstV vs) :=
  (p_lst (fun P hP => by obtain ⟨v, _, rfl⟩ := List.mem_map.mp hP; exact mo_is) h (by rw [List.length_map]; exact hl)).imp fun _ _ _ p => p.values
/-- xs + ys -/
theorem p_cat {Ps Rs : List PV} (hm : ∀ P ∈ Ps, Mo P) (hn : ∀ P ∈ Rs, Mo P) (h1 : EvP ta σ H (Lst Ps)) (h2 : EvP tb σ H (Lst Rs)) (hl : Ps.length + Rs.length ≤ 100000 := by first | decide | simp) : EvP (tOp rCat ta tb) σ H (Lst (Ps ++ Rs)) := fun H1 a Q q =>
  h1 H1 a _ fun x H2 e ⟨p, xs, ex, hx, px⟩ => h2 H2 (a.trans e) _ fun y H3 e2 ⟨r, ys, ey, hy, py⟩ => by
    refine ⟨p, r, xs, ys, ex, ey, e2 p _ hx, hy, by rw [px.len, py.len]; exact sz_of hl, fun z hz => ?_⟩
    exact q (.ref z) _ (e.trans (e2.trans (Ex.new hz))) ⟨z, xs ++ ys, rfl, upd_same, allP_app (px.mono hm (e2.trans (Ex.new hz))) (py.mono hn (Ex.new hz))⟩
theorem p_catV {xs ys : List V} (h1 : EvP ta σ H (LstV xs)) (h2 : EvP tb σ H (LstV ys)) (hl : xs.length + ys.length ≤ 100000 := by first | decide | simp) : EvP (tOp rCat ta tb) σ H (LstV (xs ++ ys)) := fun H1 a Q q =>
  h1 H1 a _ fun x H2 e ⟨p, ex, hx⟩ => h2 H2 (a.trans e) _ fun y H3 e2 ⟨r, ey, hy⟩ =>
    ⟨p, r, xs, ys, ex, ey, e2 p _ hx, hy, sz_of hl, fun z hz => q (.ref z) _ (e.trans (e2.trans (Ex.new hz))) ⟨z, rfl, upd_same⟩⟩
/-- a field of an error -/
def ErrV (C : Addr) (f : Str) (v : V) : PV := fun x H => ∃ e d, x = .ref e ∧ Err.ErrAt H e C d f v
theorem mo_err {C : Addr} {f : Str} {v : V} : Mo (ErrV C f v) := fun _ _ _ ex ⟨e, d, h1, h2⟩ => ⟨e, d, h1, ex _ _ h2.ob, ex _ _ h2.dc⟩
theorem p_err {C : Addr} {f : Str} (h : Ev te σ H v) : EvP (Err.tErr C f te) σ H (ErrV C f v) := fun H1 a Q q =>
  h H1 a _ fun H2 e x d hx hd hne => by
    have nd : upd H2 d (.xd [(f, v)]) x = none := by rw [upd_ne (Ne.symm hne)]; exact hx
    exact q (.ref x) _ (e.trans ((Ex.new hd).trans (Ex.new nd))) ⟨x, d, rfl, upd_same, by rw [upd_ne hne]; exact upd_same⟩
theorem p_errK {C : Addr} {f : Str} {tk : TA} (h : EvA tk σ H [v]) : EvP (fun σ H Q => tk σ H fun zs H1 => ∃ v, zs = [v] ∧ ∀ e d, H1 e = none → H1 d = none → d ≠ e → Q (.ref e) (upd (upd H1 d (.xd [(f, v)])) e (Err.errO e C d))) σ H (ErrV C f v) := fun H1 a Q q =>
  h H1 a _ fun H2 e => ⟨v, rfl, fun x d hx hd hne => by
    have nd : upd H2 d (.xd [(f, v)]) x = none := by rw [upd_ne (Ne.symm hne)]; exact hx
    exact q (.ref x) _ (e.trans ((Ex.new hd).trans (Ex.new nd))) ⟨x, d, rfl, upd_same, by rw [upd_ne hne]; exact upd_same⟩⟩
theorem p_errF {K : PySem.W.Frag} {C fI : Addr} {f : Str} (T : Err.ErrC K C fI f) (h : EvP te σ H (ErrV C f v)) : Ev (Err.tErrF K f te) σ H v := fun H1 a Q q =>
  h H1 a _ fun x H2 e ⟨y, d, ex, at_⟩ => ⟨y, C, fI, d, v, ex, T, at_, q H2 e⟩
theorem p_isErr {K : PySem.W.Frag} {C D : Addr} {f : Str} {b : Bool} {w : V} (T : ExcC K C) (k : PySem.W.kitOne K (.ref C) (.ref D) = some b) (h : EvP te σ H (ErrV C f w)) (h2 : Ev tb σ H (.ref D)) : Ev (tCB (Err.rIsErr K) (tCons te (tCons tb tNil))) σ H (.bl b) := fun H1 a Q q =>
  h H1 a _ fun x H2 e ⟨y, d, ex, at_⟩ => h2 H2 (a.trans e) _ fun H3 e2 => by
    refine ⟨y, C, d, f, w, .ref D, .ref D, b, by rw [ex], ⟨e2 _ _ at_.ob, e2 _ _ at_.dc⟩, T, fun u hu => hu, k, q H3 (e.trans e2)⟩
theorem p_isErrT {K : PySem.W.Frag} {C : Addr} {f : Str} {b : Bool} {w : V} {n : String} (T : ExcC K C) (k : PySem.W.kitOne K (.ref C) (.type n) = some b) (h : EvP te σ H (ErrV C f w)) (h2 : Ev tb σ H (.ty n)) : Ev (tCB (Err.rIsErr K) (tCons te (tCons tb tNil))) σ H (.bl b) := fun H1 a Q q =>
  h H1 a _ fun x H2 e ⟨y, d, ex, at_⟩ => h2 H2 (a.trans e) _ fun H3 e2 => by
    refine ⟨y, C, d, f, w, .ty n, .type n, b, by rw [ex], ⟨e2 _ _ at_.ob, e2 _ _ at_.dc⟩, T, fun u hu => hu, k, q H3 (e.trans e2)⟩
/-- an operation of values that are so and so -/
theorem p_op {r : R2} (hm : Mo P1) (h1 : EvP ta σ H P1) (h2 : EvP tb σ H P2)
    (hr : ∀ x y H1, Ex H H1 → P1 x H1 → P2 y H1 → ∀ Q : VK, (∀ z H2, Ex H1 H2 → P z H2 → Q z H2) → r x y H1 Q) : EvP (tOp r ta tb) σ H P := fun H1 a Q q =>
  h1 H1 a _ fun x H2 e p1 => h2 H2 (a.trans e) _ fun y H3 e2 p2 => hr x y H3 (a.trans (e.trans e2)) (hm x H2 H3 e2 p1) p2 Q fun z H4 e3 p => q z H4 (e.trans (e2.trans e3)) p
theorem p_un {r : V → Hp → VK → Prop} (h1 : EvP ta σ H P1) (hr : ∀ x H1, Ex H H1 → P1 x H1 → ∀ Q : VK, (∀ z H2, Ex H1 H2 → P z H2 → Q z H2) → r x H1 Q) : EvP (tUn r ta) σ H P := fun H1 a Q q =>
  h1 H1 a _ fun x H2 e p1 => hr x H2 (a.trans e) p1 Q fun z H4 e3 p => q z H4 (e.trans e3) p
theorem p_cb {r : List V → Hp → VK → Prop} {tr : TA} {Ps : List PV} (h : EvPs tr σ H Ps) (hr : ∀ xs H1, Ex H H1 → AllP Ps xs H1 → ∀ Q : VK, (∀ z H2, Ex H1 H2 → P z H2 → Q z H2) → r xs H1 Q) : EvP (tCB r tr) σ H P := fun H1 a Q q =>
  h H1 a _ fun xs H2 e ps => hr xs H2 (a.trans e) ps Q fun z H3 e2 p => q z H3 (e.trans e2) p
theorem p_call {sp : Sp} {E : XK} {tr : TA} {Ps : List PV} (h : EvPs tr σ H Ps) (hr : ∀ xs H1, Ex H H1 → AllP Ps xs H1 → ∀ Q : VK, (∀ z H2, Ex H1 H2 → P z H2 → Q z H2) → sp xs H1 Q E) : EvP (tCall sp [] E tr) σ H P := fun H1 a Q q =>
  h H1 a _ fun xs H2 e ps => by
    rw [List.append_nil]
    exact hr xs H2 (a.trans e) ps Q fun z H3 e2 p => q z H3 (e.trans e2) p
theorem p_ife {t : TT} {b : Bool} (h : EvT t σ H b) (h1 : b = true → EvP ta σ H P) (h2 : b = false → EvP tb σ H P) : EvP (tIf t ta tb) σ H P := fun H1 e Q q => h H1 e _ fun H2 e2 => by
  cases b with
  | true => exact h1 rfl H2 (e.trans e2) Q fun x H3 e3 p => q x H3 (e2.trans e3) p
  | false => exact h2 rfl H2 (e.trans e2) Q fun x H3 e3 p => q x H3 (e2.trans e3) p
/-! statements -/
variable {D : Ends} {tz : TS}
theorem d_asg {i : Nat} (h : EvP te σ H P) (k : ∀ x H1, Ex H H1 → P x H1 → tz D (σ.set i (some x)) H1) : tSeq (tAsg te (gName i)) tz D σ H := h H (Ex.refl H) _ k
theorem d_asg1 {i : Nat} (h : EvP te σ H P) (k : ∀ x H1, Ex H H1 → P x H1 → D.nx (σ.set i (some x)) H1) : tAsg te (gName i) D σ H := h H (Ex.refl H) _ k
theorem d_ret (h : EvP te σ H P) (k : ∀ x H1, Ex H H1 → P x H1 → D.rt x H1) : tRet te D σ H := h H (Ex.refl H) _ k
end
/-- a promise: asked of the arguments, P of what comes back, nothing that stood is touched -/
def Pr (pre : List V → Hp → Prop) (P : List V → PV) : Sp := fun vs H Q _ => pre vs H ∧ ∀ x H', Ex H H' → P vs x H' → Q x H'
/-- the same value twice: none is told from itself -/
def noFlt : V → Bool
  | .flt _ => false
  | _ => true
theorem eq_self {A : Around} {s : Shared} {x : V} {v u : Value} (rx : RelV x v) (ru : RelV x u) (h : flatB x = true ∨ ∃ a, x = .ref a) : SeqAt.EqAt A s v u true := by
  rcases h with h | ⟨a, rfl⟩
  · exact eqAt_same rx ru h
  · cases (show v = Value.ref a from rx)
    cases (show u = Value.ref a from ru)
    exact SeqAt.EqAt.same _
def Solid (x : V) : Prop := flatB x = true ∨ ∃ a, x = .ref a
theorem items_self {A : Around} {s : Shared} {xs : List V} {us ws : List Value} (hs : ∀ x ∈ xs, Solid x) (r1 : Vals xs us) (r2 : Vals xs ws) : ∀ j (h1 : j < us.toArray.size) (h2 : j < ws.toArray.size), SeqAt.EqAt A s us.toArray[j] ws.toArray[j] true := by
  intro j h1 h2
  have l1 : j < us.length := by simpa using h1
  have l2 : j < ws.length := by simpa using h2
  have lx : j < xs.length := by rw [Vals.length r1]; exact l1
  obtain ⟨u, hu, ru⟩ := Vals.get r1 (List.getElem?_eq_getElem lx)
  obtain ⟨w', hw, rw'⟩ := Vals.get r2 (List.getElem?_eq_getElem lx)
  have e1 : us.toArray[j] = u := by
    have := (List.getElem?_eq_getElem l1).symm.trans hu
    simpa using this
  have e2 : ws.toArray[j] = w' := by
    have := (List.getElem?_eq_getElem l2).symm.trans hw
    simpa using this
  rw [e1, e2]
  exact eq_self ru rw' (hs _ (List.getElem_mem lx))
/-- two lists of the same values -/
def rLs (K : PySem.W.Frag) (b : Bool) : R2 := fun x y H Q => ∃ a c xs, x = .ref a ∧ y = .ref c ∧ SqL K H a xs ∧ SqL K H c xs ∧ (∀ z ∈ xs, Solid z) ∧ Q (.bl b) H
/-- a value beside itself -/
def rSelf (K : PySem.W.Frag) (b : Bool) : R2 := fun x y H Q => x = y ∧ (scal x x = true ∨ (∃ a xs, x = .ref a ∧ (SqL K H a xs ∨ SqT K H a xs) ∧ ∀ z ∈ xs, Solid z) ∨ ∃ a, x = .ref a ∧ H a = some (.dK [])) ∧ Q (.bl b) H
section
variable {X : Cx}
theorem op_neLs (hu : X.A.units < cLine) : OpR X (compareOp .NotEq) (rLs X.K false) := by
  intro pins s σ H x y v u Q I rx ry h
  obtain ⟨a, c, xs, rfl, rfl, h1, h2, hs, q⟩ := h
  obtain rfl : v = Value.ref a := rx
  obtain rfl : u = Value.ref c := ry
  obtain ⟨us, r1, p1, _⟩ := I.list h1
  obtain ⟨ws, r2, p2, _⟩ := I.list h2
  have sz : us.toArray.size = ws.toArray.size := by
    rw [List.size_toArray, List.size_toArray, ← Vals.length r1, ← Vals.length r2]
  show wpAny _ _ (richCompare .NotEq (.ref a) (.ref c)) _ _ _
  refine SeqAt.RcNeAt.lists (A := X.A) (e := fun _ => true) p1.isList p2.isList sz hu (items_self hs r1 r2) X.prog X.w X.xe _ ?_
  rw [show ((List.range us.toArray.size).all fun _ => true) = true from List.all_eq_true.mpr fun _ _ => rfl]
  exact ⟨.bl false, H, I, rfl, q⟩
theorem op_eqLs (hu : X.A.units < cLine) : OpR X (compareOp .Eq) (rLs X.K true) := by
  intro pins s σ H x y v u Q I rx ry h
  obtain ⟨a, c, xs, rfl, rfl, h1, h2, hs, q⟩ := h
  obtain rfl : v = Value.ref a := rx
  obtain rfl : u = Value.ref c := ry
  obtain ⟨us, r1, p1, _⟩ := I.list h1
  obtain ⟨ws, r2, p2, _⟩ := I.list h2
  have sz : us.toArray.size = ws.toArray.size := by
    rw [List.size_toArray, List.size_toArray, ← Vals.length r1, ← Vals.length r2]
  refine SeqAt.rcP_lists (e := fun _ => true) p1.isList p2.isList sz hu (fun j l1 l2 => (items_self hs r1 r2 j l1 l2).eqP) X.xe _ ?_
  rw [show ((List.range us.toArray.size).all fun _ => true) = true from List.all_eq_true.mpr fun _ _ => rfl]
  exact ⟨.bl true, H, I, rfl, q⟩
theorem op_neSelf (hu : X.A.units < cLine) : OpR X (compareOp .NotEq) (rSelf X.K false) := by
  intro pins s σ H x y v u Q I rx ry h
  obtain ⟨rfl, h, q⟩ := h
  rcases h with h | ⟨a, xs, rfl, h, hs⟩ | ⟨a, rfl, h⟩
  · refine op_ne pins s σ H x x v u Q I rx ry ⟨h, ?_⟩
    simpa using q
  · rcases h with h | h
    · exact op_neLs hu pins s σ H _ _ v u Q I rx ry ⟨a, a, xs, rfl, rfl, h, h, hs, q⟩
    · obtain rfl : v = Value.ref a := rx
      obtain rfl : u = Value.ref a := ry
      obtain ⟨us, r1, p1, _⟩ := I.tuple h
      have tp : s.heap.IsTuple a us.toArray := by
        obtain ⟨o, ho, hc, n, hd⟩ := p1
        exact ⟨o, ho, hc, n, hd⟩
      show wpAny _ _ (richCompare .NotEq (.ref a) (.ref a)) _ _ _
      refine SeqAt.RcNeAt.tuples (A := X.A) (e := fun _ => true) tp tp hu (items_self hs r1 r1) X.prog X.w X.xe _ ?_
      have ee : (!(((List.range (min us.toArray.size us.toArray.size)).all fun _ => true) && us.toArray.size == us.toArray.size)) = false := by simp
      rw [ee]
      exact ⟨.bl false, H, I, rfl, q⟩
  · exact op_ne_dictA hu pins s σ H _ _ v u Q I rx ry ⟨a, a, [], [], rfl, rfl, h, h, rfl, (fun _ h => nomatch h), q⟩
theorem pe_gref {x : Str} {C : Addr} {pos : Pos} (hg : Gl X x) (hm : X.mg x = some (.ref C)) (hd : (x == ("__debug__" : Str)) = false := by decide) : PE X (.Name x pos) (tC (.ref C)) := pe_glob hg hm (show RelV (.ref C) (.ref C) from rfl) hd
/-- a list beside []: are they unlike? -/
def rNil (K : PySem.W.Frag) : R2 := fun x y H Q => ∃ a c xs, x = .ref a ∧ y = .ref c ∧ SqL K H a xs ∧ SqL K H c [] ∧ (∀ z ∈ xs, Solid z) ∧ Q (.bl (!xs.isEmpty)) H
theorem op_neNil (hu : X.A.units < cLine) : OpR X (compareOp .NotEq) (rNil X.K) := by
  intro pins s σ H x y v u Q I rx ry h
  obtain ⟨a, c, xs, rfl, rfl, h1, h2, hs, q⟩ := h
  cases xs with
  | nil => exact op_neLs hu pins s σ H _ _ v u Q I rx ry ⟨a, c, [], rfl, rfl, h1, h2, hs, q⟩
  | cons z zs =>
    obtain rfl : v = Value.ref a := rx
    obtain rfl : u = Value.ref c := ry
    obtain ⟨us, r1, p1, _⟩ := I.list h1
    obtain ⟨ws, r2, p2, _⟩ := I.list h2
    have sz : (us.toArray.size != ws.toArray.size) = true := by
      rw [List.size_toArray, List.size_toArray, ← Vals.length r1, ← Vals.length r2]
      simp
    show wpAny _ _ (richCompare .NotEq (.ref a) (.ref c)) _ _ _
    refine SeqAt.RcNeAt.lists_lengths (A := X.A) p1.isList p2.isList sz hu X.prog X.w X.xe _ ?_
    exact ⟨.bl true, H, I, rfl, q⟩
end
section
variable {σ : L2.St} {H : Hp} {ta tb : TE}
theorem p_neLs {K : PySem.W.Frag} {vs : List V} {b : Bool} (hs : ∀ z ∈ vs, Solid z) (h1 : EvP ta σ H (LstV vs)) (h2 : EvP tb σ H (LstV vs)) : Ev (tOp (rLs K b) ta tb) σ H (.bl b) := fun H1 a Q q =>
  h1 H1 a _ fun x H2 e ⟨p, ex, hx⟩ => h2 H2 (a.trans e) _ fun y H3 e2 ⟨r, ey, hy⟩ =>
    ⟨p, r, vs, ex, ey, sq_of (e2 _ _ hx), sq_of hy, hs, q H3 (e.trans e2)⟩
end
end Pd
set_option maxHeartbeats 4000000
/-! Data as a tree, kept by growing heaps; a pool: a list [numbers, place] of which the place is not told. -/
namespace Pd
open PySem PySem.Spec PyProof.Rows L2 Evl
mutual
theorem dp_up {K : PySem.W.Frag} {H H' : Hp} (e : Ex H H') : ∀ {x : V} {d : PyData}, Dp K H x d → Dp K H' x d
  | _, _, .non => .non
  | _, _, .bl b => .bl b
  | _, _, .int i => .int i
  | _, _, .str x => .str x
  | _, _, .lst h a => .lst (ex_l e h) (dpAll_up e a)
  | _, _, .tup h a => .tup (ex_t e h) (dpAll_up e a)
theorem dpAll_up {K : PySem.W.Frag} {H H' : Hp} (e : Ex H H') : ∀ {xs : List V} {ds : List PyData}, DpAll K H xs ds → DpAll K H' xs ds
  | _, _, .nil => .nil
  | _, _, .cons h a => .cons (dp_up e h) (dpAll_up e a)
end
/-- the value is the data d -/
def De (K : PySem.W.Frag) (d : PyData) : PV := fun x H => Dp K H x d
theorem mo_de {K : PySem.W.Frag} {d : PyData} : Mo (De K d) := fun _ _ _ e h => dp_up e h
theorem allP_de {K : PySem.W.Frag} {H : Hp} : ∀ {ds : List PyData} {xs : List V}, AllP (ds.map (De K)) xs H → DpAll K H xs ds
  | [], [], _ => .nil
  | d :: ds, x :: xs, h => .cons h.1 (allP_de h.2)
theorem mo_des {K : PySem.W.Frag} {ds : List PyData} : ∀ P ∈ ds.map (De K), Mo P := fun P hP => by
  obtain ⟨d, _, rfl⟩ := List.mem_map.mp hP
  exact mo_de
section
variable {K : PySem.W.Frag} {σ : L2.St} {H : Hp} {te ta tb : TE} {tr : TA} {d e : PyData} {ds : List PyData}
theorem de_int {i : Int} : EvP (tC (.int i)) σ H (De K (.int i)) := p_c.imp fun x _ _ hx => by rw [show x = _ from hx]; exact .int i
theorem de_str {s : Str} : EvP (tC (.str s)) σ H (De K (.str s)) := p_c.imp fun x _ _ hx => by rw [show x = _ from hx]; exact .str s
theorem de_bl {b : Bool} : EvP (tC (.bl b)) σ H (De K (.bool b)) := p_c.imp fun x _ _ hx => by rw [show x = _ from hx]; exact .bl b
theorem de_non : EvP (tC .non) σ H (De K .none) := p_c.imp fun x _ _ hx => by rw [show x = _ from hx]; exact .non
theorem de_lst (h : EvPs tr σ H (ds.map (De K))) (hl : ds.length ≤ 100000 := by first | decide | simp) : EvP (tLst tr) σ H (De K (.list ds)) :=
  (p_lst mo_des h (by rw [List.length_map]; exact hl)).imp fun x H1 _ ⟨a, xs, h1, h2, h3⟩ => by rw [h1]; exact .lst (sq_of h2) (allP_de h3)
theorem de_tup (h : EvPs tr σ H (ds.map (De K))) (hl : ds.length ≤ 100000 := by first | decide | simp) : EvP (tTup tr) σ H (De K (.tuple ds)) :=
  (p_tup mo_des h (by rw [List.length_map]; exact hl)).imp fun x H1 _ ⟨a, xs, h1, h2, h3⟩ => by rw [h1]; exact .tup (st_of h2) (allP_de h3)
theorem de_eq (sd : SeqAt.shaped d = true) (se : SeqAt.shaped e = true) (h1 : EvP ta σ H (De K d)) (h2 : EvP tb σ H (De K e)) : Ev (tOp (rEqD K) ta tb) σ H (.bl (PyData.eqv d e)) := fun H1 a Q q =>
  h1 H1 a _ fun x H2 e1 p1 => h2 H2 (a.trans e1) _ fun y H3 e2 p2 => ⟨d, e, dp_up e2 p1, p2, sd, se, q H3 (e1.trans e2)⟩
theorem de_ne (sd : SeqAt.shaped d = true) (se : SeqAt.shaped e = true) (h1 : EvP ta σ H (De K d)) (h2 : EvP tb σ H (De K e)) : Ev (tOp (rNeD K) ta tb) σ H (.bl (!PyData.eqv d e)) := fun H1 a Q q =>
  h1 H1 a _ fun x H2 e1 p1 => h2 H2 (a.trans e1) _ fun y H3 e2 p2 => ⟨d, e, dp_up e2 p1, p2, sd, se, q H3 (e1.trans e2)⟩
/-- the class of a data -/
def tyD : PyData → String
  | .none => "NoneType" | .bool _ => "bool" | .int _ => "int" | .str _ => "str" | .list _ => "list" | .tuple _ => "tuple" | .dict _ => "dict"
theorem ty_list {a : Addr} {xs : List V} (h : SqL K H a xs) : TyX K H (.ref a) (.type "list") := by
  rcases h with (h | ⟨o, h⟩) | ⟨o, its, n, h1, h2, _⟩
  · exact .base (.lst h)
  · exact .base (.frz h)
  · exact .kList h1 h2
theorem ty_tup {a : Addr} {xs : List V} (h : SqT K H a xs) : TyX K H (.ref a) (.type "tuple") := by
  rcases h with (h | ⟨o, h⟩) | ⟨o, its, n, h1, h2, _⟩
  · exact .base (.tup h)
  · exact .fTuple h
  · exact .kTuple h1 h2
theorem ty_de {x : V} (h : Dp K H x d) : TyX K H x (.type (tyD d)) := by
  cases h with
  | non => exact .base .non
  | bl b => exact .base (.bl b)
  | int i => exact .base (.int i)
  | str s => exact .base (.str s)
  | lst h _ => exact ty_list h
  | tup h _ => exact ty_tup h
/-- isinstance(x, T) -/
theorem de_isi {n : String} {b : Bool} (k : kitB (tyD d) n = some b) (h1 : EvP ta σ H (De K d)) (h2 : Ev tb σ H (.ty n)) : Ev (tCB (rIsi K) (tCons ta (tCons tb tNil))) σ H (.bl b) := fun H1 a Q q =>
  h1 H1 a _ fun x H2 e1 p1 => h2 H2 (a.trans e1) _ fun H3 e2 => ⟨x, .ty n, _, .type n, b, rfl, .ty n, ty_de (dp_up e2 p1), kit_ty k, q H3 (e1.trans e2)⟩
end
/-! ### a pool -/
/-- at p: the list [the list at a, some place from 0 on] -/
def poolO (p a : Addr) : HO := .ext fun h => ∃ (i : Int) (t : Tok) (n : Nat), 0 ≤ i ∧ h.get? p = some { cls := .type "list", data := .seq #[.ref a, .int i t] n }
theorem pool_ok {P : Program} {w : World} {H : Hp} {h : Heap} {p a : Addr} {i : Int} {t : Tok} {n : Nat} (h0 : 0 ≤ i) (e : h.get? p = some { cls := .type "list", data := .seq #[.ref a, .int i t] n }) : ObjOk P w H h p (poolO p a) :=
  ⟨⟨i, t, n, h0, e⟩, ⟨_, e⟩, fun _ _ ⟨i, t, n, h0, q⟩ k => ⟨i, t, n, h0, k _ q⟩⟩
theorem pool_at {P : Program} {w : World} {H : Hp} {h : Heap} {p a : Addr} (hok : HOk P w H h) (e : H p = some (poolO p a)) : ∃ (i : Int) (t : Tok) (n : Nat), 0 ≤ i ∧ h.get? p = some { cls := .type "list", data := .seq #[.ref a, .int i t] n } := by
  have x : ObjOk P w H h p (.ext fun h => ∃ (i : Int) (t : Tok) (n : Nat), 0 ≤ i ∧ h.get? p = some { cls := .type "list", data := .seq #[.ref a, .int i t] n }) := hok p _ e
  exact x.1
/-- numbers from 0 on -/
def Nums (K : PySem.W.Frag) (a : Addr) (H : Hp) : Prop := ∃ ns : List Int, (∀ n ∈ ns, 0 ≤ n) ∧ ns.length ≤ 1000 ∧ H a = some (.lst (ns.map V.int))
def PoolV (K : PySem.W.Frag) : PV := fun x H => ∃ p a, x = .ref p ∧ H p = some (poolO p a) ∧ Nums K a H
theorem mo_pool {K : PySem.W.Frag} : Mo (PoolV K) := fun _ _ _ e ⟨p, a, h1, h2, ns, h3, h4, h5⟩ => ⟨p, a, h1, e _ _ h2, ns, h3, h4, e _ _ h5⟩
section
variable {X : Cx}
/-- [numbers, 0] is taken as a pool from here on -/
def tRecast (te : TE) : TE := fun σ H Q => te σ H fun x H1 => ∃ (p a : Addr) (i : Int), x = .ref p ∧ 0 ≤ i ∧ H1 p = some (.lst [.ref a, .int i]) ∧ Q x (upd H1 p (poolO p a))
theorem pe_recast {e : Expr} {te : TE} (h : PE X e te) : PE X e (tRecast te) := by
  refine ⟨fun pins s σ H Q I hw => thn (h.run pins s σ H _ I hw) fun u s1 ⟨x, H1, I1, r, p, a, i, ex, h0, hp, q⟩ => ?_⟩
  subst ex
  obtain ⟨hl, its, n, rv, ho⟩ := (show ObjOk X.prog X.w H1 s1.heap p (.lst [.ref a, .int i]) from I1.hok p _ hp)
  obtain ⟨u1, u2, rfl, r1, r2⟩ := vals2 rv
  cases (show u1 = Value.ref a from r1)
  obtain ⟨t, rfl⟩ := (show ∃ t, u2 = Value.int i t from r2)
  have J := I1.write (t' := s1.toks) (x := p) (e := p) (o := poolO p a) (by rw [hp]; exact True.intro) (.inl rfl) (fun b u _ z => z) ⟨_, ho⟩ (pool_ok h0 ho)
  exact ⟨.ref p, _, J, r, q⟩
/-- pool[0], pool[1] -/
def rIxPool : R2 := fun x y H Q => ∃ (p a : Addr), x = .ref p ∧ H p = some (poolO p a) ∧ ((y = .int 0 ∧ Q (.ref a) H) ∨ (y = .int 1 ∧ ∀ i : Int, 0 ≤ i → Q (.int i) H))
theorem ix_pool : IxR X rIxPool := by
  intro value slice pins s σ H x y v u Q I rx ry h hs
  obtain ⟨p, a, rfl, hp, h⟩ := h
  cases rx
  obtain ⟨i, t, n, h0, ho⟩ := pool_at I.hok hp
  have il : s.heap.IsList p #[.ref a, .int i t] := ⟨_, ho, rfl, n, rfl⟩
  rcases h with ⟨rfl, q⟩ | ⟨rfl, q⟩
  · obtain ⟨t2, rfl⟩ := ry
    exact item_listR il (by decide) (by decide) (x := .ref a) rfl ⟨.ref a, H, I, rfl, q⟩ hs
  · obtain ⟨t2, rfl⟩ := ry
    exact item_listR il (by decide) (by decide) (x := .int i t) rfl ⟨.int i, H, I, ⟨t, rfl⟩, q i h0⟩ hs
/-- pool[1] = i -/
def rSetPool : V → V → V → Hp → (Hp → Prop) → Prop := fun o i v H Q => ∃ (p a : Addr) (k : Int), o = .ref p ∧ i = .int 1 ∧ v = .int k ∧ 0 ≤ k ∧ H p = some (poolO p a) ∧ Q H
theorem set_pool : PSet X rSetPool := by
  intro pins s σ H o i v ov iv u Q I ro ri rv h
  obtain ⟨p, a, k, rfl, rfl, rfl, hk, hp, q⟩ := h
  cases ro
  obtain ⟨t, rfl⟩ := ri
  obtain ⟨tk, rfl⟩ := rv
  obtain ⟨i, t0, n, h0, ho⟩ := pool_at I.hok hp
  have e : (s.heap.update p (Obj.mapSeq (·.setIfInBounds 1 (.int k tk)))).get? p = some { cls := .type "list", data := .seq #[.ref a, .int k tk] n } := by
    rw [Heap.get?_update_self _ ho (by simp [Obj.mapSeq]; rfl)]
    simp [Obj.mapSeq]
  have J : Inv X pins σ (upd H p (poolO p a)) { s with heap := s.heap.update p (Obj.mapSeq (·.setIfInBounds 1 (.int k tk))) } :=
    I.write (t' := s.toks) (x := p) (e := p) (o := poolO p a) (by rw [hp]; exact True.intro) (.inl rfl) (fun b u hb z => (Heap.get?_update_other _ _ (Ne.symm hb)).trans z) ⟨_, e⟩ (pool_ok hk e)
  have same : upd H p (poolO p a) = H := by
    funext b
    by_cases hb : b = p
    · rw [hb, upd_same, hp]
    · rw [upd_ne hb]
  rw [same] at J
  exact PySem.W.ki_setAt ho (by decide) (by decide) (by show (1 : Int) < 2; decide) ⟨_, J, q⟩
end
end Pd
namespace Tp
open PySem
def top (i : Nat) : Stmt := PySem.Challenge.pw_answeredsettings_k40_whole_nested_values.main.body.getD i (.Pass ⟨0, 0, 0, 0⟩)
def clsBody : Stmt → List Stmt
  | .ClassDef (body := b) .. => b
  | _ => []
abbrev c_PactError : Stmt := top 3
abbrev c_BadText : Stmt := top 4
abbrev m_BadText___init__ : Stmt := (clsBody (top 4)).getD 0 (.Pass ⟨0, 0, 0, 0⟩)
abbrev s_write_value : Stmt := top 10
abbrev s_is_integer_text : Stmt := top 11
abbrev s_is_plain_text : Stmt := top 12
abbrev s_plain_value : Stmt := top 13
abbrev s_take : Stmt := top 14
abbrev s_read_value : Stmt := top 15
abbrev s__law_numbers : Stmt := top 17
abbrev s__law_pool : Stmt := top 18
abbrev s__law_draw : Stmt := top 19
abbrev s__law_pick : Stmt := top 20
abbrev s__law_opened : Stmt := top 21
abbrev s__law_value : Stmt := top 22
abbrev s__law_text : Stmt := top 23
abbrev s__law_refused : Stmt := top 24
abbrev s__law_wrong : Stmt := top 25
abbrev s_law : Stmt := top 26
end Tp
set_option maxHeartbeats 4000000
namespace Lw
open PySem PySem.Spec PyProof.Rows L2 Evl Pd
abbrev sNumbers : Stmt := Tp.s__law_numbers
abbrev sPool : Stmt := Tp.s__law_pool
abbrev sDraw : Stmt := Tp.s__law_draw
abbrev sPick : Stmt := Tp.s__law_pick
structure Bt (mg : Str → Option Value) : Prop where
  len : mg "len" = none
  int : mg "int" = none
  range : mg "range" = none
  max : mg "max" = none
/-! ### values that are ints -/
theorem ev_int {σ : L2.St} {H : Hp} {te : TE} {i : Int} (h : Ev te σ H (.int i)) : Ev (tCB (fun xs H Q => (∃ i, xs = [V.int i] ∧ Q (.int i) H) ∨ ∃ k, xs = [V.bl k] ∧ Q (.int (if k then 1 else 0)) H) (tCons te tNil)) σ H (.int i) := fun H1 e Q q =>
  h H1 e _ fun H2 e2 => .inl ⟨i, rfl, q H2 e2⟩
theorem ev_max {σ : L2.St} {H : Hp} {ta tb : TE} {i j : Int} (h : Ev ta σ H (.int i)) (h2 : Ev tb σ H (.int j)) : Ev (tCB (fun xs H Q => ∃ i j, xs = [V.int i, .int j] ∧ Q (.int (if j > i then j else i)) H) (tCons ta (tCons tb tNil))) σ H (.int (if j > i then j else i)) := fun H1 e Q q =>
  h H1 e _ fun H2 e2 => h2 H2 (e.trans e2) _ fun H3 e3 => ⟨i, j, rfl, q H3 (e2.trans e3)⟩
theorem at_rep {n : Nat} {v : V} {k : Nat} (h : k < n) : atI (List.replicate n v) (k : Int) = some v := by
  unfold atI
  rw [ixN_nat (by rw [List.length_replicate]; exact h)]
  simp [h]
/-- numbers from lo to hi -/
def Rg (lo hi : Int) : PV := fun x _ => ∃ n, x = .int n ∧ lo ≤ n ∧ n ≤ hi
def spNumbers : Sp := fun vs H Q _ => ∃ (c salt m : Int) (sz : Addr), vs = [.int c, .int salt, .ref sz] ∧ 0 ≤ salt ∧ salt ≤ 100 ∧ 0 ≤ m ∧ m ≤ 1000 ∧ H sz = some (.lst (List.replicate m.toNat (.int 420))) ∧
  ∀ (p : Addr) (H' : Hp) (ns : List Int), Ex H H' → (∀ n ∈ ns, 0 ≤ n) → ns.length ≤ 1000 → H' p = some (.lst (ns.map V.int)) → H p = none → Q (.ref p) H'
section
variable {P : Program} {w : World} {K : PySem.W.Frag} {mg : Str → Option Value} {base : Heap}
theorem scNumbers : FnScope ["cell", "salt", "sizes", "whole", "left", "result", "k", "one"] ["cell", "salt", "sizes"] (defScope sNumbers) := ⟨rfl, rfl, rfl, by decide +kernel, rfl, by decide +kernel, by decide +kernel⟩
theorem ok_numbers {f : Addr} {fd : FuncData} (F : Fun K "_law_numbers" "_law_numbers" sNumbers f fd) (B : Bt mg) : FnOk P w K mg base CX0 1 f fd ["cell", "salt", "sizes"] spNumbers := by
  refine F.ok scNumbers (fun vs H Q E h => ?_) (fun cdv A outer s H vs Q E hr h => ?_)
  · obtain ⟨c, salt, m, sz, rfl, _⟩ := h
    rfl
  · obtain ⟨c, salt, m, sz, rfl, s0, s1, m0, m1, hz, q⟩ := h
    have nd := scNumbers.nd
    refine ⟨_, pss_cons (ps_set (i := 3) nd rfl (Or.inl rfl) (pe_callB (call_max2 rfl) (by rfl) B.max (by decide +kernel) (pa_cons (pe_callTy call_int1 (by rfl) B.int boot_int (pa_cons (pv 0) pa_nil)) (pa_cons (pe_callTy call_int1 (by rfl) B.int boot_int (pa_cons (pe_op op_sub (pe_un un_neg pe_int) (pv 0)) pa_nil)) pa_nil))))
      (pss_cons (ps_set (i := 4) nd rfl (Or.inl rfl) (pv 3))
      (pss_cons (ps_set (i := 5) nd rfl (Or.inl rfl) (pe_lst pa_nil))
      (pss_cons (ps_for PassesOwn.never rfl (pi_range1 (by rfl) B.range (pa_cons (pe_callB call_len_seq (by rfl) B.len PySem.boot_len (pa_cons (pv 2) pa_nil)) pa_nil)) (pg_name (i := 6) nd rfl (Or.inl rfl))
        (pss_one (ps_if (PW.pt (pw_and (pt_cmpR op_ge (pv 3) (pe_op op_pow pe_int pe_int) (nomark _)) (pw_and1 (pt_cmpR op_gt (pv 4) pe_int (nomark _)))))
          (pss_cons (ps_expr (pe_bm PySem.F.plainAttrs_list PySem.F.slot_list_append PySem.F.type_list_append mt_append (pv 5) (pa_cons (pe_op op_mod (pe_callTy call_int1 (by rfl) B.int boot_int (pa_cons (pv 4) pa_nil)) (pe_ix ix_list (pv 2) (pv 6) (fun _ _ => rfl))) pa_nil)))
          (pss_one (ps_set (i := 4) nd rfl (Or.inl rfl) (pe_op op_fdiv (pv 4) (pe_ix ix_list (pv 2) (pv 6) (fun _ _ => rfl))))))
          (pss_cons (ps_set (i := 7) nd rfl (Or.inl rfl) (pe_op op_pow (pe_op op_add (pe_op op_add (pe_op op_mod (pe_callTy call_int1 (by rfl) B.int boot_int (pa_cons (pv 3) pa_nil)) pe_int) (pe_op op_mul pe_int (pv 1))) pe_int) pe_int))
          (pss_cons (ps_set (i := 7) nd rfl (Or.inl rfl) (pe_op op_mul (pe_op op_add (pe_op op_mod (pe_callTy call_int1 (by rfl) B.int boot_int (pa_cons (pv 7) pa_nil)) pe_int) (pe_op op_mul pe_int (pe_op op_add (pv 6) pe_int))) (pe_op op_add (pv 6) pe_int)))
          (pss_cons (ps_set (i := 7) nd rfl (Or.inl rfl) (pe_op op_mod (pe_callTy call_int1 (by rfl) B.int boot_int (pa_cons (pv 7) pa_nil)) pe_int))
          (pss_cons (ps_set (i := 7) nd rfl (Or.inl rfl) (pe_op op_mul (pe_op op_mod (pe_callTy call_int1 (by rfl) B.int boot_int (pa_cons (pe_op op_pow (pv 7) pe_int) pa_nil)) pe_int) pe_int))
          (pss_cons (ps_set (i := 7) nd rfl (Or.inl rfl) (pe_op op_mod (pe_callTy call_int1 (by rfl) B.int boot_int (pa_cons (pv 7) pa_nil)) pe_int))
          (pss_one (ps_expr (pe_bm PySem.F.plainAttrs_list PySem.F.slot_list_append PySem.F.type_list_append mt_append (pv 5) (pa_cons (pe_op op_mod (pe_callTy call_int1 (by rfl) B.int boot_int (pa_cons (pe_op op_fdiv (pv 7) pe_int) pa_nil)) (pe_ix ix_list (pv 2) (pv 6) (fun _ _ => rfl))) pa_nil))))))))))))
      (pss_one (ps_ret (pv 5)))))), ?_⟩
    refine q_asg (ev_max (ev_int (ev_var rfl)) (ev_int (ev_op (ev_un ev_c ru_neg) (ev_var rfl) rv_I0))) fun H1 e1 => ?_
    generalize (if -1 - c > c then -1 - c else c) = wh
    refine q_asg (ev_var rfl) fun H2 e2 => ?_
    refine q_asgL (el_lst ea_nil (by decide)) fun r H3 hr3 e3 hl3 => ?_
    have hz3 : H3 sz = some (.lst (List.replicate m.toNat (.int 420))) := e3 _ _ (e2 _ _ (e1 _ _ hz))
    have fr : H r = none := fresh_back (e1.trans e2) hr3
    have up : Ex H H3 := e1.trans (e2.trans e3)
    refine q_forR1 (n := m) (ea_cons (fun H4 e4 Q4 q4 => ⟨_, rfl, sz, _, rfl, .inl (sq_of (e4 _ _ hz3)), by rw [List.length_replicate, show ((m.toNat : Nat) : Int) = m from by omega]; exact q4 H4 (Ex.refl _)⟩) ea_nil) (by omega)
      (fun i σ' H' => ∃ (l : Int) (ns : List Int) (k o : Option V), σ' = [some (.int c), some (.int salt), some (.ref sz), some (.int wh), some (.int l), some (.ref r), k, o] ∧ Ex H H' ∧ H' r = some (.lst (ns.map V.int)) ∧ ns.length = i ∧ ∀ n ∈ ns, 0 ≤ n)
      (fun H4 e4 => ⟨_, [], _, _, rfl, up.trans e4, e4 _ _ hl3, rfl, fun _ h => nomatch h⟩) ?turn ?after
    case after =>
      rintro σ' H' ⟨l, ns, k, o, rfl, ex, hl, hn, hp⟩
      exact ⟨_, rfl, q r H' ns ex hp (by omega) hl fr⟩
    case turn =>
      rintro i σ' H' hi ⟨l, ns, k, o, rfl, ex, hl, hn, hp⟩
      have hz' := ex _ _ hz
      have im : i < m.toNat := by omega
      have sizes : ∀ (σ2 : L2.St) (H4 : Hp), Ex H' H4 → σ2[2]? = some (some (.ref sz)) → σ2[6]? = some (some (V.int (i : Int))) → Ev (tOp (rIxL K) (tVar 2) (tVar 6)) σ2 H4 (.int 420) := fun σ2 H4 e h2 h6 => ev_op (ev_var h2) (ev_var h6) (rv_ixL (sq_of (e _ _ hz')) (at_rep im))
      have grow : ∀ {H4 : Hp} {n : Int}, Ex H' H4 → 0 ≤ n → Ex H (upd H4 r (.lst ((ns.map V.int) ++ [.int n]))) ∧ (upd H4 r (.lst ((ns.map V.int) ++ [.int n]))) r = some (.lst ((ns ++ [n]).map V.int)) ∧ (ns ++ [n]).length = i + 1 ∧ ∀ x ∈ ns ++ [n], 0 ≤ x := fun {H4 n} e h0 => by
        refine ⟨(ex.trans e).mut fr, by rw [upd_same, List.map_append]; rfl, by simp [hn], fun x hx => ?_⟩
        rcases List.mem_append.mp hx with hx | hx
        · exact hp x hx
        · rw [List.mem_singleton.mp hx]; exact h0
      refine s_if (et_and (et_test (ev_op (ev_var rfl) (ev_op ev_c ev_c (rv_I ⟨by decide, by decide, by decide⟩)) rv_I0)) fun _ => et_test (ev_op (ev_var rfl) ev_c rv_I0)) (fun _ H4 e4 => ?_) fun _ H4 e4 => ?_
      · refine q_app (e4 _ _ hl) (ev_var rfl) (ev_op (ev_int (ev_var rfl)) (sizes _ _ e4 rfl rfl) (rv_I (by decide))) (by rw [List.length_map]; omega) fun H5 e5 => ?_
        have g := grow (n := l % 420) (e4.trans e5) (Int.emod_nonneg _ (by decide))
        have hz5 : (upd H5 r (.lst ((ns.map V.int) ++ [.int (l % 420)]))) sz = some (.lst (List.replicate m.toNat (.int 420))) := g.1 _ _ hz
        refine s_asg (ev_op (ev_var rfl) (ev_op (ev_var rfl) (ev_var rfl) (rv_ixL (sq_of hz5) (at_rep im))) (rv_I ⟨by decide, by decide⟩)) fun H6 e6 => ?_
        exact ⟨_, _, _, _, rfl, g.1.trans e6, e6 _ _ g.2.1, g.2.2⟩
      · have w0 : 0 ≤ wh % 2147483629 := Int.emod_nonneg _ (by decide)
        have w1 : wh % 2147483629 < 2147483629 := Int.emod_lt_of_pos _ (by decide)
        refine q_asg (ev_op (ev_op (ev_op (ev_op (ev_int (ev_var rfl)) ev_c (rv_I (by decide))) (ev_op ev_c (ev_var rfl) (rv_I (.inl ⟨by decide, by decide⟩))) rv_I0) ev_c rv_I0) ev_c (rv_I ⟨by decide, by decide, by omega⟩)) fun H5 e5 => ?_
        generalize (wh % 2147483629 + 7919 * salt + 1) ^ (3 : Int).toNat = o1
        have a0 : 0 ≤ o1 % 2147483647 := Int.emod_nonneg _ (by decide)
        have a1 : o1 % 2147483647 < 2147483647 := Int.emod_lt_of_pos _ (by decide)
        refine q_asg (ev_op (ev_op (ev_op (ev_int (ev_var rfl)) ev_c (rv_I (by decide))) (ev_op ev_c (ev_op (ev_var rfl) ev_c rv_I0) (rv_I (.inl ⟨by decide, by decide⟩))) rv_I0) (ev_op (ev_var rfl) ev_c rv_I0) (rv_I (.inl ⟨by omega, by omega⟩))) fun H6 e6 => ?_
        generalize (o1 % 2147483647 + 104729 * ((i : Int) + 1)) * ((i : Int) + 3) = o2
        refine q_asg (ev_op (ev_int (ev_var rfl)) ev_c (rv_I (by decide))) fun H7 e7 => ?_
        have b0 : 0 ≤ o2 % 2147483629 := Int.emod_nonneg _ (by decide)
        have b1 : o2 % 2147483629 < 2147483629 := Int.emod_lt_of_pos _ (by decide)
        generalize o2 % 2147483629 = o3 at b0 b1 ⊢
        refine q_asg (ev_op (ev_op (ev_int (ev_op (ev_var rfl) ev_c (rv_I ⟨by decide, by decide, by omega⟩))) ev_c (rv_I (by decide))) ev_c (rv_I (.inr ⟨by decide, by decide⟩))) fun H8 e8 => ?_
        generalize o3 ^ (5 : Int).toNat % 2147483647 * 48271 = o4
        refine q_asg (ev_op (ev_int (ev_var rfl)) ev_c (rv_I (by decide))) fun H9 e9 => ?_
        generalize o4 % 2147483629 = o5
        have e49 : Ex H' H9 := e4.trans (e5.trans (e6.trans (e7.trans (e8.trans e9))))
        refine s_app (e49 _ _ hl) (ev_var rfl) (ev_op (ev_int (ev_op (ev_var rfl) ev_c (rv_I ⟨by decide, by decide⟩))) (sizes _ _ e49 rfl rfl) (rv_I (by decide))) (by rw [List.length_map]; omega) fun H10 e10 => ?_
        have g := grow (n := o5 / 16 % 420) (e49.trans e10) (Int.emod_nonneg _ (by decide))
        exact ⟨_, _, _, _, rfl, g.1, g.2.1, g.2.2⟩
/-! ### a pool is made, drawn from, picked by -/
def spPool (K : PySem.W.Frag) : Sp := fun vs H Q _ => ∃ c salt m : Int, vs = [.int c, .int salt, .int m] ∧ 0 ≤ salt ∧ salt ≤ 100 ∧ 0 ≤ m ∧ m ≤ 1000 ∧ ∀ x H', Ex H H' → PoolV K x H' → Q x H'
def spDraw (K : PySem.W.Frag) : Sp := fun vs H Q _ => ∃ (x : V) (m : Int), vs = [x, .int m] ∧ PoolV K x H ∧ 0 < m ∧ ∀ n H', 0 ≤ n → n < m → Ex H H' → Q (.int n) H'
def spPick (K : PySem.W.Frag) : Sp := fun vs H Q _ => ∃ (x : V) (l : Addr) (xs : List V), vs = [x, .ref l] ∧ PoolV K x H ∧ SqL K H l xs ∧ xs ≠ [] ∧ ∀ (v : V) (H' : Hp) (i : Nat), xs[i]? = some v → Ex H H' → Q v H'
theorem scPool : FnScope ["cell", "salt", "many"] ["cell", "salt", "many"] (defScope sPool) := ⟨rfl, rfl, rfl, by decide +kernel, rfl, by decide +kernel, by decide +kernel⟩
theorem ok_pool {f fN : Addr} {fd fdN : FuncData} (F : Fun K "_law_pool" "_law_pool" sPool f fd) (GN : FnOk P w K mg base CX0 1 fN fdN ["cell", "salt", "sizes"] spNumbers) (mN : mg "_law_numbers" = some (.ref fN)) (kN : PySem.W.keepIn K (.ref fN) = true) (bN : L2.Binds K fdN ["cell", "salt", "sizes"] []) :
    FnOk P w K mg base CX0 2 f fd ["cell", "salt", "many"] (spPool K) := by
  refine F.ok scPool (fun vs H Q E h => ?_) (fun cdv A outer s H vs Q E hr h => ?_)
  · obtain ⟨c, salt, m, rfl, _⟩ := h
    rfl
  · obtain ⟨c, salt, m, rfl, s0, s1, m0, m1, q⟩ := h
    refine ⟨_, pss_one (ps_ret (pe_recast (pe_lst (pa_cons (pe_call GN hr (by rfl) mN kN bN .nil pass0 (pa_cons (pv 0) (pa_cons (pv 1) (pa_cons (pe_op op_rep (pe_lst (pa_cons pe_int pa_nil)) (pv 2)) pa_nil)))) (pa_cons pe_int pa_nil))))), ?_⟩
    refine ⟨_, rfl, _, rfl, by decide, fun l hl => ⟨_, rfl, l, m, _, rfl, rfl, upd_same, by omega, by omega, by show 1 * m.toNat ≤ sizeLine; rw [Nat.one_mul]; exact sz_of (by omega), fun z hz => ?_⟩⟩
    refine ⟨c, salt, m, z, rfl, s0, s1, m0, m1, by rw [upd_same]; simp, fun p H' ns ex hp hn hl2 hf => ?_⟩
    refine ⟨by show 2 ≤ sizeLine; decide, fun r hr2 => ⟨r, p, 0, rfl, by decide, upd_same, ?_⟩⟩
    have up0 : Ex H H' := (Ex.new hl).trans ((Ex.new hz).trans ex)
    have eq2 : upd (upd H' r (.lst [.ref p, .int 0])) r (poolO r p) = upd H' r (poolO r p) := upd_upd
    have np : p ≠ r := ne_of_none hl2 hr2
    refine q (.ref r) _ (by rw [eq2]; exact up0.trans (Ex.new hr2)) ⟨r, p, rfl, by rw [eq2]; exact upd_same, ns, hp, hn, by rw [eq2, upd_ne np]; exact hl2⟩
theorem scDraw : FnScope ["pool", "many", "at"] ["pool", "many"] (defScope sDraw) := ⟨rfl, rfl, rfl, by decide +kernel, rfl, by decide +kernel, by decide +kernel⟩
theorem ok_draw {f : Addr} {fd : FuncData} (F : Fun K "_law_draw" "_law_draw" sDraw f fd) (B : Bt mg) : FnOk P w K mg base CX0 1 f fd ["pool", "many"] (spDraw K) := by
  refine F.ok scDraw (fun vs H Q E h => ?_) (fun cdv A outer s H vs Q E hr h => ?_)
  · obtain ⟨x, m, rfl, _⟩ := h
    rfl
  · obtain ⟨x, m, rfl, ⟨p, a, rfl, hp, ns, hn, hl, ha⟩, m0, q⟩ := h
    refine ⟨_, pss_cons (ps_set (i := 2) scDraw.nd rfl (Or.inl rfl) (pe_ix ix_pool (pv 0) pe_int (fun _ _ => rfl)))
      (pss_cons (ps_asg (pe_op op_add (pv 2) pe_int) (pg_sub (pv 0) pe_int set_pool))
      (pss_one (ps_ret (pe_ifExp (pt_cmpR op_lt (pv 2) (pe_callB call_len_seq (by rfl) B.len PySem.boot_len (pa_cons (pe_ix ix_pool (pv 0) pe_int (fun _ _ => rfl)) pa_nil)) (nomark _))
        (pe_op op_mod (pe_callTy call_int1 (by rfl) B.int boot_int (pa_cons (pe_ix ix_list (pe_ix ix_pool (pv 0) pe_int (fun _ _ => rfl)) (pv 2) (fun _ _ => rfl)) pa_nil)) (pv 1)) pe_int)))), ?_⟩
    refine ⟨_, rfl, p, a, rfl, hp, .inr ⟨rfl, fun i i0 => ?_⟩⟩
    refine ⟨_, rfl, _, _, rfl, rfl, _, rfl, p, a, i + 1, rfl, rfl, rfl, by omega, hp, ?_⟩
    refine ⟨_, rfl, _, rfl, p, a, rfl, hp, .inl ⟨rfl, a, _, rfl, .inl (sq_of ha), ?_⟩⟩
    refine ⟨_, _, rfl, rfl, _, rfl, ?_⟩
    refine ite2 (fun c => ?_) fun _ => q 0 H (by decide) m0 (Ex.refl _)
    have c' : i < ((ns.map V.int).length : Int) := of_decide_eq_true c
    obtain ⟨j, rfl⟩ : ∃ j : Nat, i = (j : Int) := ⟨i.toNat, by omega⟩
    have jl : j < ns.length := by rw [List.length_map] at c'; omega
    refine ⟨_, rfl, p, a, rfl, hp, .inl ⟨rfl, _, rfl, a, ns.map V.int, (j : Int), V.int (ns[j]), rfl, rfl, sq_of ha, ?_, .inl ⟨_, rfl, _, rfl, _, _, rfl, rfl, m0, q _ H (Int.emod_nonneg _ (by omega)) (Int.emod_lt_of_pos _ m0) (Ex.refl _)⟩⟩⟩
    unfold atI
    rw [ixN_nat (by rw [List.length_map]; exact jl)]
    simp [jl]
theorem scPick : FnScope ["pool", "some"] ["pool", "some"] (defScope sPick) := ⟨rfl, rfl, rfl, by decide +kernel, rfl, by decide +kernel, by decide +kernel⟩
theorem ok_pick {f fD : Addr} {fd fdD : FuncData} (F : Fun K "_law_pick" "_law_pick" sPick f fd) (B : Bt mg) (GD : FnOk P w K mg base CX0 1 fD fdD ["pool", "many"] (spDraw K)) (mD : mg "_law_draw" = some (.ref fD)) (kD : PySem.W.keepIn K (.ref fD) = true) (bD : L2.Binds K fdD ["pool", "many"] []) :
    FnOk P w K mg base CX0 2 f fd ["pool", "some"] (spPick K) := by
  refine F.ok scPick (fun vs H Q E h => ?_) (fun cdv A outer s H vs Q E hr h => ?_)
  · obtain ⟨x, l, xs, rfl, _⟩ := h
    rfl
  · obtain ⟨x, l, xs, rfl, hp, hl, ne, q⟩ := h
    refine ⟨_, pss_one (ps_ret (pe_ix ix_list (pv 1) (pe_call GD hr (by rfl) mD kD bD .nil pass0 (pa_cons (pv 0) (pa_cons (pe_callB call_len_seq (by rfl) B.len PySem.boot_len (pa_cons (pv 1) pa_nil)) pa_nil))) (fun _ _ => rfl))), ?_⟩
    have lp : 0 < xs.length := List.length_pos_iff.mpr ne
    refine ⟨_, rfl, _, rfl, _, rfl, l, xs, rfl, .inl hl, x, xs.length, rfl, hp, by omega, fun n H' n0 n1 ex => ?_⟩
    obtain ⟨j, rfl⟩ : ∃ j : Nat, n = (j : Int) := ⟨n.toNat, by omega⟩
    have jl : j < xs.length := by omega
    refine ⟨l, xs, (j : Int), xs[j], rfl, rfl, ex_l ex hl, ?_, q _ H' j (List.getElem?_eq_getElem jl) ex⟩
    unfold atI
    rw [ixN_nat jl]
    exact List.getElem?_eq_getElem jl
end
end Lw
set_option maxHeartbeats 4000000
/-! {k: v for target in iter if ..}: the keys are tuples. -/
namespace Dct
open PySem PySem.Spec PyProof.Rows L2 Evl Pd
section
variable {X : Cx} {pins : List (Addr × Obj)} {σ : L2.St} {H H' : Hp} {s : Shared}
/-- what a comprehension stores -/
theorem store_dict {E : Value → Shared → Prop} {a : Addr} {y v : V} {u r : Value} {Q : Unit → Shared → Prop} (hu : X.A.units + 1 < cLine) (I : Inv X pins σ H s) (g : DPut H a y v H') (ry : RelV y u) (rv : RelV v r)
    (h : ∀ s', Inv X pins σ H' s' → Q () s') : wpAny (model X.prog X.w) X.A (dictSet a u r) Q E s := by
  rcases g with ⟨kvs, k, e, ey, l, eH⟩ | ⟨kvs, k, b, e, ey, eb, l, eH⟩
  · subst ey eH
    exact d_dictSet I e l ry rv h
  · subst ey eH
    cases (show u = Value.ref b from ry)
    obtain ⟨z, hd, xs, rel, dd⟩ := dt_of I.hok e
    have small : xs.length ≤ sizeLine := by rw [← Paired.length rel]; exact z
    have grown : (putK kvs k v).length ≤ sizeLine := by have := length_putK kvs k v; omega
    refine wpAny_dictSet_heap (hsz := small) (show (tupleKind (mixKind X.prog X.w)).room X.A from Nat.lt_of_succ_lt hu) (key_of I.hok eb) dd fun h' dd' hs => h _ ?_
    obtain ⟨q, es, ep, hq, h2, h3, h4, _, h5⟩ := dd'
    refine d_write I (by rw [e]; exact True.intro) hs ⟨q, hq⟩ ⟨grown, hd, _, (rel.put k eb rv).keeps fun c ys ec => ?_, q, es, ep, hq, h2, h3, h4, h5⟩
    rw [upd_ne (ne_of ec e (fun z => nomatch z))]
    exact ec
end
/-- the reading: D the new dict, of the kind mk -/
def tDct (mk : HO) (wi : TI) (g : TG) (tt : TT) (tk tv : TE) (vs : List Nat) : TE := fun σ H Q => wi σ H fun J H1 => ∀ D, H1 D = none → ∃ W : Nat → Nat → Hp → Prop, (∃ m, W 0 m (upd H1 D mk)) ∧ ∀ i m H2, W i m H2 →
  (J.stop i H2 ∧ Q (.ref D) H2) ∨ (J.go i H2 ∧ ∃ Nx : Hp → Prop, (∀ H3, Nx H3 → ∃ m', m' < m ∧ W (i + 1) m' H3) ∧ ∀ x H3, J.yld i H2 x H3 → g x (wipe σ vs) H3 fun σ2 H4 => wipe σ2 vs = wipe σ vs ∧ tt σ2 H4 fun b H5 =>
    if b = true then tk σ2 H5 fun y H6 => tv σ2 H6 fun z H7 => ∃ H8, DPut H7 D y z H8 ∧ Nx H8 else Nx H5)
section
variable {X : Cx}
theorem pe_dct {mk : HO} {kx vx tg iter : Expr} {ifs : List Expr} {scope : Scope} {own : List (Str × Nat)} {pos : Pos} {wi : TI} {g : TG} {tt : TT} {tk tv : TE} (hu : X.A.units + 1 < cLine)
    (new : ∀ (P : Program) (w : World) (H : Hp) (h : Heap), sysModules < h.objs.size → ObjOk P w H (h.push { cls := .type "dict", data := .dict #[] }) h.objs.size mk)
    (hc : X.calm = true) (hN : X.N.Nodup) (hi : PI X tg iter wi) (ok : BlkOk X.N X.env.scope scope own)
    (hg : ∀ (s : Shared) (H : Hp) (C : Addr) (cl : List (Str × Addr)) (fp : List Addr), PG (X.blk s H scope (compEnvC scope cl C X.env) fp) tg g)
    (ht : ∀ (s : Shared) (H : Hp) (C : Addr) (cl : List (Str × Addr)) (fp : List Addr), PTs (X.blk s H scope (compEnvC scope cl C X.env) fp) ifs tt)
    (hk : ∀ (s : Shared) (H : Hp) (C : Addr) (cl : List (Str × Addr)) (fp : List Addr), PE (X.blk s H scope (compEnvC scope cl C X.env) fp) kx tk)
    (he : ∀ (s : Shared) (H : Hp) (C : Addr) (cl : List (Str × Addr)) (fp : List Addr), PE (X.blk s H scope (compEnvC scope cl C X.env) fp) vx tv) (hs : ∀ x, foldedSetIterable iter X.env x = pure x := by intro _; rfl) :
    PE X (.DictComp kx vx [⟨tg, iter, ifs, 0⟩] scope pos) (tDct mk wi g tt tk tv (own.map (·.2))) := by
  refine ⟨fun pins s σ H Q I h => ?_⟩
  rw [arm_eval_DictComp]
  have clo : ∀ y ∈ scope.names, y.2 = .free → ∃ c, X.env.cells.lookup y.1 = some c := fun y hy e => (ok.free y hy e).elim (fun k => I.ok.has _ (.inl k)) fun k => I.ok.has _ (.inr k)
  refine wpAny_comprehension_free rfl hs (closure_ok clo) ok.kind (fun y hy e => by rw [ok.uniq y hy, e]) (thn (hi.run pins s σ H _ I h) fun _ s1 hx => thn hx fun _ s2 ⟨it, fp, tn, J, Ha, e, I2, T, st2, f2, q⟩ => ?_)
  subst e
  refine wpAny_newObj_type (newEnv_comp ?_)
  -- D: the dict, laid at the heap's end; CL: the block's frame behind it
  obtain ⟨D, hD⟩ : ∃ D, D = s2.heap.objs.size := ⟨_, rfl⟩
  obtain ⟨s3, hs3⟩ : ∃ s3 : Shared, s3 = { s2 with heap := s2.heap.push { cls := .type "dict", data := .dict #[] } } := ⟨_, rfl⟩
  rw [← hs3, ← hD]
  have nD : Ha D = none := I2.hok.fresh (Nat.le_of_eq hD.symm)
  obtain ⟨W, ⟨m0, w0⟩, turn⟩ := q D nD
  have hp3 : s3.heap = s2.heap.push { cls := .type "dict", data := .dict #[] } := by rw [hs3]
  have kept3 : ∀ b o, s2.heap.get? b = some o → s3.heap.get? b = some o := fun b o z => by rw [hp3]; exact Heap.get?_push_of_some _ z
  have I3 : Inv X pins σ (upd Ha D mk) s3 := by
    have z := I2.laid (a := D) (o := mk) (t' := s2.toks) (h' := s2.heap.push { cls := .type "dict", data := .dict #[] }) (fun b o z => Heap.get?_push_of_some _ z) (Nat.le_of_eq hD.symm) (by rw [hD]; exact new _ _ _ _ I2.big)
    rw [hs3]
    exact z
  have low : ∀ b ∈ fp, b < s2.heap.objs.size := fun b hb => let ⟨_, z, _⟩ := T.obj _ _ st2 b hb; Heap.lt_size z
  have f3 : ∀ b ∈ fp, FpOk X pins (upd Ha D mk) b ∧ b < s3.heap.objs.size := fun b hb => by
    have l := low b hb
    have ne : b ≠ D := by rw [hD]; exact Nat.ne_of_lt l
    exact ⟨⟨by rw [upd_ne ne]; exact (f2 b hb).1, (f2 b hb).2⟩, by rw [hp3, Heap.size_push]; exact Nat.lt_succ_of_lt l⟩
  have st3 : tn 0 s3.heap := T.keep _ _ _ st2 fun b _ o z => kept3 b o z
  have I4 := block_start I3 ok hN f3
  show codeAny _ _ (.compStart (.DictComp kx vx [⟨tg, iter, ifs, 0⟩] scope pos) 0 (.ref it) (.ref D) (compEnvC scope (cellsFrom (s3.heap.objs.size + 1) scope.names (cloFrom X.env.cells scope.names [])) s3.heap.objs.size X.env)) _ _
  generalize hcl : cellsFrom (s3.heap.objs.size + 1) scope.names (cloFrom X.env.cells scope.names []) = cl at I4 ⊢
  have pg := hg s3 (upd Ha D mk) s3.heap.objs.size cl fp
  have pt := ht s3 (upd Ha D mk) s3.heap.objs.size cl fp
  have pk := hk s3 (upd Ha D mk) s3.heap.objs.size cl fp
  have pe := he s3 (upd Ha D mk) s3.heap.objs.size cl fp
  have nfp : ∀ b ∈ fp, (upd Ha D mk) b = none := fun b hb => (f3 b hb).1.1
  have cL : (compEnvC scope cl s3.heap.objs.size X.env).locals = s3.heap.objs.size := rfl
  generalize compEnvC scope cl s3.heap.objs.size X.env = ce at I4 pg pt pk pe cL ⊢
  generalize hHb : upd Ha D mk = Hb at I3 I4 pg pt pk pe w0 nfp f3
  generalize hs4 : ({ s3 with heap := pushCells (s3.heap.push { cls := .type "dict", data := .dict #[] }) scope.names } : Shared) = s4 at I4 ⊢
  have st4 : tn 0 s4.heap := T.keep _ _ _ st3 fun b _ o z => by rw [← hs4]; exact pushCells_keeps _ _ _ _ (Heap.get?_push_of_some _ z)
  have stat : ∀ {σ' : L2.St} {H' : Hp} {s' : Shared}, Inv (X.blk s3 Hb scope ce fp) [] σ' H' s' → (∀ b ∈ fp, H' b = none) → ∀ b ∈ fp, FpOk (X.blk s3 Hb scope ce fp) [] H' b := fun {σ' H' s'} J' hn b hb =>
    ⟨hn b hb, (J'.ok.exf b hb).1, J'.ok.exfs b hb, .inl hb, fun x c z => (J'.ok.exf b hb).2 x c z, fun p hp => absurd (show p ∈ ([] : List (Addr × Obj)) ++ [] from hp) (by simp)⟩
  refine codeAny_compStart_dict ?loop (T.self X.A 0 _ _ _ st4 ?loop)
  refine compLoop_anyD (fun n s' => ∃ i H', Inv (X.blk s3 Hb scope ce fp) [] (wipe σ (own.map (·.2))) H' s' ∧ tn i s'.heap ∧ (∀ b ∈ fp, H' b = none) ∧ W i n H') (fun n s5 ⟨i, H5, I5, st5, n5, w5⟩ => ?_) m0 ⟨0, Hb, I4, st4, nfp, w0⟩
  rcases turn i n H5 w5 with ⟨stop, qq⟩ | ⟨go, Nx, hNx, step⟩
  · refine thnF (T.done (X.blk s3 Hb scope ce fp) rfl rfl rfl hc i [] s5 _ H5 (fun _ _ => False) I5 (stat I5 n5) st5 stop) fun r s6 ⟨hr, I6⟩ => ?_
    subst hr
    have I7 : Inv X pins σ H5 s6 := I3.call' (ch := fp) I6.os I6.base I6.hok I6.bare fun b hb => ⟨(f3 b hb).1.2.2.2.1, (f3 b hb).1.2.1, (f3 b hb).1.2.2.2.2.1, (f3 b hb).1.2.2.2.2.2⟩
    have nC : H5 s3.heap.objs.size = none := by
      have z : H5 ce.locals = none := I6.free
      rw [cL] at z
      exact z
    obtain ⟨m, hn, _⟩ := I6.loc
    have hn' : s6.heap.Ns s3.heap.objs.size m := by
      have z : s6.heap.Ns ce.locals m := hn
      rw [cL] at z
      exact z
    obtain ⟨g0, g1, g2, g3, g4, g5⟩ := I3.fpOk (b := s3.heap.objs.size) (H' := H5) (Nat.le_refl _) nC
    exact ⟨m, hn', fun h9 sb => ⟨.ref D, H5, I7.turned (t' := s6.toks) (fun b o hb z => (sb.2 b hb).trans z) g0 g1 g3 g4 g5, rfl, qq⟩⟩
  · refine thnF (T.item (X.blk s3 Hb scope ce fp) rfl rfl rfl hc i [] s5 _ H5 (fun _ _ => False) I5 (stat I5 n5) st5 go) fun r s6 ⟨u, hr, h6⟩ => ?_
    subst hr
    refine thnF h6 fun _ s7 ⟨x, H7, I7, r7, y7, st7, n7⟩ => ?_
    have I7' := I7.pinned (stat I7 n7) (T.obj _ _ st7)
    refine thnF (pg.run _ s7 _ H7 x u _ I7' r7 (step x H7 y7)) fun _ s8 ⟨σ8, H8, I8, hw8, q8⟩ => ?_
    refine thnF (pt.run _ s8 σ8 H8 _ I8 q8) fun b s9 ⟨H9, I9, q9⟩ => ?_
    have fin : ∀ {s' : Shared} {H' : Hp}, Inv (X.blk s3 Hb scope ce fp) ([] ++ pinsAt fp s7.heap) σ8 H' s' → Nx H' → ∃ m, m < n ∧ ∃ i H', Inv (X.blk s3 Hb scope ce fp) [] (wipe σ (own.map (·.2))) H' s' ∧ tn i s'.heap ∧ (∀ b ∈ fp, H' b = none) ∧ W i m H' := fun {s' H'} J' nx => by
      obtain ⟨m', hm, w'⟩ := hNx H' nx
      have still : ∀ b ∈ fp, ∀ o, s7.heap.get? b = some o → s'.heap.get? b = some o ∧ H' b = none := fun b hb o z =>
        let y := J'.pin (b, o) (List.mem_append_right _ (List.mem_append_right _ (mem_pinsAt hb z)))
        ⟨y.1, y.2.1⟩
      have len : (wipe σ (own.map (·.2))).length = σ8.length := by rw [← hw8, wipe_length]
      refine ⟨m', hm, i + 1, H', (J'.unpinned (pins := [])).weak len (fun j v z => ?_), T.keep _ _ _ st7 fun b hb o z => (still b hb o z).1, fun b hb => ?_, w'⟩
      · rw [← hw8] at z
        exact (wipe_some z).1
      · obtain ⟨o, z, _⟩ := T.obj _ _ st7 b hb
        exact (still b hb o z).2
    cases b with
    | false =>
      simp only [Bool.false_eq_true, if_false] at q9 ⊢
      exact fin I9 q9
    | true =>
      simp only [if_true] at q9 ⊢
      refine thnF (pk.run _ s9 σ8 H9 _ I9 q9) fun _ s10 ⟨yk, H10, I10, r10, q10⟩ => thnF (pe.run _ s10 σ8 H10 _ I10 q10) fun _ s11 ⟨yv, H11, I11, r11, H12, put, nx⟩ => ?_
      exact store_dict (X := X.blk s3 Hb scope ce fp) hu I11 put r10 r11 fun s12 I12 => fin I12 nx
end
end Dct
set_option maxHeartbeats 4000000
/-! == of two dicts whose keys are tuples and whose values are all True. -/
namespace EqT
open PySem PySem.W PySem.Calls PyProof.Rows PySem.Spec
section
variable {prog : Program} {w : World} {K : Type} [DecidableEq K] {knd : HeapKind prog w K} {A : Around} {E : Value → Shared → Prop} {s : Shared}
/-- each key of the one is a key of the other -/
def allIn (xs ys : List (K × Addr × Value)) : Bool := xs.all fun x => (atKey ys x.1).isSome
theorem same_pairs {nm : String} {a b : Addr} {xs ys : List (K × Addr × Value)} {Q : Bool → Shared → Prop} (ha : (a == sysModules) = false) (hb : (b == sysModules) = false) (hu : knd.room A) (da : s.heap.DictOfH knd a xs) (db : s.heap.DictOfH knd b ys)
    (ta : ∀ x ∈ xs, x.2.2 = .bool true) (tb : ∀ y ∈ ys, y.2.2 = .bool true) (h : Q (xs.length == ys.length && allIn xs ys) s) : wpAny (model prog w) A (Builtin.Dict.samePairs nm a b) Q E s := by
  obtain ⟨oa, es, ep, hoa, _, hda, hea, hka, _⟩ := id da
  obtain ⟨ob, fs, fp, hob, _, hdb, heb, hkb, ndb⟩ := id db
  have la : es.size = xs.length := size_of_entries hea
  have lb : fs.size = ys.length := size_of_entries heb
  unfold Builtin.Dict.samePairs Builtin.Dict.showsAll
  rw [if_neg (show ¬ (a == sysModules) = true by rw [ha]; exact Bool.false_ne_true), if_neg (show ¬ (b == sysModules) = true by rw [hb]; exact Bool.false_ne_true)]
  refine wpAny_bind (wpAny_pure (wpAny_bind (wpAny_pure (wpAny_bind (wpAny_dictEntries hoa hda ?_)))))
  dsimp only
  refine wpAny_bind (wpAny_dictEntries hob hdb ?_)
  rw [← la, ← lb] at h
  by_cases sz : es.size = fs.size
  case neg =>
    rw [if_pos (by simpa using sz)]
    have no : (es.size == fs.size) = false := by simpa using sz
    rw [no, Bool.false_and] at h
    exact wpAny_bind (wpAny_rule (wpAny_pure h))
  case pos =>
    have h1 : Q (allIn xs ys) s := by simpa [sz] using h
    rw [if_neg (by rw [sz]; simp)]
    refine wpAny_bind (wpAny_dictEpoch hoa hda (wpAny_bind ?_))
    rw [Std.Legacy.Range.forIn_eq_forIn_range']
    simp only [Std.Legacy.Range.size, Nat.sub_zero, Nat.add_sub_cancel, Nat.div_one]
    refine wpAny_forIn_list _ (fun rest q s1 => s1 = s ∧ q = (none, ()) ∧ ∃ i, rest = List.range' i (es.size - i) ∧ i ≤ es.size ∧ allIn xs ys = allIn (xs.drop i) ys) _ ?turn ?done _ _ ⟨rfl, rfl, 0, by simp, Nat.zero_le _, by simp⟩
    case done =>
      rintro q s1 ⟨rfl, rfl, i, hr, hi, hp⟩
      have at_end : i = es.size := by
        rcases Nat.lt_or_ge i es.size with c | c
        · have e : es.size - i = (es.size - (i + 1)) + 1 := by omega
          rw [e, List.range'_succ] at hr
          exact nomatch hr
        · exact Nat.le_antisymm hi c
      refine wpAny_pure ?_
      rw [at_end, la, List.drop_length] at hp
      rw [hp] at h1
      exact h1
    case turn =>
      rintro j rest q s1 ⟨rfl, rfl, i, hr, hi, hp⟩
      have lt : i < es.size := by
        rcases Nat.lt_or_ge i es.size with c | c
        · exact c
        · rw [Nat.sub_eq_zero_of_le c] at hr
          simp at hr
      obtain ⟨rfl, hrest⟩ : j = i ∧ rest = List.range' (i + 1) (es.size - (i + 1)) := by
        have e : es.size - i = (es.size - (i + 1)) + 1 := by omega
        rw [e, List.range'_succ] at hr
        injection hr with r1 r2
        exact ⟨r1, r2⟩
      have ltx : j < xs.length := by rw [← la]; exact lt
      obtain ⟨k, q, v, hx⟩ : ∃ k q v, xs[j] = (k, q, v) := ⟨_, _, _, rfl⟩
      have mem : (k, q, v) ∈ xs := by rw [← hx]; exact List.getElem_mem ltx
      have hv : v = .bool true := ta _ mem
      subst hv
      have hkey : knd.is s1.heap k q := hka _ mem
      have ent : es[j]? = some ⟨knd.hash k, .ref q, .bool true⟩ := by
        rw [entry_at hea j, List.getElem?_eq_getElem ltx, hx]
        rfl
      have dr : xs.drop j = (k, q, .bool true) :: xs.drop (j + 1) := by rw [← hx]; exact List.drop_eq_getElem_cons ltx
      rw [dr] at hp
      refine wpAny_bind (wpAny_dictEntries hoa hda ?_)
      rw [ent]
      show wpAny _ _ (holding [Value.ref q, Value.bool true] _ >>= _) _ _ _
      refine wpAny_bind (wpAny_holding (wpAny_bind (wpAny_dictFind_heap hu hkey hob hdb heb hkb ndb (fun no => ?_) fun f y hf => ?_)))
      · have gone : atKey ys k = none := atKey_none_of_get no
        have r : allIn ((k, q, .bool true) :: xs.drop (j + 1)) ys = false := by simp [allIn, gone]
        rw [hp, r] at h1
        refine wpAny_pure ?_
        show wpAny _ _ (if (!false) = true then _ else _) _ _ _
        rw [if_pos (by decide)]
        exact wpAny_pure (wpAny_pure h1)
      · obtain ⟨q2, v2⟩ := y
        have here : atKey ys k = some (q2, v2) := atKey_of_get ndb hf
        have hv2 : v2 = .bool true := tb (k, q2, v2) (List.mem_of_getElem? hf)
        subst hv2
        have r : allIn ((k, q, .bool true) :: xs.drop (j + 1)) ys = allIn (xs.drop (j + 1)) ys := by simp [allIn, here]
        have ent2 : fs[f]? = some ⟨knd.hash k, .ref q2, .bool true⟩ := by
          rw [entry_at heb f, hf]
          rfl
        refine wpAny_bind (wpAny_dictEntries hob hdb ?_)
        rw [ent2]
        refine wpAny_holding ((SeqAt.EqAt.bool_bool true true) prog w _ _ ?_)
        show wpAny _ _ (if (!true) = true then _ else _) _ _ _
        rw [if_neg (by decide)]
        refine wpAny_bind (wpAny_dictEpoch hoa hda ?_)
        rw [if_neg (by simp)]
        exact wpAny_pure ⟨rfl, rfl, j + 1, hrest, lt, by rw [hp, r]⟩
theorem eq_dicts {a b : Addr} {xs ys : List (K × Addr × Value)} {Q : Value → Shared → Prop} (ha : (a == sysModules) = false) (hb : (b == sysModules) = false) (hA : A.units < cLine) (hu : knd.room A.in1) (da : s.heap.DictOfH knd a xs) (db : s.heap.DictOfH knd b ys)
    (ta : ∀ x ∈ xs, x.2.2 = .bool true) (tb : ∀ y ∈ ys, y.2.2 = .bool true) (h : Q (.bool (xs.length == ys.length && allIn xs ys)) s) : wpAny (model prog w) A (richCompare .Eq (.ref a) (.ref b)) Q E s := by
  refine wpAny_richCompare_same_room (op := .Eq) da.typeIs db.typeIs PySem.F.slot_dict_eq (wpAny_call_entry PySem.F.slot_dict_eq da.typeIs PySem.F.entry_dict_eq ?_ (PySem.F.args_dict_eq_2 _ _)) hA
  show wpAny _ _ (Builtin.Dict.dictSlotArgs "__eq__" ⟨[.ref a, .ref b], []⟩ >>= _) _ _ s
  refine wpAny_bind ?_
  unfold Builtin.Dict.dictSlotArgs
  refine wpAny_bind (wpAny_notOrdered_dict da.typeIs ?_)
  show wpAny _ _ (pure (Value.ref a, Value.ref b)) _ _ s
  refine wpAny_pure (wpAny_bind (wpAny_isInstance (T := "dict") db.typeIs PySem.F.sub_dict_dict ?_))
  simp only [Bool.not_true, Bool.false_eq_true, if_false]
  refine wpAny_bind (wpAny_pure (wpAny_bind (wpAny_pure (wpAny_bind (same_pairs ha hb hu da db ta tb ?_)))))
  exact wpAny_pure ⟨_, rfl, (fun x => nomatch x), by simpa using h⟩
theorem allIn_keys (xs ys : List (K × Addr × Value)) : allIn xs ys = (xs.map (·.1)).all fun k => (ys.map (·.1)).any fun j => decide (j = k) := by
  unfold allIn atKey
  rw [List.all_map]
  congr 1
  funext x
  simp only [Function.comp, List.any_map, Option.isSome_map, List.find?_isSome]
  rw [Bool.eq_iff_iff]
  simp [List.any_eq_true]
end
open L2 Evl Pd
/-- the reading: two dicts of tuple keys, all values True -/
def rEqT : R2 := fun x y H Q => ∃ (a b : Addr) (ks ls : List (List Key)), x = .ref a ∧ y = .ref b ∧ H a = some (.dT (ks.map fun k => (k, V.bl true))) ∧ H b = some (.dT (ls.map fun k => (k, V.bl true))) ∧
  Q (.bl (ks.length == ls.length && ks.all fun k => ls.any fun j => decide (j = k))) H
theorem keys_of {H : Hp} {kvs : List (List Key × V)} {xs : List (List Key × Addr × Value)} (r : KT H kvs xs) : kvs.map (·.1) = xs.map (·.1) := by
  unfold KT at r
  induction r with
  | nil => rfl
  | cons h _ ih => rw [List.map_cons, List.map_cons, ih, h.1]
theorem vals_true {H : Hp} {ks : List (List Key)} {xs : List (List Key × Addr × Value)} (r : KT H (ks.map fun k => (k, V.bl true)) xs) : ∀ x ∈ xs, x.2.2 = .bool true := by
  unfold KT at r
  induction ks generalizing xs with
  | nil => cases r; exact fun _ h => nomatch h
  | cons k ks ih =>
    cases r with
    | cons h t =>
      intro x hx
      rcases List.mem_cons.mp hx with rfl | hx
      · exact h.2.2
      · exact ih t x hx
theorem op_eqT {X : Cx} (hu : X.A.units + 1 < cLine) : OpR X (compareOp .Eq) rEqT := by
  intro pins s σ H x y v u Q I rx ry h
  obtain ⟨a, b, ks, ls, rfl, rfl, ea, eb, q⟩ := h
  obtain rfl : v = Value.ref a := rx
  obtain rfl : u = Value.ref b := ry
  obtain ⟨_, ha, xs, ra, da⟩ := dt_of I.hok ea
  obtain ⟨_, hb, ys, rb, db⟩ := dt_of I.hok eb
  have ka : xs.map (·.1) = ks := (keys_of ra).symm.trans (by rw [List.map_map]; exact List.map_id' ks)
  have kb : ys.map (·.1) = ls := (keys_of rb).symm.trans (by rw [List.map_map]; exact List.map_id' ls)
  refine eq_dicts (knd := tupleKind (mixKind X.prog X.w)) ha hb (Nat.lt_of_succ_lt hu) (tupleKind_room_in1 hu) da db (vals_true ra) (vals_true rb) ?_
  rw [allIn_keys, ka, kb, ← List.length_map (f := fun x => x.1) (as := xs), ← List.length_map (f := fun x => x.1) (as := ys), ka, kb]
  exact ⟨.bl _, H, I, rfl, q⟩
end EqT
set_option maxHeartbeats 4000000
/-! Defs that are called where no repr is under way: what str(x) of a tuple needs to know. -/
namespace Gd
open PySem PySem.Spec PyProof.Rows L2 Evl Pd
structure FnG (P : Program) (w : World) (K : PySem.W.Frag) (mg : Str → Option Value) (base : Heap) (CX : CXT) (k : Nat) (f : Addr) (fd : FuncData) (ps : List Str) (sp : Sp) : Prop where
  len : ∀ vs H Q E, sp vs H Q E → vs.length = ps.length
  run : ∀ (A : Around) (outer : List Env) (s : Shared) (H : Hp) (args : Args) (us : List Value) (vs : List V) (Q : VK) (E : XK), Room k A → A.guards = some [] → Env0 P w K mg base A outer s H → BindsTo s fd args (ps.zip us) → Vals vs us → sp vs H Q E →
    codeAny (model P w) A (.call (.ref f) args) (CR CX outer P w H s Q E) s
section
variable {P : Program} {w : World} {K : PySem.W.Frag} {mg : Str → Option Value} {base : Heap} {CX : CXT} {k : Nat} {f : Addr} {fd : FuncData} {ps : List Str} {sp : Sp}
theorem FnG.of (F : FnOk P w K mg base CX k f fd ps sp) : FnG P w K mg base CX k f fd ps sp := ⟨F.len, fun A outer s H args us vs Q E hr _ => F.run A outer s H args us vs Q E hr⟩
theorem okG {x qual : Str} {st : Stmt} {N : List Str} (F : Fun K x qual st f fd) (S : FnScope N ps (defScope st)) (len : ∀ vs H Q E, sp vs H Q E → vs.length = ps.length)
    (body : ∀ (cdv : Value) (A : Around) (outer : List Env) (s : Shared) (H : Hp) (vs : List V) (Q : VK) (E : XK), Room k (A.deeper (envOfC qual (defScope st) s.heap.objs.size f cdv)) → (A.deeper (envOfC qual (defScope st) s.heap.objs.size f cdv)).guards = some [] → sp vs H Q E →
      ∃ t, PSs (cxOf CX0 P w K mg base N qual (defScope st) f cdv A outer s H E).nox (defBody st) t ∧ t { nx := fun _ H' => Q .non H', rt := Q } (start N vs) H) : FnG P w K mg base CX0 (k + 1) f fd ps sp := by
  obtain ⟨oc, od, kV, doc, pm, an, cdv, ct, osl, rfl, lk, hcd⟩ := F.ex
  refine ⟨len, fun A outer s H args us vs Q E hr hg e0 hb r hsp => ?_⟩
  have hl := len _ _ _ _ hsp
  have KX : K.In s.heap := e0.mod.kin.keeps fun b o e => (e0.bs b o e).1
  have lim : s.heap.NoLimit := e0.mod.nolimit.keeps fun b o e => (e0.bs b o e).1
  have kinds : ∀ y ∈ ps.zip us, (defScope st).names.lookup y.1 = some .local ∨ ((defScope st).names.lookup y.1 = some .cell ∧ ((cellsFrom (s.heap.objs.size + 1) (defScope st).names []).lookup y.1).isSome = true) := fun ⟨n, v⟩ hy =>
    (S.par n (List.of_mem_zip hy).1).imp id fun q => ⟨q, PySem.W.cellsFrom_some _ _ _ (.inl q)⟩
  refine codeAny_call_function hr.depth (KX _ _ lk) rfl S.co S.gen rfl (PySem.W.codeRec_of KX hcd) (hb _ _ _ _ (wpAny_newFunctionEnv_cells S.kind kinds fun env he s1 x => ?_))
  subst he
  refine ⟨lim.keeps x.toInCall.keep, codeAny_func ?_⟩
  obtain ⟨t, ht, hq⟩ := body cdv A outer s H vs Q E (hr.deeper _) hg hsp
  have I : Inv (cxOf CX0 P w K mg base N qual (defScope st) f cdv A outer s H E) [] (start N vs) H s1 := inv_start S hr.hd e0 hl r x
  refine wpAny_mono (ht.nox.run [] s1 (start N vs) H _ I hq) (fun fl s' hs => ?_) fun e s' hs => hs
  have fin : ∀ {σ' : L2.St} {H' : Hp} {v : V} {u : Value}, Inv (cxOf CX0 P w K mg base N qual (defScope st) f cdv A outer s H E) [] σ' H' s' → RelV v u → Q v H' → CE outer P w H s Q u s' := fun {σ' H' v u} J rv q => ⟨v, H', J.os, J.bare, J.base, J.hok, rv, q⟩
  cases fl with
  | ret u =>
    obtain ⟨v, σ', H', J, rv, q⟩ := hs
    exact fin J rv q
  | next =>
    obtain ⟨σ', H', J, q⟩ := hs
    exact fin (v := V.non) (u := Value.none) J rfl q
  | brk =>
    obtain ⟨_, _, _, q⟩ := hs
    exact False.elim q
  | cont =>
    obtain ⟨_, _, _, q⟩ := hs
    exact False.elim q
end
section
variable {X : Cx} {CX : CXT} {k : Nat} {f C : Addr} {fd : FuncData} {ps : List Str} {sp : Sp} {E : XK} {x m : Str} {p pos apos : Pos} {e o : Expr} {es : List Expr} {ta : TE} {t : TA}
theorem run_fnG {pins : List (Addr × Obj)} {σ : L2.St} {H : Hp} {s : Shared} {Q : VK} {us : List Value} {vs : List V} (F : FnG X.prog X.w X.K X.mg X.base CX k f fd ps sp) (hr : Room k X.A) (hg : X.A.guards = some []) (hb : L2.Binds X.K fd ps []) (hx : Passes CX X E)
    (I : Inv X pins σ H s) (r : Vals vs us) (h : sp vs H Q E) : wpAny (model X.prog X.w) X.A (call (.ref f) us) (EP X pins σ Q) X.xe s := by
  have hl : (us ++ []).length = ps.length := by rw [List.append_nil, ← Vals.length r]; exact F.len _ _ _ _ h
  have b := hb s us I.kIn hl
  rw [List.append_nil] at b
  refine wpAny_call (codeAny_mono (F.run X.A X.stack s H ⟨us, []⟩ us vs Q E hr hg I.env0 b r h) fun r s' hq => ?_)
  cases r with
  | error e => exact hx pins σ H s e s' I hq
  | ok fl =>
    cases fl with
    | ret u => exact I.after hq
    | next => exact hq.elim
    | brk => exact hq.elim
    | cont => exact hq.elim
theorem pe_callG (F : FnG X.prog X.w X.K X.mg X.base CX k f fd ps sp) (hr : Room k X.A) (hu : X.A.guards = some []) (hg : Gl X x) (hm : X.mg x = some (.ref f)) (hk : PySem.W.keepIn X.K (.ref f) = true) (hb : L2.Binds X.K fd ps []) (hx : Passes CX X E) (ha : PA X (e :: es) t)
    (hdb : (x == ("__debug__" : Str)) = false := by decide) (he : starEach (e :: es) X.env = (false, eval e X.env) :: starEach es X.env := by rfl) (hpl : (backTo pos (starEach es X.env)).any (·.1) = false := by rfl) : PE X (.Call (.Name x p) (e :: es) [] pos) (tCall sp [] E t) := by
  refine ⟨fun pins s σ H Q I h => ?_⟩
  refine wpAny_Call_Name_kw (ld_glob I hg hm ?_ hdb)
  refine PySem.W.callWith_K (h₀ := X.base) I.ok.mod.kin hk (thn (ha.run pos pins s σ H _ I h) fun us s1 ⟨vs, H1, I1, r, q⟩ => ⟨I1.kIn, ?_⟩) he hpl
  have q' : sp (vs ++ []) H1 Q E := q
  rw [List.append_nil] at q'
  exact run_fnG F hr hu hb hx I1 r q'
theorem pe_meth0G {pl : Sem Bool} (he : PE X o ta) (c : Cls X.K C) (hm : Meth X.K C m f) (F : FnG X.prog X.w X.K X.mg X.base CX k f fd ps sp) (hr : Room k X.A) (hg : X.A.guards = some []) (hb : L2.Binds X.K fd ps []) (hx : Passes CX X E)
    (ht : eval (.Call (.Attribute o m apos) [] [] pos) X.env = (do
      let ov ← eval o X.env
      standAt apos.atName
      let (f, first) ← holding [ov] (getMethod ov m pl)
      callWith pos f first (backTo pos (starEach [] X.env)) (backToKw pos (keywordEach [] X.env))) := by rfl) : PE X (.Call (.Attribute o m apos) [] [] pos) (tMeth C m sp [] E ta tNil) := by
  refine ⟨fun pins s σ H Q I h => ?_⟩
  refine PySem.W.methodCall_KW (pl := pl) (thn (he.run pins s σ H _ I h) fun u s1 ⟨y, H1, I1, rx, a, dx, fs, ex, ea, l, q⟩ => ?_) ht
  subst ex
  obtain rfl : u = Value.ref a := rx
  refine getmeth_ok I1 ea c hm l ?_
  exact PySem.W.callWith_K0 (first := [.ref a]) I1.kIn hm.kp (run_fnG (us := [.ref a]) (vs := [.ref a]) F hr hg hb hx I1 (.cons rfl .nil) q)
end
/-! ### the law's own call -/
section
variable {P : Program} {w : World} {K : PySem.W.Frag} {mg mb : Str → Option Value} {k : Nat} {fa a : Addr} {fd : FuncData} {x : Str} {sp : Sp} {s1 : Shared} {vs : List Value} {ns : List Int}
/-- one abstract heap in which at most the script is told -/
theorem law_in (KX : K.In s1.heap) (hns : s1.heap.Ns mainGlobals mg) (hb : s1.heap.Ns builtinsNs mb) (hbb : ∀ x : Str, x ≠ "__name__" → mb x = bootBuiltins x) (lim : s1.heap.NoLimit) (hg : s1.gens = #[]) (ha : s1.heap.get? a = some { cls := .type "list", data := .seq vs.toArray })
    (hr : Room k callerA) (F : ∀ base : Heap, K.In base → base.Ns mainGlobals mg → FnG P w K mg base CX0 k fa fd [x] sp) (hbind : ∀ (s : Shared) (u : Value), BindsTo s fd ⟨[u], []⟩ [(x, u)])
    {H : Hp} (hO : Only H) (hok : HOk P w H s1.heap) (hA : ∀ b, H b ≠ none → b = a) (hK : H a ≠ none → K.lookup a = none) (hsp : sp [.ref a] H (fun v _ => v = .bl true) fun _ _ _ => False) :
    codeAny (model P w) callerA (.call (.ref fa) ⟨[.ref a], []⟩) (fun r s' => r = .ok (.ret (.bool true)) ∧ OldK s1.heap s'.heap ∧ s'.os = s1.os ∧ AllBare s'.gens) s1 := by
  have free : ∀ {b : Addr} {o : Obj} {es : Array DictEntry} {ep : Nat}, s1.heap.get? b = some o → o.data = .dict es ep → H b = none := fun {b o es ep} e d => by
    cases q : H b with
    | none => rfl
    | some u =>
      have eb : b = a := hA b (by rw [q]; simp)
      rw [eb, ha] at e
      cases e
      exact nomatch (show Data.seq vs.toArray _ = Data.dict es ep from d)
  have nsK : ∀ {b : Addr} {m : Str → Option Value}, s1.heap.Ns b m → (hidT s1.heap H).Ns b m := fun {b m} ⟨o, es, ep, e, d, r⟩ => ⟨o, es, ep, hidT_get e (free e d), d, r⟩
  have KB : K.In (hidT s1.heap H) := fun b o e => hidT_get (KX b o e) (by
    cases q : H b with
    | none => rfl
    | some u =>
      have eb : b = a := hA b (by rw [q]; simp)
      subst eb
      rw [hK (by rw [q]; simp)] at e
      cases e)
  have M : Mod K mg (hidT s1.heap H) := ⟨KB, nsK hns, ⟨mb, nsK hb, hbb⟩, let ⟨mc, h1, h2⟩ := lim; ⟨mc, nsK h1, h2⟩⟩
  have e0 : Env0 P w K mg (hidT s1.heap H) callerA [] s1 H := ⟨rfl, M, fun b o e => of_hidT e, Nat.le_of_eq (hidT_size _ _), trivial, fun b hb => absurd (show b ∈ ([] : List Addr) from hb) (by simp), hok, .of_eq hg⟩
  refine codeAny_mono ((F _ KB (nsK hns)).run callerA [] s1 H ⟨[.ref a], []⟩ [.ref a] [.ref a] _ _ hr rfl e0 (hbind s1 (.ref a)) (.cons rfl .nil) hsp) fun r s' h => ?_
  cases r with
  | error e => exact h.elim
  | ok fl =>
    cases fl with
    | next => exact h.elim
    | brk => exact h.elim
    | cont => exact h.elim
    | ret u =>
      obtain ⟨v, H', os, bare, un, hok', rv, q⟩ := h
      have ev : v = .bl true := q
      subst ev
      obtain rfl : u = Value.bool true := rv
      refine ⟨rfl, OldK.of_keep fun b o e => ?_, os, bare⟩
      cases q : H b with
      | none => exact un.keep b o e q (by intro z; exact absurd (show b ∈ ([] : List Addr) from z) (by simp)) (by simp)
      | some u =>
        rcases hO b with z | ⟨ob, xs, z⟩
        · rw [q] at z
          cases z
        · obtain ⟨e1, _⟩ := hok b _ z
          obtain ⟨e2, _⟩ := hok' b _ (un.frzs b ob _ z)
          rw [e] at e1
          cases e1
          exact e2
theorem law_callG (KX : K.In s1.heap) (hns : s1.heap.Ns mainGlobals mg) (hb : s1.heap.Ns builtinsNs mb) (hbb : ∀ x : Str, x ≠ "__name__" → mb x = bootBuiltins x) (lim : s1.heap.NoLimit) (hg : s1.gens = #[]) (ha : s1.heap.get? a = some { cls := .type "list", data := .seq vs.toArray })
    (hi : IntsAre vs ns) (hl : ns.length ≤ sizeLine) (hr : Room k callerA) (F : ∀ base : Heap, K.In base → base.Ns mainGlobals mg → FnG P w K mg base CX0 k fa fd [x] sp) (hbind : ∀ (s : Shared) (u : Value), BindsTo s fd ⟨[u], []⟩ [(x, u)])
    (hsp : ∀ H : Hp, Only H → SqL K H a (ns.map V.int) → sp [.ref a] H (fun v _ => v = .bl true) fun _ _ _ => False) :
    codeAny (model P w) callerA (.call (.ref fa) ⟨[.ref a], []⟩) (fun r s' => r = .ok (.ret (.bool true)) ∧ OldK s1.heap s'.heap ∧ s'.os = s1.os ∧ AllBare s'.gens) s1 := by
  have rv := vals_ints hi
  cases hk : K.lookup a with
  | some o =>
    have e := KX a o hk
    rw [ha] at e
    cases e
    have hS : SqL K (fun _ => none) a (ns.map V.int) := .inr ⟨_, vs.toArray, _, hk, rfl, rfl, rfl, by rw [List.size_toArray, hi.length]; exact hl, by simpa using rv⟩
    exact law_in KX hns hb hbb lim hg ha hr F hbind (H := fun _ => none) (fun _ => .inl rfl) (fun b u z => nomatch (show (none : Option HO) = some u from z)) (fun b z => absurd rfl z) (fun z => absurd rfl z) (hsp _ (fun _ => .inl rfl) hS)
  | none =>
    have at_a : ∀ {b : Addr}, b = a → (fun b => if b = a then some (HO.frz { cls := .type "list", data := .seq vs.toArray } (.lst (ns.map V.int))) else none) b = some (HO.frz { cls := .type "list", data := .seq vs.toArray } (.lst (ns.map V.int))) := fun {b} e => if_pos e
    have off : ∀ {b : Addr}, b ≠ a → (fun b => if b = a then some (HO.frz { cls := .type "list", data := .seq vs.toArray } (.lst (ns.map V.int))) else none) b = none := fun {b} e => if_neg e
    generalize (fun b => if b = a then some (HO.frz { cls := .type "list", data := .seq vs.toArray } (.lst (ns.map V.int))) else none) = H at at_a off
    have only : Only H := fun b => by
      by_cases e : b = a
      · exact .inr ⟨_, _, at_a e⟩
      · exact .inl (off e)
    refine law_in KX hns hb hbb lim hg ha hr F hbind only (fun b u z => ?_) (fun b z => ?_) (fun _ => hk) (hsp _ only (.inl (.inr ⟨_, at_a rfl⟩)))
    · by_cases e : b = a
      · subst e
        have z' := (at_a rfl).symm.trans z
        cases z'
        exact ⟨ha, by rw [List.length_map]; exact hl, vs, _, rv, ha⟩
      · rw [off e] at z
        cases z
    · by_cases e : b = a
      · exact e
      · exact absurd (off e) z
end
theorem walk_ofG {l : PySem.W.OpenLaw} {n k : Nat} {q : Program} {loose : List Str} {XP : (Str → Option Value) → Heap → Prop} {YP : World → Heap → Prop} {d : DefRec} {K : Params → PySem.W.Frag} {sp : World → Sp} {x : Str} (hn : l.most = some n) (hn2 : n ≤ sizeLine) (hdf : d.params.defaults = []) (hr : Room k callerA)
    (hY : ∀ (w : World) (h : Heap), YP w h → (K w.params).In h)
    (F : ∀ (w : World) (mg : Str → Option Value) (fa : Addr) (h : Heap), (K w.params).In h → h.Ns mainGlobals mg → mg d.name = some (.ref fa) →
      ∃ fd : FuncData, (∀ (s : Shared) (u : Value), BindsTo s fd ⟨[u], []⟩ [(x, u)]) ∧ ∀ base : Heap, (K w.params).In base → base.Ns mainGlobals mg → FnG l.prog w (K w.params) mg base CX0 k fa fd [x] (sp w))
    (hsp : ∀ (w : World) (H : Hp) (a : Addr) (ns : List Int), ns.length ≤ n → Only H → SqL (K w.params) H a (ns.map V.int) → sp w [.ref a] H (fun v _ => v = .bl true) fun _ _ _ => False) :
    PySem.W.WalkO q loose XP YP l.row.toRowW d [] (fun f vs => PySem.call f vs) := by
  refine Att.attach_call hn hdf fun w s0 s1 mg mb fa o pm cd doc a vs ns G Y ho hd hcd hmg hobj hints hlen hg => ?_
  have KX := hY w _ Y
  obtain ⟨fd, hb, hF⟩ := F w mg fa _ KX G.T.g hmg
  exact law_callG KX G.T.g G.T.b G.T.builtins G.T.nolimit hg hobj hints (Nat.le_trans hlen hn2) hr hF hb fun H hO hS => hsp w H a ns hlen hO hS
end Gd
set_option maxHeartbeats 4000000
/-! sorted(xs, key=str): xs a list of texts and tuples. -/
namespace Gd
open PySem PySem.Spec PyProof.Rows L2 Evl Pd
/-- str(x) -/
def txt : PyData → Str
  | .str s => s
  | d => d.shown
/-- what can be shown here: a text, or a tuple that is not too deep -/
def Showy (d : PyData) : Prop := (∃ s, d = .str s) ∨ ((∃ ds, d = .tuple ds) ∧ d.showable = true ∧ d.hasDict = false ∧ d.depth ≤ 40 ∧ d.shown.length ≤ sizeLine)
/-- by their texts, those that are alike in their order -/
def bySt (l : List (V × PyData)) : List (V × PyData) := l.mergeSort (PySem.W.dataLe false fun b : V × PyData => PyData.str (txt b.2))
def rSortS (K : PySem.W.Frag) : List V → List V → Hp → VK → Prop := fun vs zs H Q => ∃ (a : Addr) (xs : List V) (ds : List PyData), vs = [.ref a] ∧ zs = [.ty "str"] ∧ SqL K H a xs ∧ DpAll K H xs ds ∧ (∀ d ∈ ds, Showy d) ∧
  ∀ p, H p = none → Q (.ref p) (upd H p (.lst ((bySt (xs.zip ds)).map (·.1))))
theorem dpAll_len {K : PySem.W.Frag} {H : Hp} : ∀ {xs : List V} {ds : List PyData}, DpAll K H xs ds → xs.length = ds.length
  | _, _, .nil => rfl
  | _, _, .cons _ h => congrArg Nat.succ (dpAll_len h)
theorem each_of {K : PySem.W.Frag} {H : Hp} : ∀ {xs : List V} {ds : List PyData} {us : List Value}, DpAll K H xs ds → Vals xs us → PySem.W.EachIs (fun (v : Value) (b : V × PyData) => RelV b.1 v ∧ Dp K H b.1 b.2) us (xs.zip ds)
  | [], [], us, _, r => by cases r; exact .nil
  | x :: xs, d :: ds, us, .cons h t, r => by
    cases r with
    | cons a b => exact .cons ⟨a, h⟩ (each_of t b)
theorem vals_of {K : PySem.W.Frag} {H : Hp} : ∀ {us : List Value} {bs : List (V × PyData)}, PySem.W.EachIs (fun (v : Value) (b : V × PyData) => RelV b.1 v ∧ Dp K H b.1 b.2) us bs → Vals (bs.map (·.1)) us
  | _, _, .nil => .nil
  | _, _, .cons h t => .cons h.1 (vals_of t)
section
variable {X : Cx}
theorem cr_sortS (hg : X.A.guards = some []) (hu : X.A.units + 64 < cLine) : CallRK X (.builtin "sorted") [Str.ofString "key"] (rSortS X.K) := by
  intro pins s σ H xs zs us ws Q I r rz h
  obtain ⟨a, ys, ds, rfl, rfl, hS, hd, hs, q⟩ := h
  cases r with
  | cons ra rn =>
    cases rn
    cases ra
    cases rz with
    | cons rk rm =>
      cases rm
      cases rk
      obtain ⟨its, rv, pl, hl⟩ := I.list hS
      have ln : (ys.zip ds).length = ys.length := by rw [List.length_zip, dpAll_len hd, Nat.min_self]
      show wpAny _ _ (call (.builtin "sorted") [.ref a] [(Str.ofString "key", .type "str")]) _ _ _
      refine PySem.W.sorted_key_data (b := false) (fun b : V × PyData => PyData.str (txt b.2)) pl.isList (each_of hd rv) (PySem.W.AllAlike.of fun _ _ => by simp [PySem.W.alike]) (PySem.W.Sortable.others fun _ => ⟨(fun z => nomatch z), fun _ z => nomatch z⟩) (by rw [ln]; exact hl)
        (fun b _ => by have e : (PyData.str (txt b.2)).depth = 0 := by simp [PyData.depth]
                       rw [e]; omega) (ksk_s1 _ _) (fun _ => ksk_l1 _ _) (fun _ => rfl) (fun v b hb hm h tk kp => ?_) fun out c h' tk kp hn hD hl2 eo => ?_
      · obtain ⟨y, d⟩ := b
        obtain ⟨rb, hb⟩ := hb
        have hsd := hs d (List.of_mem_zip hm).2
        obtain ⟨as, rd⟩ := Dp.reads I d y v hb rb
        rcases hsd with ⟨t, rfl⟩ | ⟨⟨es, rfl⟩, s1, s2, s3, s4⟩
        · cases rd
          exact PySem.P.str_of_str ⟨h, tk, rfl, fun _ _ z => z, .str _ _⟩
        · cases rd with
          | tuple h1 h2 h3 h4 =>
            refine str_of_reads (.tuple h1 h2 h3 h4) s1 (PyData.noDict_hsm s2) hg (by show X.A.units + 1 + 1 + _ < cLine; omega) kp (fun h2 u tk2 k2 => ⟨h2, tk2, rfl, k2, .str _ _⟩) s4
      · have vo := vals_of eo
        have lo : ((bySt (ys.zip ds)).map (·.1)).length ≤ sizeLine := by
          unfold bySt
          rw [List.length_map, List.length_mergeSort, ln]
          exact hl
        have ok : ObjOk X.prog X.w (upd H (s.heap.objs.size + 1) (.lst ((bySt (ys.zip ds)).map (·.1)))) h' (s.heap.objs.size + 1) (.lst ((bySt (ys.zip ds)).map (·.1))) := ⟨lo, out, c, vo, hD⟩
        exact ⟨.ref (s.heap.objs.size + 1), _, I.laid (t' := tk) kp (Nat.le_succ _) ok, rfl, q _ (I.hok.fresh (Nat.le_succ _))⟩
end
end Gd
set_option maxHeartbeats 4000000
/-! A def of the top that may be called: its promise with all that a call asks. Questions about data. -/
namespace Us
open PySem PySem.Spec PyProof.Rows L2 Evl Pd Gd
/-- a def of the top -/
structure Dn (K : PySem.W.Frag) (mg : Str → Option Value) (x : Str) (st : Stmt) : Prop where
  ex : ∃ f fd, mg x = some (.ref f) ∧ PySem.W.keepIn K (.ref f) = true ∧ Fun K x x st f fd
structure Use (P : Program) (w : World) (K : PySem.W.Frag) (mg : Str → Option Value) (base : Heap) (k : Nat) (x : Str) (ps : List Str) (sp : Sp) : Prop where
  ex : ∃ f fd, mg x = some (.ref f) ∧ PySem.W.keepIn K (.ref f) = true ∧ L2.Binds K fd ps [] ∧ FnOk P w K mg base CX0 k f fd ps sp
/-- a def that stands under another name -/
structure DnY (K : PySem.W.Frag) (mg : Str → Option Value) (x y : Str) (st : Stmt) : Prop where
  ex : ∃ f fd, mg x = some (.ref f) ∧ PySem.W.keepIn K (.ref f) = true ∧ Fun K y y st f fd
section
variable {P : Program} {w : World} {K : PySem.W.Frag} {mg : Str → Option Value} {base : Heap} {k : Nat} {x y : Str} {st : Stmt} {ps N : List Str} {sp : Sp}
theorem useY_of (D : DnY K mg x y st) (S : FnScope N ps (defScope st)) (hb : ∀ (f : Addr) (fd : FuncData), Fun K y y st f fd → L2.Binds K fd ps []) (len : ∀ vs H Q E, sp vs H Q E → vs.length = ps.length)
    (body : ∀ (f : Addr) (cdv : Value) (A : Around) (outer : List Env) (s : Shared) (H : Hp) (vs : List V) (Q : VK) (E : XK), Room k (A.deeper (envOfC y (defScope st) s.heap.objs.size f cdv)) → sp vs H Q E →
      ∃ t, PSs (cxOf CX0 P w K mg base N y (defScope st) f cdv A outer s H E).nox (defBody st) t ∧ t { nx := fun _ H' => Q .non H', rt := Q } (start N vs) H) : Use P w K mg base (k + 1) x ps sp := by
  obtain ⟨f, fd, g, kp, F⟩ := D.ex
  exact ⟨f, fd, g, kp, hb f fd F, F.ok S len (body f)⟩
theorem use_of (D : Dn K mg x st) (S : FnScope N ps (defScope st)) (hb : ∀ (f : Addr) (fd : FuncData), Fun K x x st f fd → L2.Binds K fd ps []) (len : ∀ vs H Q E, sp vs H Q E → vs.length = ps.length)
    (body : ∀ (f : Addr) (cdv : Value) (A : Around) (outer : List Env) (s : Shared) (H : Hp) (vs : List V) (Q : VK) (E : XK), Room k (A.deeper (envOfC x (defScope st) s.heap.objs.size f cdv)) → sp vs H Q E →
      ∃ t, PSs (cxOf CX0 P w K mg base N x (defScope st) f cdv A outer s H E).nox (defBody st) t ∧ t { nx := fun _ H' => Q .non H', rt := Q } (start N vs) H) : Use P w K mg base (k + 1) x ps sp := by
  obtain ⟨f, fd, g, kp, F⟩ := D.ex
  exact ⟨f, fd, g, kp, hb f fd F, F.ok S len (body f)⟩
end
section
variable {X : Cx} {k j : Nat} {x : Str} {ps : List Str} {sp : Sp} {p pos : Pos} {e : Expr} {es : List Expr} {t : TA}
theorem pe_use (U : Use X.prog X.w X.K X.mg X.base k x ps sp) (hr : Room j X.A) (hk : k ≤ j) (hg : Gl X x) (ha : PA X (e :: es) t)
    (hdb : (x == ("__debug__" : Str)) = false := by decide) (he : starEach (e :: es) X.env = (false, eval e X.env) :: starEach es X.env := by rfl) (hpl : (backTo pos (starEach es X.env)).any (·.1) = false := by rfl) :
    PE X (.Call (.Name x p) (e :: es) [] pos) (tCall sp [] (fun _ _ _ => False) t) := by
  obtain ⟨f, fd, m, kp, b, F⟩ := U.ex
  exact pe_call F (hr.mono hk) hg m kp b .nil pass0 ha hdb he hpl
theorem pe_isi {a : Expr} {ta : TE} {n : Str} {nm : String} {pn : Pos} (hg : Gl X "isinstance") (hm : X.mg "isinstance" = none) (hg2 : Gl X n) (hm2 : X.mg n = none) (hb : bootBuiltins n = some (.type nm)) (ha : PE X a ta)
    (h1 : starEach [a, .Name n pn] X.env = (false, eval a X.env) :: starEach [.Name n pn] X.env := by rfl)
    (hne : n ≠ "__name__" := by decide) (hd : (n == ("__debug__" : Str)) = false := by decide) : PE X (.Call (.Name "isinstance" p) [a, .Name n pn] [] pos) (tCB (rIsi X.K) (tCons ta (tCons (tC (.ty nm)) tNil))) :=
  pe_callB (he := h1) call_isi hg hm boot_isinstance (pa_cons (hs := h1) ha (pa_cons (pe_bltn hg2 hm2 hb rfl hne hd) pa_nil))
end
/-! ### questions about data -/
def isI : PyData → Bool
  | .int _ => true
  | _ => false
def isB : PyData → Bool
  | .bool _ => true
  | _ => false
def isS : PyData → Bool
  | .str _ => true
  | _ => false
def isL : PyData → Bool
  | .list _ => true
  | _ => false
def isT : PyData → Bool
  | .tuple _ => true
  | _ => false
def betw (lo hi : Int) : PyData → Bool
  | .int i => decide (lo ≤ i) && decide (i ≤ hi)
  | _ => false
def isRow (m : Int) : PyData → Bool
  | .tuple ds => decide ((ds.length : Int) = m)
  | _ => false
def isPair (lo hi : Int) : PyData → Bool
  | .tuple [a, b] => betw lo hi a && betw lo hi b
  | _ => false
theorem kit_int (d : PyData) : kitB (tyD d) "int" = some (isI d || isB d) := by cases d <;> kernel_rfl
theorem kit_bool (d : PyData) : kitB (tyD d) "bool" = some (isB d) := by cases d <;> kernel_rfl
theorem kit_str (d : PyData) : kitB (tyD d) "str" = some (isS d) := by cases d <;> kernel_rfl
theorem kit_list (d : PyData) : kitB (tyD d) "list" = some (isL d) := by cases d <;> kernel_rfl
theorem kit_tuple (d : PyData) : kitB (tyD d) "tuple" = some (isT d) := by cases d <;> kernel_rfl
end Us
set_option maxHeartbeats 4000000
namespace Chk
open PySem PySem.Spec PyProof.Rows L2 Evl Pd Gd Us
/-- one answer, True or False, and nothing that stood is touched -/
def spAsk (K : PySem.W.Frag) (n : Nat) (R : List V → Hp → Bool → Prop) : Sp := fun vs H Q _ => vs.length = n ∧ ∃ b, R vs H b ∧ ∀ H', Ex H H' → Q (.bl b) H'
structure Bc (mg : Str → Option Value) : Prop where
  isi : mg "isinstance" = none
  int : mg "int" = none
  bool : mg "bool" = none
  str : mg "str" = none
  list : mg "list" = none
  tuple : mg "tuple" = none
  len : mg "len" = none
  all : mg "all" = none
theorem boot_int : bootBuiltins "int" = some (.type "int") := by decide +kernel
theorem boot_bool : bootBuiltins "bool" = some (.type "bool") := by decide +kernel
theorem boot_str : bootBuiltins "str" = some (.type "str") := by decide +kernel
theorem boot_tuple : bootBuiltins "tuple" = some (.type "tuple") := by decide +kernel
theorem boot_list : bootBuiltins "list" = some (.type "list") := by decide +kernel
section
variable {σ : L2.St} {H : Hp} {te : TE} {K : PySem.W.Frag} {d : PyData}
/-- isinstance(x, T) by the answer -/
theorem ev_isi {n : String} {b : Bool} (k : kitB (tyD d) n = some b) (h : EvP te σ H (De K d)) : Ev (tCB (rIsi K) (tCons te (tCons (tC (.ty n)) tNil))) σ H (.bl b) := de_isi k h ev_c
theorem ev_ask {n : Nat} {R : List V → Hp → Bool → Prop} {b : Bool} {E : XK} {tr : TA} {Ps : List PV} (hn : Ps.length = n) (h : EvPs tr σ H Ps) (hr : ∀ xs H1, Ex H H1 → AllP Ps xs H1 → R xs H1 b) : Ev (tCall (spAsk K n R) [] E tr) σ H (.bl b) := fun H1 a Q q =>
  h H1 a _ fun xs H2 e ps => by
    rw [List.append_nil]
    exact ⟨ps.len.trans hn, b, hr xs H2 (a.trans e) ps, fun H3 e2 => q H3 (e.trans e2)⟩
end
def rInteger (K : PySem.W.Frag) : List V → Hp → Bool → Prop := fun vs H b => ∃ x d, vs = [x] ∧ Dp K H x d ∧ b = isI d
def rBetween (K : PySem.W.Frag) : List V → Hp → Bool → Prop := fun vs H b => ∃ x d lo hi, vs = [x, .int lo, .int hi] ∧ Dp K H x d ∧ b = betw lo hi d
def rOneOf (K : PySem.W.Frag) : List V → Hp → Bool → Prop := fun vs H b => ∃ x d p xs, vs = [x, .ref p] ∧ Dp K H x d ∧ SqT K H p xs ∧ xs.all flatV = true ∧ b = (isS d && inV x xs)
def rRow (K : PySem.W.Frag) : List V → Hp → Bool → Prop := fun vs H b => ∃ x d m, vs = [x, .int m] ∧ Dp K H x d ∧ b = isRow m d
def rPair (K : PySem.W.Frag) : List V → Hp → Bool → Prop := fun vs H b => ∃ x d lo hi, vs = [x, .int lo, .int hi] ∧ Dp K H x d ∧ b = isPair lo hi d
section
variable {σ : L2.St} {H : Hp} {te : TE} {K : PySem.W.Frag} {ds : List PyData} {d : PyData}
theorem dpAll_get {K : PySem.W.Frag} {H : Hp} : ∀ {xs : List V} {ds : List PyData} {i : Nat} {d : PyData}, DpAll K H xs ds → ds[i]? = some d → ∃ x, xs[i]? = some x ∧ Dp K H x d
  | _, _, 0, _, .cons h _, e => by cases e; exact ⟨_, rfl, h⟩
  | _, _, i + 1, _, .cons _ t, e => by
    obtain ⟨x, h1, h2⟩ := dpAll_get (i := i) t e
    exact ⟨x, h1, h2⟩
theorem atI_nat {xs : List V} {i : Nat} {x : V} (h : xs[i]? = some x) : atI xs (i : Int) = some x := by
  unfold atI
  rw [ixN_nat (List.getElem?_eq_some_iff.mp h).1]
  exact h
theorem ev_lenT (h : EvP te σ H (De K (.tuple ds))) : Ev (tCB (rLenS K) (tCons te tNil)) σ H (.int (ds.length : Int)) := fun H1 a Q q =>
  h H1 a _ fun x H2 e p => by
    cases p with
    | tup hS hd => exact ⟨_, _, rfl, .inr hS, by rw [dpAll_len hd]; exact q H2 e⟩
theorem ev_lenL (h : EvP te σ H (De K (.list ds))) : Ev (tCB (rLenS K) (tCons te tNil)) σ H (.int (ds.length : Int)) := fun H1 a Q q =>
  h H1 a _ fun x H2 e p => by
    cases p with
    | lst hS hd => exact ⟨_, _, rfl, .inl hS, by rw [dpAll_len hd]; exact q H2 e⟩
theorem p_ixT {i : Nat} {ti : TE} (h : EvP te σ H (De K (.tuple ds))) (hi : Ev ti σ H (.int (i : Int))) (e : ds[i]? = some d) : EvP (tOp (rIxT K) te ti) σ H (De K d) := fun H1 a Q q =>
  h H1 a _ fun x H2 e1 p => hi H2 (a.trans e1) _ fun H3 e2 => by
    cases p with
    | tup hS hd =>
      obtain ⟨y, h1, h2⟩ := dpAll_get hd e
      exact ⟨_, _, _, y, rfl, rfl, ex_t e2 hS, atI_nat h1, q y H3 (e1.trans e2) (dp_up e2 h2)⟩
theorem p_ixL {i : Nat} {ti : TE} (h : EvP te σ H (De K (.list ds))) (hi : Ev ti σ H (.int (i : Int))) (e : ds[i]? = some d) : EvP (tOp (rIxL K) te ti) σ H (De K d) := fun H1 a Q q =>
  h H1 a _ fun x H2 e1 p => hi H2 (a.trans e1) _ fun H3 e2 => by
    cases p with
    | lst hS hd =>
      obtain ⟨y, h1, h2⟩ := dpAll_get hd e
      exact ⟨_, _, _, y, rfl, rfl, ex_l e2 hS, atI_nat h1, q y H3 (e1.trans e2) (dp_up e2 h2)⟩
/-- a data that is an int is that int -/
theorem dp_int {x : V} {i : Int} (h : Dp K H x (.int i)) : x = .int i := by cases h; rfl
theorem dp_str {x : V} {s : Str} (h : Dp K H x (.str s)) : x = .str s := by cases h; rfl
theorem ev_chain {ta tb tc : TE} {i j k : Int} (h1 : Ev ta σ H (.int i)) (h2 : Ev tb σ H (.int j)) (h3 : Ev tc σ H (.int k)) :
    Ev (tChain (rI0 fun i j => .bl (decide (i ≤ j))) (rI0 fun i j => .bl (decide (i ≤ j))) ta tb tc) σ H (.bl (decide (i ≤ j) && decide (j ≤ k))) := fun H1 a Q q =>
  h1 H1 a _ fun H2 e2 => h2 H2 (a.trans e2) _ fun H3 e3 => ⟨i, j, rfl, rfl, _, rfl, by
    by_cases c : i ≤ j
    · rw [if_pos (decide_eq_true c)]
      exact h3 H3 (a.trans (e2.trans e3)) _ fun H4 e4 => ⟨j, k, rfl, rfl, by
        have := q H4 (e2.trans (e3.trans e4))
        rw [decide_eq_true c, Bool.true_and] at this
        exact this⟩
    · rw [if_neg (by simpa using c)]
      have := q H3 (e2.trans e3)
      rw [decide_eq_false c, Bool.false_and] at this
      exact this⟩
end
section
variable {P : Program} {w : World} {K : PySem.W.Frag} {mg : Str → Option Value} {base : Heap}
end
end Chk
set_option maxHeartbeats 4000000
namespace Chk
open PySem PySem.Spec PyProof.Rows L2 Evl Pd Gd Us
def twoD : PyData → Bool
  | .tuple [.int i, .int j] => !decide (i = j)
  | _ => false
def okCh (size : Int) (p : PyData) : Bool := isPair 0 (size - 1) p && twoD p
def okChs (size : Int) : PyData → Bool
  | .list ds => ds.all (okCh size)
  | _ => false
/-- a list in it is not long -/
def Short (d : PyData) : Prop := ∀ ds, d = .list ds → ds.length ≤ 30000
def rChanges (K : PySem.W.Frag) : List V → Hp → Bool → Prop := fun vs H b => ∃ x d n, vs = [x, .int n] ∧ Dp K H x d ∧ Short d ∧ b = okChs n d
section
variable {σ : L2.St} {H : Hp} {te : TE} {K : PySem.W.Frag}
theorem given_map (v : Nat → V) : ∀ {n : Nat}, given n (fun _ => true) v = (List.range n).map v
  | 0 => rfl
  | n + 1 => by rw [given_yes rfl, given_map v, List.range_succ, List.map_append]; rfl
/-- all(..) of a list of answers -/
theorem ev_all {bs : List Bool} (h : EvL te σ H (bs.map V.bl)) : Ev (tCB (rAll K) (tCons te tNil)) σ H (.bl (bs.all id)) := fun H1 a Q q =>
  h H1 a _ fun p H2 _ e hp => ⟨p, bs, rfl, sq_of hp, q H2 e⟩
end
section
variable {P : Program} {w : World} {K : PySem.W.Frag} {mg : Str → Option Value} {base : Heap}
theorem dpAll_at {H : Hp} : ∀ {xs : List V} {ds : List PyData} {i : Nat} {x : V}, DpAll K H xs ds → xs[i]? = some x → ∃ d, ds[i]? = some d ∧ Dp K H x d
  | _, _, 0, _, .cons h _, e => by cases e; exact ⟨_, rfl, h⟩
  | _, _, i + 1, _, .cons _ t, e => by
    obtain ⟨x, h1, h2⟩ := dpAll_at (i := i) t e
    exact ⟨x, h1, h2⟩
theorem range_all {α : Type} (f : α → Bool) (ds : List α) : ((List.range ds.length).map fun i => (ds[i]?.elim false f)).all id = ds.all f := by
  have : ((List.range ds.length).map fun i => (ds[i]?.elim false f)) = ds.map f := by
    refine List.ext_getElem (by simp) fun i h1 h2 => ?_
    have hi : i < ds.length := by simpa using h1
    simp [hi]
  rw [this, List.all_map]
  rfl
theorem isPair_ints {lo hi : Int} {d : PyData} (h : isPair lo hi d = true) : ∃ i j, d = .tuple [.int i, .int j] := by
  unfold isPair at h
  split at h
  · rw [Bool.and_eq_true] at h
    unfold betw at h
    split at h
    · have h2 := h.2
      split at h2
      · exact ⟨_, _, rfl⟩
      · cases h2
    · cases h.1
  · cases h
end
end Chk
set_option maxHeartbeats 4000000
namespace Chk
open PySem PySem.Spec PyProof.Rows L2 Evl Pd Gd Us
def inT (xs : List Str) : PyData → Bool
  | .str t => xs.any (fun y => y == t)
  | _ => false
/-- a tuple of texts that stands in the written part -/
def TxG (K : PySem.W.Frag) (mg : Str → Option Value) (x : Str) (xs : List Str) : Prop := ∃ p, mg x = some (.ref p) ∧ ∀ H, SqT K H p (xs.map V.str)
theorem inT_of {K : PySem.W.Frag} {H : Hp} {x : V} {d : PyData} {xs : List Str} (h : Dp K H x d) : (isS d && inV x (xs.map V.str)) = inT xs d := by
  cases h with
  | str t =>
    show (true && (xs.map V.str).any fun y => eqV y (.str t)) = xs.any fun y => y == t
    rw [Bool.true_and, List.any_map]
    rfl
  | _ => rfl
def sorts : List Str := ["size", "table", "room"]
def holds : List Str := ["sent", "answered", "open"]
def holdsT : List Str := ["sent", "answered"]
def isHold (s : Str) (d : PyData) : Bool := if s = ("table" : Str) then inT holdsT d else inT holds d
def rHold (K : PySem.W.Frag) : List V → Hp → Bool → Prop := fun vs H b => ∃ x d s, vs = [x, .str s] ∧ Dp K H x d ∧ b = isHold s d
/-- the parts of a setting -/
structure Pts where
  sort : PyData
  size : PyData
  start : PyData
  changes : PyData
  hold : PyData
def intOf : PyData → Int
  | .int i => i
  | _ => 0
def strOf : PyData → Str
  | .str s => s
  | _ => ""
/-- the first part that is not so -/
def wrong (p : Pts) : Option Str :=
  if !inT sorts p.sort then some "sort" else if !betw 2 4 p.size then some "size" else if !betw 0 (intOf p.size - 1) p.start then some "start"
  else if !okChs (intOf p.size) p.changes then some "changes" else if !isHold (strOf p.sort) p.hold then some "hold" else none
def strV : Option Str → V
  | none => .non
  | some s => .str s
def DpP (K : PySem.W.Frag) (H : Hp) (a b c d e : V) (p : Pts) : Prop := Dp K H a p.sort ∧ Dp K H b p.size ∧ Dp K H c p.start ∧ Dp K H d p.changes ∧ Dp K H e p.hold ∧ Short p.changes
def spWrong (K : PySem.W.Frag) : Sp := fun vs H Q _ => vs.length = 5 ∧ ∃ a b c d e p, vs = [a, b, c, d, e] ∧ DpP K H a b c d e p ∧ ∀ H', Ex H H' → Q (strV (wrong p)) H'
section
variable {P : Program} {w : World} {K : PySem.W.Frag} {mg : Str → Option Value} {base : Heap}
end
end Chk
set_option maxHeartbeats 4000000
/-! raise C(x), C an own error whose __init__ keeps its one argument. -/
namespace Err
open PySem PySem.Spec PyProof.Rows L2
section
variable {X : Cx} {C fI : Addr} {f x : Str} {a : Expr} {te : TE} {p pos : Pos}
/-- an error that flies: its own dict is laid, itself it is not told of -/
theorem Made.fly {pins : List (Addr × Obj)} {σ : L2.St} {H : Hp} {s : Shared} {h' : Heap} {t' : Nat} {e d : Addr} {v : V} {u : Value} {Q : XK} (I : Inv X pins σ H s) (M : Made s.heap h' e C d f u) (r : RelV v u) (R : Raises X (.ref C))
    (q : Q (.ref C) (some d) (upd H d (.xd [(f, v)]))) : MkP X pins σ Q (.ref e) { s with heap := h', toks := t' } := by
  obtain ⟨G, in_, out⟩ := restrict h' fun b => decide (b ≠ e)
  have same : ∀ {b : Addr}, b ≠ e → G.get? b = h'.get? b := fun {b} hb => in_ b (decide_eq_true hb)
  have gone : G.get? e = none := out e (by simp)
  have old : ∀ b o, s.heap.get? b = some o → G.get? b = some o := fun b o q => by
    rw [same (Nat.ne_of_lt (Nat.lt_of_lt_of_le (Heap.lt_size q) M.new))]
    exact M.keep b o q
  have J : Inv X pins σ (upd H d (.xd [(f, v)])) { s with heap := G, toks := t' } :=
    I.laid (t' := t') (a := d) (o := .xd [(f, v)]) (h' := G) old M.dbig ⟨_, M.ns.at fun o z => (same M.dne).trans z, fun g => one_field r f g⟩
  obtain ⟨t0, ho⟩ := M.obj
  refine ⟨e, raw C t0 (some d), _, { s with heap := G, toks := t' }, _, .ref C, some d, rfl, J, fun b o z => ?_, gone, ho, ⟨rfl, rfl⟩, rfl, rfl, ?_, rfl, I.bare, R, q⟩
  · by_cases hb : b = e
    · rw [hb, gone] at z
      cases z
    · exact (same hb).symm.trans z
  · rw [upd_ne (Ne.symm M.dne)]
    exact I.hok.fresh M.new
/-- the reading of C(x) that is raised -/
def tFly (C : Addr) (f : Str) (te : TE) : L2.St → Hp → XK → Prop := fun σ H Q => te σ H fun v H1 => ∀ d, H1 d = none → Q (.ref C) (some d) (upd H1 d (.xd [(f, v)]))
theorem pmk_err (T : ErrC X.K C fI f) (pf : Plain f) (hr : Room 1 X.A) (hm : X.mg x = some (.ref C)) (hg : Gl X x) (ha : PE X a te)
    (hb : ∀ (y : Addr) (u : Value) (qn : Str) (doc pm : Value) (an : Option Addr) (cdv ct : Value) (p1 p2 q1 q2 q3 q4 : Pos), bindArgs (PySem.W.fnOf "__init__" qn (iA f p1 p2) (iB f q1 q2 q3 q4) (iS f) .none .none doc pm an cdv ct) ⟨[.ref y, u], []⟩ = pure [(("self" : Str), Value.ref y), (f, u)])
    (hs : starEach [a] X.env = (false, eval a X.env) :: starEach [] X.env := by rfl) (hdb : (x == ("__debug__" : Str)) = false := by decide) (hpl : (backTo pos (starEach [] X.env)).any (·.1) = false := by rfl) :
    PMk X (.Call (.Name x p) [a] [] pos) (tFly C f te) := by
  intro pins s σ H Q I h
  refine wpAny_Call_Name_kw (ld_glob I hg hm ?_ hdb)
  refine PySem.W.callWith_K (h₀ := X.base) I.ok.mod.kin T.kC ?_ hs hpl
  rw [hs]
  show wpAny _ _ (spliced ((false, eval a X.env) :: backTo pos (starEach [] X.env))) _ _ s
  refine Calls.spliced_cons (thn (ha.run pins s σ H _ I h) fun u s1 ⟨v, H1, I1, r1, q1⟩ => ?_)
  refine Calls.spliced_nil ⟨I1.kIn, ?_⟩
  show wpAny _ _ (call (.ref C) [u]) _ _ _
  have lim := I1.nolimit
  have hd := hr.dp
  have fly : ∀ {h' : Heap} {t' : Nat} {e d : Addr}, Made s1.heap h' e C d f u → MkP X pins σ Q (.ref e) { s1 with heap := h', toks := t' } := fun {h' t' e d} M => M.fly I1 r1 (raises_own T.exC T.tyC) (q1 d (I1.hok.fresh M.dbig))
  exact wpAny_call (made_any T pf I1.kIn lim (by omega) (by show 1 ≤ sizeLine; rw [sizeLine_eq]; omega) (fun y => hb y u) fun h' t' e d M => fly M)
end
end Err
set_option maxHeartbeats 4000000
/-! Data whose lists and tuples were made in the run. {k: True for k in xs} over a list of pairs. -/
namespace Chk
open PySem PySem.Spec PyProof.Rows L2 Evl Pd Gd Us
mutual
inductive Dq (H : Hp) : V → PyData → Prop
  | non : Dq H .non .none
  | bl (b : Bool) : Dq H (.bl b) (.bool b)
  | int (i : Int) : Dq H (.int i) (.int i)
  | str (x : Str) : Dq H (.str x) (.str x)
  | lst {a : Addr} {xs : List V} {ds : List PyData} : xs.length ≤ 100000 → H a = some (.lst xs) → DqAll H xs ds → Dq H (.ref a) (.list ds)
  | tup {a : Addr} {xs : List V} {ds : List PyData} : H a = some (.tup xs) → DqAll H xs ds → Dq H (.ref a) (.tuple ds)
inductive DqAll (H : Hp) : List V → List PyData → Prop
  | nil : DqAll H [] []
  | cons {v : V} {vs : List V} {d : PyData} {ds : List PyData} : Dq H v d → DqAll H vs ds → DqAll H (v :: vs) (d :: ds)
end
mutual
theorem dq_up {H H' : Hp} (e : Ex H H') : ∀ {x : V} {d : PyData}, Dq H x d → Dq H' x d
  | _, _, .non => .non
  | _, _, .bl b => .bl b
  | _, _, .int i => .int i
  | _, _, .str x => .str x
  | _, _, .lst z h a => .lst z (e _ _ h) (dqAll_up e a)
  | _, _, .tup h a => .tup (e _ _ h) (dqAll_up e a)
theorem dqAll_up {H H' : Hp} (e : Ex H H') : ∀ {xs : List V} {ds : List PyData}, DqAll H xs ds → DqAll H' xs ds
  | _, _, .nil => .nil
  | _, _, .cons h a => .cons (dq_up e h) (dqAll_up e a)
end
mutual
theorem dq_dp {K : PySem.W.Frag} {H : Hp} : ∀ {x : V} {d : PyData}, Dq H x d → Dp K H x d
  | _, _, .non => .non
  | _, _, .bl b => .bl b
  | _, _, .int i => .int i
  | _, _, .str x => .str x
  | _, _, .lst _ h a => .lst (sq_of h) (dqAll_dp a)
  | _, _, .tup h a => .tup (st_of h) (dqAll_dp a)
theorem dqAll_dp {K : PySem.W.Frag} {H : Hp} : ∀ {xs : List V} {ds : List PyData}, DqAll H xs ds → DpAll K H xs ds
  | _, _, .nil => .nil
  | _, _, .cons h a => .cons (dq_dp h) (dqAll_dp a)
end
theorem dqAll_len {H : Hp} : ∀ {xs : List V} {ds : List PyData}, DqAll H xs ds → xs.length = ds.length
  | _, _, .nil => rfl
  | _, _, .cons _ h => congrArg Nat.succ (dqAll_len h)
theorem dqAll_at {H : Hp} : ∀ {xs : List V} {ds : List PyData} {i : Nat} {x : V}, DqAll H xs ds → xs[i]? = some x → ∃ d, ds[i]? = some d ∧ Dq H x d
  | _, _, 0, _, .cons h _, e => by cases e; exact ⟨_, rfl, h⟩
  | _, _, i + 1, _, .cons _ t, e => by
    obtain ⟨x, h1, h2⟩ := dqAll_at (i := i) t e
    exact ⟨x, h1, h2⟩
theorem dqAll_get {H : Hp} : ∀ {xs : List V} {ds : List PyData} {i : Nat} {d : PyData}, DqAll H xs ds → ds[i]? = some d → ∃ x, xs[i]? = some x ∧ Dq H x d
  | _, _, 0, _, .cons h _, e => by cases e; exact ⟨_, rfl, h⟩
  | _, _, i + 1, _, .cons _ t, e => by
    obtain ⟨x, h1, h2⟩ := dqAll_get (i := i) t e
    exact ⟨x, h1, h2⟩
def Qe (d : PyData) : PV := fun x H => Dq H x d
theorem mo_qe {d : PyData} : Mo (Qe d) := fun _ _ _ e h => dq_up e h
theorem mo_qes {ds : List PyData} : ∀ P ∈ ds.map Qe, Mo P := fun P hP => by
  obtain ⟨d, _, rfl⟩ := List.mem_map.mp hP
  exact mo_qe
theorem allP_qe {H : Hp} : ∀ {ds : List PyData} {xs : List V}, AllP (ds.map Qe) xs H → DqAll H xs ds
  | [], [], _ => .nil
  | d :: ds, x :: xs, h => .cons h.1 (allP_qe h.2)
section
variable {K : PySem.W.Frag} {σ : L2.St} {H : Hp} {te ta tb : TE} {tr : TA} {d e : PyData} {ds : List PyData}
theorem EvP.de (h : EvP te σ H (Qe d)) : EvP te σ H (De K d) := h.imp fun _ _ _ p => dq_dp p
theorem q_int {i : Int} : EvP (tC (.int i)) σ H (Qe (.int i)) := p_c.imp fun x _ _ hx => by rw [show x = _ from hx]; exact .int i
theorem q_str {s : Str} : EvP (tC (.str s)) σ H (Qe (.str s)) := p_c.imp fun x _ _ hx => by rw [show x = _ from hx]; exact .str s
theorem q_bl {b : Bool} : EvP (tC (.bl b)) σ H (Qe (.bool b)) := p_c.imp fun x _ _ hx => by rw [show x = _ from hx]; exact .bl b
theorem q_non : EvP (tC .non) σ H (Qe .none) := p_c.imp fun x _ _ hx => by rw [show x = _ from hx]; exact .non
theorem q_lst (h : EvPs tr σ H (ds.map Qe)) (hl : ds.length ≤ 100000 := by first | decide | simp) : EvP (tLst tr) σ H (Qe (.list ds)) :=
  (p_lst mo_qes h (by rw [List.length_map]; exact hl)).imp fun x H1 _ ⟨a, xs, h1, h2, h3⟩ => by
    have z := allP_qe h3
    rw [h1]; exact .lst (by rw [dqAll_len z]; exact hl) h2 z
theorem q_tup (h : EvPs tr σ H (ds.map Qe)) (hl : ds.length ≤ 100000 := by first | decide | simp) : EvP (tTup tr) σ H (Qe (.tuple ds)) :=
  (p_tup mo_qes h (by rw [List.length_map]; exact hl)).imp fun x H1 _ ⟨a, xs, h1, h2, h3⟩ => by rw [h1]; exact .tup h2 (allP_qe h3)
theorem q_var {i : Nat} {x : V} (h : σ[i]? = some (some x)) (hd : Dq H x d) : EvP (tVar i) σ H (Qe d) := p_var h mo_qe hd
end
/-! ### the dict of a list of pairs -/
/-- a new key goes to the end -/
def addK (ks : List (List Key)) (k : List Key) : List (List Key) := if (ks.any fun x => decide (x = k)) = true then ks else ks ++ [k]
def onceK (l : List (List Key)) : List (List Key) := l.foldl addK []
def trues (ks : List (List Key)) : List (List Key × V) := ks.map fun k => (k, V.bl true)
theorem put_true (ks : List (List Key)) (k : List Key) : putK (trues ks) k (.bl true) = trues (addK ks k) := by
  unfold putK addK trues
  rw [List.any_map]
  show (if (ks.any fun x => decide (x = k)) = true then _ else _) = _
  by_cases h : (ks.any fun x => decide (x = k)) = true
  · rw [if_pos h, if_pos h, List.map_map]
    refine List.map_congr_left fun x hx => ?_
    show (if x = k then (x, V.bl true) else (x, V.bl true)) = _
    split <;> rfl
  · rw [if_neg h, if_neg h, List.map_append]
    rfl
theorem once_len (l : List (List Key)) : (onceK l).length ≤ l.length := by
  have : ∀ (l acc : List (List Key)), (l.foldl addK acc).length ≤ acc.length + l.length := by
    intro l
    induction l with
    | nil => intro acc; exact Nat.le_refl _
    | cons k l ih =>
      intro acc
      refine Nat.le_trans (ih (addK acc k)) ?_
      have : (addK acc k).length ≤ acc.length + 1 := by
        unfold addK
        split <;> simp
      rw [List.length_cons]
      omega
  simpa [onceK] using this l []
theorem once_snoc (l : List (List Key)) (k : List Key) : onceK (l ++ [k]) = addK (onceK l) k := by
  unfold onceK
  rw [List.foldl_append]
  rfl
theorem ite1 {A B : Prop} (h : A) : if true = true then A else B := by
  rw [if_pos rfl]
  exact h
/-- the values are tuples of these keys -/
def KeyAll (H : Hp) (xs : List V) (ks : List (List Key)) : Prop := xs.length = ks.length ∧ ∀ (i : Nat) (x : V) (k : List Key), xs[i]? = some x → ks[i]? = some k → ∃ b, x = .ref b ∧ H b = some (.tup (k.map kV))
theorem p_dct {K : PySem.W.Frag} {σ : L2.St} {H : Hp} {tl : TE} {j : Nat} {vs : List Nat} {a : Addr} {xs : List V} {ks : List (List Key)} {Q : VK} (h : Ev tl σ H (.ref a)) (ha : H a = some (.lst xs)) (hx : KeyAll H xs ks) (hz : xs.length ≤ 40000)
    (hw : ∀ x, wipe ((wipe σ vs).set j (some x)) vs = wipe σ vs) (hv : ∀ x, ((wipe σ vs).set j (some x))[j]? = some (some x))
    (q : ∀ D H', H D = none → Ex H H' → H' D = some (.dT (trues (onceK ks))) → Q (.ref D) H') : Dct.tDct (.dT []) (iList K tl) (gName j) tYes (tVar j) (tC (.bl true)) vs σ H Q := by
  refine h H (Ex.refl H) _ fun H1 e1 => ⟨a, rfl, ⟨xs, sq_of (e1 _ _ ha)⟩, fun D hD => ?_⟩
  have fr : H D = none := fresh_back e1 hD
  refine ⟨fun i m H2 => m = xs.length - i ∧ i ≤ xs.length ∧ Ex H H2 ∧ H2 D = some (.dT (trues (onceK (ks.take i)))), ⟨xs.length, by simp, Nat.zero_le _, e1.trans (Ex.new hD), upd_same⟩, ?_⟩
  rintro i m H2 ⟨rfl, hi, ex, hd⟩
  have hl : SqL K H2 a xs := sq_of (ex _ _ ha)
  by_cases lt : i < xs.length
  · refine .inr ⟨⟨xs, xs[i], hl, by simp [lt]⟩, fun H3 => i + 1 ≤ xs.length ∧ Ex H H3 ∧ H3 D = some (.dT (trues (onceK (ks.take (i + 1))))), fun H3 n => ⟨xs.length - (i + 1), by omega, rfl, n⟩, fun x H3 y => ?_⟩
    obtain ⟨rfl, y⟩ := y
    have at_ : xs[i]? = some x := y xs hl
    have lk : i < ks.length := by rw [← hx.1]; exact lt
    obtain ⟨b, rfl, hb⟩ := hx.2 i x ks[i] at_ (List.getElem?_eq_getElem lk)
    refine ⟨hw (.ref b), ?_⟩
    unfold tYes
    simp only [if_true]
    refine ⟨_, hv (.ref b), ?_⟩
    have grow : ks.take (i + 1) = ks.take i ++ [ks[i]] := by rw [List.take_append_getElem lk]
    have short : (trues (onceK (ks.take i))).length < sizeLine := by
      have := once_len (ks.take i)
      rw [List.length_take] at this
      have : (onceK (ks.take i)).length ≤ 40000 := by have := hx.1; omega
      show ((onceK (ks.take i)).map _).length < sizeLine
      rw [List.length_map]
      exact sz_lt (by omega)
    refine ⟨_, DPut.t hd (ex _ _ hb) short, lt, ex.mut fr, ?_⟩
    rw [upd_same, put_true, grow, once_snoc]
  · have e : i = xs.length := by omega
    refine .inl ⟨⟨xs, hl, by omega⟩, q D H2 fr ex ?_⟩
    rw [hd, e, hx.1, List.take_length]
end Chk
set_option maxHeartbeats 4000000
namespace Chk
open PySem PySem.Spec PyProof.Rows L2 Evl Pd Gd Us
/-- what a setting holds -/
structure Stg where
  kind : Str
  size : Int
  start : Int
  ks : List (List Key)
  hold : Str
def keyOf : PyData → List Key
  | .tuple [.int i, .int j] => [.inl i, .inl j]
  | _ => []
def keysOf : PyData → List (List Key)
  | .list ds => ds.map keyOf
  | _ => []
def settingOf (p : Pts) : Stg := ⟨strOf p.sort, intOf p.size, intOf p.start, onceK (keysOf p.changes), strOf p.hold⟩
structure SetAt (C : Addr) (g : Stg) (a : Addr) (H : Hp) : Prop where
  ex : ∃ dx d fs, H a = some (.ins C dx fs) ∧ H d = some (.dT (trues g.ks)) ∧ fs.lookup ("_kind" : Str) = some (V.str g.kind) ∧ fs.lookup ("_size" : Str) = some (V.int g.size) ∧ fs.lookup ("_start" : Str) = some (V.int g.start) ∧ fs.lookup ("_changes" : Str) = some (V.ref d) ∧ fs.lookup ("_hold" : Str) = some (V.str g.hold) ∧ fs.lookup ("changes" : Str) = none ∧ fs.lookup ("lets" : Str) = none
def SetV (C : Addr) (g : Stg) : PV := fun x H => ∃ a, x = .ref a ∧ SetAt C g a H
theorem mo_set {C : Addr} {g : Stg} : Mo (SetV C g) := fun _ _ _ e ⟨a, h, dx, d, fs, h1, h2, h3⟩ => ⟨a, h, dx, d, fs, e _ _ h1, e _ _ h2, h3⟩
structure DqP (H : Hp) (a b c d e : V) (p : Pts) : Prop where
  sort : Dq H a p.sort
  size : Dq H b p.size
  start : Dq H c p.start
  changes : Dq H d p.changes
  hold : Dq H e p.hold
  short : Short p.changes
/-- what is right -/
theorem right_of {p : Pts} (h : wrong p = none) : inT sorts p.sort = true ∧ betw 2 4 p.size = true ∧ betw 0 (intOf p.size - 1) p.start = true ∧ okChs (intOf p.size) p.changes = true ∧ isHold (strOf p.sort) p.hold = true := by
  unfold wrong at h
  split at h
  · cases h
  split at h
  · cases h
  split at h
  · cases h
  split at h
  · cases h
  split at h
  · cases h
  rename_i h1 h2 h3 h4 h5
  exact ⟨by simpa using h1, by simpa using h2, by simpa using h3, by simpa using h4, by simpa using h5⟩
theorem inT_str {xs : List Str} {d : PyData} (h : inT xs d = true) : d = .str (strOf d) := by
  unfold inT at h
  split at h
  · rfl
  · cases h
theorem betw_int {lo hi : Int} {d : PyData} (h : betw lo hi d = true) : d = .int (intOf d) := by
  unfold betw at h
  split at h
  · rfl
  · cases h
theorem hold_str {s : Str} {d : PyData} (h : isHold s d = true) : d = .str (strOf d) := by
  unfold isHold at h
  split at h
  · exact inT_str h
  · exact inT_str h
theorem ch_list {n : Int} {d : PyData} (h : okChs n d = true) : ∃ ds, d = .list ds ∧ ∀ e ∈ ds, okCh n e = true := by
  unfold okChs at h
  split at h
  · exact ⟨_, rfl, fun e he => (List.all_eq_true.mp h) e he⟩
  · cases h
theorem key_tup {H : Hp} {x : V} {n : Int} {e : PyData} (h : Dq H x e) (ok : okCh n e = true) : ∃ b, x = .ref b ∧ H b = some (.tup ((keyOf e).map kV)) := by
  unfold okCh at ok
  rw [Bool.and_eq_true] at ok
  obtain ⟨i, j, rfl⟩ := isPair_ints ok.1
  cases h with
  | tup h a =>
    cases a with
    | cons h1 a =>
      cases a with
      | cons h2 a =>
        cases a
        cases h1
        cases h2
        exact ⟨_, rfl, h⟩
theorem keyAll_of {H : Hp} {xs : List V} {ds : List PyData} {n : Int} (h : DqAll H xs ds) (ok : ∀ e ∈ ds, okCh n e = true) : KeyAll H xs (ds.map keyOf) := by
  refine ⟨by rw [dqAll_len h, List.length_map], fun i x k hx hk => ?_⟩
  obtain ⟨e, he, hd⟩ := dqAll_at h hx
  rw [List.getElem?_map, he] at hk
  cases hk
  exact key_tup hd (ok e (List.mem_of_getElem? he))
theorem putF_len (f : Str) (v : V) : ∀ fs : List (Str × V), (putF f v fs).length ≤ fs.length + 1
  | [] => Nat.le_refl _
  | (g, x) :: r => by
    unfold putF
    split
    · simp
    · have := putF_len f v r
      simp only [List.length_cons]
      omega
structure ClsS (K : PySem.W.Frag) (C : Addr) : Prop where
  cl : Cls K C
  kind : NoAttr K C "_kind"
  size : NoAttr K C "_size"
  start : NoAttr K C "_start"
  changes : NoAttr K C "_changes"
  hold : NoAttr K C "_hold"
def spInit (C CB : Addr) : Sp := fun vs H Q E => vs.length = 6 ∧ ∃ (a dx : Addr) (x1 x2 x3 x4 x5 : V) (p : Pts), vs = [.ref a, x1, x2, x3, x4, x5] ∧ H a = some (.ins C dx []) ∧ DqP H x1 x2 x3 x4 x5 p ∧
  (∀ t, wrong p = some t → ∀ d H', Ex H H' → H' d = none → E (.ref CB) (some d) (upd H' d (.xd [("part", V.str t)]))) ∧
  (wrong p = none → ∀ H', (∀ b o, b ≠ a → H b = some o → H' b = some o) → SetAt C (settingOf p) a H' → Q .non H')
theorem pf_part : Err.Plain "part" := ⟨by decide +kernel, by decide +kernel⟩
section
variable {P : Program} {w : World} {K : PySem.W.Frag} {mg : Str → Option Value} {base : Heap}
end
end Chk
set_option maxHeartbeats 4000000
/-! a == b and a != b of an own class that has __eq__ alone, both answers. -/
namespace OwnNe
open PySem PySem.W PySem.Calls PyProof.Rows
section
variable {prog : Program} {w : World} {A : Around} {E : Value → Shared → Prop} {s : Shared} {K : Frag} {x C L f : Addr} {h₀ : Heap} {m : Str → Option Value} {ox : Obj} {od : Option Obj} {name : Str} {b tb : Value} {B id : String}
theorem bound_slot {M : Model} {args : List Value} {Q : Option Value → Shared → Prop} (X : K.In s.heap) (I : InstAt s.heap x ox C od) (hs : findIn K (.ref C) name = some (some (.builtin id))) (S : Slot B name id)
    (h : wpAny M A (call (.builtin id) (.ref x :: args)) (fun v => Q (some v)) E s) : wpAny M A (callSpecialIfBound? (.ref x) name args) Q E s := by
  simp only [callSpecialIfBound?, bindSpecialIfBound?]
  refine wpAny_holding (wpAny_bind (wpAny_bind (wpAny_bind (I.type.here ((looks_findIn X hs).here ?_)))))
  simp only [S.bind]
  refine wpAny_bind (wpAny_askSetting (wpAny_ite ?_))
  have last : wpAny M A (call (.builtin id) ([.ref x] ++ args) >>= fun v => pure (some v)) Q E s := wpAny_bind (wpAny_mono h (fun v s' h' => wpAny_pure h') fun _ _ e => e)
  split
  · exact wpAny_bind (wpAny_pure (wpAny_pure last))
  · exact wpAny_tryCatch (wpAny_bind (wpAny_pure (wpAny_pure last)))
structure EqC (K : Frag) (C f : Addr) : Prop where
  eq : findIn K (.ref C) "__eq__" = some (some (.ref f))
  ne : findIn K (.ref C) "__ne__" = some (some (.builtin "object.__ne__"))
  fn : isFn K (.ref f) = true
  ob : mroIn K C (.type "object") = some true
/-- object.__ne__ asks the own __eq__ -/
theorem ne_entry {Q : Fin → Shared → Prop} (X : K.In s.heap) (I : InstAt s.heap x ox C od) (T : EqC K C f) (hu : A.units < cLine)
    (hc : wpAny (model prog w) A (call (.ref f) [.ref x, b]) (fun v s' => ∃ r, v = .bool r ∧ Q (.done (.ret (.bool (!r)))) s') E s) : wpAny (model prog w) A (Builtin.«object.__ne__» ⟨[.ref x, b], []⟩) Q E s := by
  unfold Builtin.«object.__ne__»
  repeat (first
    | with_reducible refine wpAny_cRoomFor hu ?_
    | (refine wpAny_bind (m := callSpecialIfBound? (.ref x) (Str.ofString "__eq__") [b]) (ifBound_K X I T.eq T.fn (wpAny_mono hc (fun r s' hr => by
        obtain ⟨q, rfl, hq⟩ := hr
        repeat (first | exact hq | exact wpAny_pure hq | exact wpAny_truthy_bool hq | (refine wpAny_bind (m := truthy (.bool _)) (wpAny_truthy_bool ?_)) | wp_step)) fun _ _ e => e)))
    | wp_step)
theorem ne_K {Q : Value → Shared → Prop} (hu : A.units + 1 < cLine) (X : K.In s.heap) (I : InstAt s.heap x ox C od) (hb : Looks (model prog w) s.heap (typeOf b) tb) (hn : notFirst K C tb = true) (T : EqC K C f)
    (hc : wpAny (model prog w) A.in1 (call (.ref f) [.ref x, b]) (fun v s' => ∃ r, v = .bool r ∧ Q (.bool (!r)) s') E s) : wpAny (model prog w) A (richCompare .NotEq (.ref x) b) Q E s := by
  have sub : Looks (model prog w) s.heap (isInstance (.ref x) (.type "object")) true := I.type.andThen (looks_mroIn X T.ob)
  have one : wpAny (model prog w) A (tryCompare (.ref x) "__ne__" b) (fun r s' => ∃ v, r = some v ∧ Q v s') E s := by
    unfold tryCompare
    refine wpAny_bind (bound_slot X I T.ne PySem.F.cmp_object.ne (wpAny_call (codeAny_call_builtin PySem.F.cmp_object.ne.plain PySem.F.cmpEntry_ne
      (@check_slot (model prog w) _ _ s "object.__ne__" "object" "__ne__" (.ref x) [b] [] _ PySem.F.cmpKind_ne PySem.F.cmpSplit_ne sub (PySem.F.cmpArgs_ne _ _) (ne_entry (A := A.in1) X I T hu (wpAny_mono hc (fun v s' hv => ?_) fun _ _ e => e))))))
    obtain ⟨r, rfl, hq⟩ := hv
    first | exact ⟨r, rfl, wpAny_pure ⟨_, rfl, hq⟩⟩ | exact ⟨r, rfl, wpAny_pure (wpAny_pure ⟨_, rfl, hq⟩)⟩ | exact ⟨r, rfl, ⟨_, rfl, hq⟩⟩
  unfold richCompare
  simp only [oneThing_ref]
  refine wpAny_holding (wpAny_bind (wpAny_cRoomFor (Nat.lt_of_succ_lt hu) ?_))
  refine wpAny_bind (I.type.here (wpAny_bind (hb.here ?_)))
  split
  · rename_i q
    have e : subIn K tb (.ref C) = some false := by
      rcases Bool.or_eq_true_iff.mp hn with e | e
      · rw [beq_iff_eq.mp e] at q; simp at q
      · exact beq_iff_eq.mp e
    refine wpAny_bind ((looks_subIn X e).here ?_)
    simp only [Bool.false_eq_true, if_false]
    refine wpAny_bind (wpAny_mono one (fun r s' z => ?_) fun _ _ e => e)
    obtain ⟨v, rfl, hq⟩ := z
    exact wpAny_pure hq
  · refine wpAny_bind (wpAny_pure ?_)
    simp only [Bool.false_eq_true, if_false]
    refine wpAny_bind (wpAny_mono one (fun r s' z => ?_) fun _ _ e => e)
    obtain ⟨v, rfl, hq⟩ := z
    exact wpAny_pure hq
end
end OwnNe
set_option maxHeartbeats 4000000
namespace OwnNe
open PySem PySem.Spec PyProof.Rows L2 Evl Pd
/-- what stands beside an instance of the class at C: another one, or a list -/
def Beside (C : Addr) (y : V) (H : Hp) : Prop := (∃ b dy gs, y = .ref b ∧ H b = some (.ins C dy gs)) ∨ ∃ b xs, y = .ref b ∧ H b = some (.lst xs)
def rOwn (C : Addr) (sp : Sp) (neg : Bool) : R2 := fun x y H Q => ∃ (a dx : Addr) (fs : List (Str × V)), x = .ref a ∧ H a = some (.ins C dx fs) ∧ Beside C y H ∧ sp [.ref a, y] H (fun v H' => ∃ r, v = .bl r ∧ Q (.bl (if neg then !r else r)) H') (fun _ _ _ => False)
section
variable {X : Cx} {C f : Addr} {fd : FuncData} {ps : List Str} {sp : Sp} {n : Nat}
theorem look_beside {pins : List (Addr × Obj)} {σ : L2.St} {H : Hp} {s : Shared} {y : V} {u : Value} (I : Inv X pins σ H s) (ry : RelV y u) (h : Beside C y H) (nl : PySem.W.notFirst X.K C (.type "list") = true) :
    ∃ tb, PySem.W.Looks (model X.prog X.w) s.heap (typeOf u) tb ∧ PySem.W.notFirst X.K C tb = true := by
  rcases h with ⟨b, dy, gs, rfl, hb⟩ | ⟨b, xs, rfl, hb⟩
  · cases ry
    obtain ⟨mB, J, _⟩ := ins_get I.hok hb
    obtain ⟨od, J, _⟩ := J.look
    exact ⟨.ref C, J.type, by simp [PySem.W.notFirst]⟩
  · cases ry
    obtain ⟨_, its, k, _, ho⟩ := (show ObjOk X.prog X.w H s.heap b (.lst xs) from I.hok b _ hb)
    exact ⟨.type "list", fun A Q E s' kk q => wpAny_typeOf_ref (kk _ _ ho) q, nl⟩
theorem op_eqOwn (F : FnOk X.prog X.w X.K X.mg X.base CX0 n f fd ps sp) (T : EqC X.K C f) (hb : L2.Binds X.K fd ps []) (hr : Room n X.A) (nl : PySem.W.notFirst X.K C (.type "list") = true) : OpR X (compareOp .Eq) (rOwn C sp false) := by
  intro pins s σ H x y v u Q I rx ry h
  obtain ⟨a, dx, fs, rfl, ha, hy, q⟩ := h
  obtain rfl : v = Value.ref a := rx
  obtain ⟨tb, L, nf⟩ := look_beside I ry hy nl
  obtain ⟨mA, J, _⟩ := ins_get I.hok ha
  obtain ⟨od, J, _⟩ := J.look
  obtain ⟨m, hF⟩ := I.fr
  have hu := hr.un
  refine PySem.W.cmp_K (op := .Eq) (tb := tb) (by omega) hF I.ok.mod.kin J L nf T.eq T.fn ?_
  have r2 : Vals [V.ref a, y] [Value.ref a, u] := .cons rfl (.cons ry .nil)
  refine wpAny_mono (run_fn F hr hb .nil pass0 I r2 (by rw [List.append_nil]; exact q)) (fun z s1 hz => ?_) fun _ _ e => e
  obtain ⟨v, H1, I1, rz, r, rfl, q1⟩ := hz
  cases rz
  exact ⟨.bl r, H1, I1, rfl, q1⟩
theorem op_neOwn (F : FnOk X.prog X.w X.K X.mg X.base CX0 n f fd ps sp) (T : EqC X.K C f) (hb : L2.Binds X.K fd ps []) (hr : Room (n + 1) X.A) (nl : PySem.W.notFirst X.K C (.type "list") = true) : OpR X (compareOp .NotEq) (rOwn C sp true) := by
  intro pins s σ H x y v u Q I rx ry h
  obtain ⟨a, dx, fs, rfl, ha, hy, q⟩ := h
  obtain rfl : v = Value.ref a := rx
  obtain ⟨tb, L, nf⟩ := look_beside I ry hy nl
  obtain ⟨mA, J, _⟩ := ins_get I.hok ha
  obtain ⟨od, J, _⟩ := J.look
  have hu := hr.un
  refine ne_K (tb := tb) (by omega) I.kIn J L nf T ?_
  have r2 : Vals [V.ref a, y] [Value.ref a, u] := .cons rfl (.cons ry .nil)
  have hl := F.len _ _ _ _ q
  have e0 : Env0 X.prog X.w X.K X.mg X.base X.A.in1 X.stack s H := by
    have e := I.env0
    exact ⟨e.frames, e.mod, e.bs, e.bsz, e.funs, e.frf, e.hok, e.bare⟩
  refine wpAny_call (codeAny_mono (F.run X.A.in1 X.stack s H ⟨[.ref a, u], []⟩ [.ref a, u] [.ref a, y] _ _ hr.in1 e0 (by
    have := hb s [.ref a, u] I.kIn (by simpa using hl)
    simpa using this) r2 q) fun r s' hq => ?_)
  cases r with
  | error e => exact (show False from hq).elim
  | ok fl =>
    cases fl with
    | ret w =>
      obtain ⟨z, H', I', rz, r, rfl, q1⟩ := I.after hq
      cases rz
      exact ⟨r, rfl, .bl (!r), H', I', rfl, q1⟩
    | next => exact False.elim hq
    | brk => exact False.elim hq
    | cont => exact False.elim hq
end
end OwnNe
set_option maxHeartbeats 4000000
namespace Chk
open PySem PySem.Spec PyProof.Rows L2 Evl Pd Gd Us
section
variable {σ : L2.St} {H : Hp} {te ta tb : TE} {K : PySem.W.Frag} {C : Addr} {f : Str} {v : V}
theorem ev_fld {a dx : Addr} {fs : List (Str × V)} (c : Cls K C) (n : NoAttr K C f) (he : Ev te σ H (.ref a)) (h : H a = some (.ins C dx fs)) (l : fs.lookup f = some v) : Ev (tFld K te f) σ H v := fun H1 e Q q =>
  he H1 e _ fun H2 e2 => ⟨a, C, dx, fs, v, rfl, e2 _ _ (e _ _ h), c, n, l, q H2 e2⟩
def eqK (ks ls : List (List Key)) : Bool := ks.length == ls.length && ks.all fun k => ls.any fun j => decide (j = k)
def eqS (g h : Stg) : Bool := decide (g.kind = h.kind) && (decide (g.size = h.size) && (decide (g.start = h.start) && (eqK g.ks h.ks && decide (g.hold = h.hold))))
def hasK (g : Stg) (d e : PyData) : Bool := match d, e with
  | .int i, .int j => g.ks.any fun k => decide (k = [.inl i, .inl j])
  | _, _ => false
theorem val_true (ks : List (List Key)) (k : List Key) : (valV (trues ks) k).isSome = ks.any fun x => decide (x = k) := by
  unfold valV trues
  rw [Option.isSome_map, Bool.eq_iff_iff, List.find?_isSome]
  simp only [List.any_eq_true, List.mem_map, decide_eq_true_eq]
  constructor
  · rintro ⟨p, ⟨j, hj, rfl⟩, e⟩
    exact ⟨j, hj, e⟩
  · rintro ⟨j, hj, e⟩
    exact ⟨_, ⟨j, hj, rfl⟩, e⟩
end
def spEqS (C : Addr) : Sp := fun vs H Q _ => vs.length = 2 ∧ ∃ a g y, vs = [.ref a, y] ∧ SetAt C g a H ∧ ((∃ b g', y = .ref b ∧ SetAt C g' b H ∧ ∀ H', Ex H H' → Q (.bl (eqS g g')) H') ∨ ∃ b xs, y = .ref b ∧ H b = some (.lst xs) ∧ ∀ H', Ex H H' → Q (.bl false) H')
def spLets (K : PySem.W.Frag) (C : Addr) : Sp := fun vs H Q _ => vs.length = 3 ∧ ∃ a g y z d e, vs = [.ref a, y, z] ∧ SetAt C g a H ∧ Dp K H y d ∧ Dp K H z e ∧ ∀ H', Ex H H' → Q (.bl (hasK g d e)) H'
section
variable {P : Program} {w : World} {K : PySem.W.Frag} {mg : Str → Option Value} {base : Heap} {C f : Addr} {fd : FuncData}
theorem ok_get {x q : Str} {st : Stmt} {g : Str} {p1 p2 p3 : Pos} (F : Fun K x q st f fd) (S : FnScope ["self"] ["self"] (defScope st)) (hb : defBody st = [.Return (some (.Attribute (.Name "self" p1) g p2)) p3]) (c : Cls K C) (n : NoAttr K C g) : FnOk P w K mg base CX0 1 f fd ["self"] (getSp C g) := by
  refine F.ok S (fun vs H Q E h => ?_) (fun cdv A outer s H vs Q E hr h => ?_)
  · obtain ⟨a, dx, fs, v, rfl, _⟩ := h
    rfl
  · obtain ⟨a, dx, fs, v, rfl, ea, l, q⟩ := h
    rw [hb]
    refine ⟨_, pss_one (ps_ret (pe_fld (pe_var (i := 0) rfl ((S.par "self" (List.Mem.head _)).elim (fun z => .inl z) (fun z => .inr (.inl z)))) rfl)), ?_⟩
    exact ⟨.ref a, rfl, a, C, dx, fs, v, rfl, ea, c, n, l, q⟩
end
end Chk
set_option maxHeartbeats 4000000
namespace Chk
open PySem PySem.Spec PyProof.Rows L2 Evl Pd Gd Us
def keyD : Key → PyData
  | .inl i => .int i
  | .inr s => .str s
def pairD (k : List Key) : PyData := .tuple (k.map keyD)
/-- by their texts -/
def sortD (ds : List PyData) : List PyData := ds.mergeSort (PySem.W.dataLe false fun d => PyData.str (txt d))
theorem dqAll_pairs {H : Hp} : ∀ {l : List (V × PyData)}, (∀ p ∈ l, Dq H p.1 p.2) → DqAll H (l.map (·.1)) (l.map (·.2))
  | [], _ => .nil
  | p :: l, h => .cons (h p List.mem_cons_self) (dqAll_pairs fun q hq => h q (List.mem_cons_of_mem _ hq))
theorem dqAll_zip {H : Hp} : ∀ {xs : List V} {ds : List PyData}, DqAll H xs ds → ∀ p ∈ xs.zip ds, Dq H p.1 p.2
  | _, _, .nil, p, hp => by cases hp
  | _, _, .cons h t, p, hp => by
    rcases List.mem_cons.mp hp with rfl | hp
    · exact h
    · exact dqAll_zip t p hp
theorem dq_sorted {H : Hp} {xs : List V} {ds : List PyData} (h : DqAll H xs ds) : DqAll H ((bySt (xs.zip ds)).map (·.1)) (sortD ds) := by
  have e : (bySt (xs.zip ds)).map (·.2) = sortD ds := by
    unfold bySt sortD
    have z := List.map_mergeSort (r := PySem.W.dataLe false fun b : V × PyData => PyData.str (txt b.2)) (s := PySem.W.dataLe false fun d => PyData.str (txt d)) (f := fun x : V × PyData => x.2) (l := xs.zip ds) (fun a _ b _ => rfl)
    rw [z]
    rw [List.map_snd_zip (by rw [dqAll_len h]; exact Nat.le_refl _)]
  rw [← e]
  refine dqAll_pairs fun p hp => dqAll_zip h p ?_
  exact List.mem_mergeSort.mp hp
theorem dq_keys {H : Hp} : ∀ k : List Key, DqAll H (k.map kV) (k.map keyD)
  | [] => .nil
  | .inl i :: k => .cons (.int i) (dq_keys k)
  | .inr s :: k => .cons (.str s) (dq_keys k)
theorem dq_isKeys {H : Hp} : ∀ {ks : List (List Key)} {bs : List Addr}, IsKeys H (trues ks) bs → DqAll H (bs.map V.ref) (ks.map pairD)
  | [], _, h => by
    cases h
    exact .nil
  | k :: ks, _, h => by
    cases h with
    | cons a t => exact .cons (.tup a (dq_keys k)) (dq_isKeys t)
def spChs (C : Addr) : Sp := fun vs H Q _ => vs.length = 1 ∧ ∃ a g, vs = [.ref a] ∧ SetAt C g a H ∧ (∀ k ∈ g.ks, Showy (pairD k)) ∧ g.ks.length ≤ 1000 ∧ ∀ x H', Ex H H' → (∃ r, x = .ref r ∧ H r = none) → Qe (.list (sortD (g.ks.map pairD))) x H' → Q x H'
section
variable {P : Program} {w : World} {K : PySem.W.Frag} {mg : Str → Option Value} {base : Heap} {C f : Addr} {fd : FuncData}
end
end Chk
set_option maxHeartbeats 4000000
namespace Chk
open PySem PySem.Spec PyProof.Rows L2 Evl Pd Gd Us
def ptsV (p : Pts) : List PV := [Qe p.sort, Qe p.size, Qe p.start, Qe p.changes, Qe p.hold]
theorem dqP_of {H : Hp} {xs : List V} {p : Pts} (h : AllP (ptsV p) xs H) (hs : Short p.changes) : ∃ a b c d e, xs = [a, b, c, d, e] ∧ DqP H a b c d e p := by
  match xs, h with
  | [a, b, c, d, e], ⟨h1, h2, h3, h4, h5, _⟩ => exact ⟨a, b, c, d, e, rfl, h1, h2, h3, h4, h5, hs⟩
theorem dqP_up {H H' : Hp} {a b c d e : V} {p : Pts} (x : Ex H H') (h : DqP H a b c d e p) : DqP H' a b c d e p := ⟨dq_up x h.sort, dq_up x h.size, dq_up x h.start, dq_up x h.changes, dq_up x h.hold, h.short⟩
section
variable {σ : L2.St} {H : Hp} {ta : TA} {C CB : Addr} {p : Pts} {E : XK}
theorem ex_laid {H1 : Hp} {x dx : Addr} (h1 : H1 x = none) (h2 : H1 dx = none) : Ex H1 (upd (upd H1 dx (.own x)) x (.ins C dx [])) := fun b o e => by
  rw [upd_ne (ne_of_none e h1), upd_ne (ne_of_none e h2)]
  exact e
/-- Setting(..) of right parts -/
theorem p_make (h : EvPs ta σ H (ptsV p)) (hs : Short p.changes) (ok : wrong p = none) : EvP (tMake C (spInit C CB) [] E ta) σ H (SetV C (settingOf p)) := fun H1 e Q q => h H1 e _ fun xs H2 e2 ps x dx n1 n2 _ => by
  obtain ⟨a, b, c, d, f, rfl, hp⟩ := dqP_of ps hs
  have up := ex_laid (C := C) n1 n2
  refine ⟨rfl, x, dx, a, b, c, d, f, p, rfl, upd_same, dqP_up up hp, fun t ht => (by rw [ok] at ht; cases ht), fun _ H3 kp at_ => ⟨rfl, q _ H3 ?_ ⟨x, rfl, at_⟩⟩⟩
  exact e2.trans fun b o eb => kp b o (ne_of_none eb n1) (up b o eb)
/-- Setting(..) of parts of which one is wrong -/
theorem make_bad {Q : VK} {t : Str} (h : EvPs ta σ H (ptsV p)) (hs : Short p.changes) (bad : wrong p = some t) (hE : ∀ d H', Ex H H' → H' d = none → E (.ref CB) (some d) (upd H' d (.xd [("part", V.str t)]))) : tMake C (spInit C CB) [] E ta σ H Q :=
  h H (Ex.refl H) _ fun xs H2 e2 ps x dx n1 n2 _ => by
    obtain ⟨a, b, c, d, f, rfl, hp⟩ := dqP_of ps hs
    have up := ex_laid (C := C) n1 n2
    refine ⟨rfl, x, dx, a, b, c, d, f, p, rfl, upd_same, dqP_up up hp, fun u hu d H3 ex hd => ?_, fun ok => (by rw [bad] at ok; cases ok)⟩
    rw [bad] at hu
    cases hu
    exact hE d H3 (e2.trans (up.trans ex)) hd
end
/-! ### what is asked of a setting -/
section
variable {σ : L2.St} {H : Hp} {te ta tb : TE} {K : PySem.W.Frag} {C : Addr} {g h : Stg} {E : XK}
/-- its parts -/
theorem ev_prop {n : Str} {v : V} (he : EvP te σ H (SetV C g)) (l : ∀ {a : Addr} {H : Hp}, SetAt C g a H → ∃ dx fs, H a = some (.ins C dx fs) ∧ fs.lookup n = some v) : Ev (tProp C (getSp C n) [] E te) σ H v := fun H1 e Q q =>
  he H1 e _ fun x H2 e2 ⟨a, ex, at_⟩ => by
    obtain ⟨dx, fs, ha, hl⟩ := l at_
    exact ⟨a, dx, fs, ex, ha, a, dx, fs, v, rfl, ha, hl, q H2 e2⟩
theorem get_kind {a : Addr} {H : Hp} (h : SetAt C g a H) : ∃ dx fs, H a = some (.ins C dx fs) ∧ fs.lookup ("_kind" : Str) = some (V.str g.kind) := let ⟨dx, _, fs, h1, _, f1, _⟩ := h.ex; ⟨dx, fs, h1, f1⟩
theorem get_size {a : Addr} {H : Hp} (h : SetAt C g a H) : ∃ dx fs, H a = some (.ins C dx fs) ∧ fs.lookup ("_size" : Str) = some (V.int g.size) := let ⟨dx, _, fs, h1, _, _, f1, _⟩ := h.ex; ⟨dx, fs, h1, f1⟩
theorem get_start {a : Addr} {H : Hp} (h : SetAt C g a H) : ∃ dx fs, H a = some (.ins C dx fs) ∧ fs.lookup ("_start" : Str) = some (V.int g.start) := let ⟨dx, _, fs, h1, _, _, _, f1, _⟩ := h.ex; ⟨dx, fs, h1, f1⟩
theorem get_hold {a : Addr} {H : Hp} (h : SetAt C g a H) : ∃ dx fs, H a = some (.ins C dx fs) ∧ fs.lookup ("_hold" : Str) = some (V.str g.hold) := let ⟨dx, _, fs, h1, _, _, _, _, _, f1, _⟩ := h.ex; ⟨dx, fs, h1, f1⟩
/-- two settings, == and != -/
theorem ev_own {neg : Bool} (h1 : EvP ta σ H (SetV C g)) (h2 : EvP tb σ H (SetV C h)) : Ev (tOp (OwnNe.rOwn C (spEqS C) neg) ta tb) σ H (.bl (if neg then !eqS g h else eqS g h)) := fun H1 e Q q =>
  h1 H1 e _ fun x H2 e2 p1 => h2 H2 (e.trans e2) _ fun y H3 e3 ⟨b, eb, at2⟩ => by
    obtain ⟨a, rfl, at1⟩ := mo_set _ _ _ e3 p1
    subst eb
    obtain ⟨dx, d, fs, ha, _⟩ := at1.ex
    obtain ⟨dy, d2, gs, hb, _⟩ := at2.ex
    exact ⟨a, dx, fs, rfl, ha, .inl ⟨b, dy, gs, rfl, hb⟩, rfl, a, g, .ref b, rfl, at1, .inl ⟨b, h, rfl, at2, fun H4 e4 => ⟨_, rfl, q H4 (e2.trans (e3.trans e4))⟩⟩⟩
/-- a setting beside a list -/
theorem ev_ownL {neg : Bool} {P : PV} (hP : ∀ x H, P x H → ∃ b xs, x = .ref b ∧ H b = some (.lst xs)) (h1 : EvP ta σ H (SetV C g)) (h2 : EvP tb σ H P) : Ev (tOp (OwnNe.rOwn C (spEqS C) neg) ta tb) σ H (.bl neg) := fun H1 e Q q =>
  h1 H1 e _ fun x H2 e2 p1 => h2 H2 (e.trans e2) _ fun y H3 e3 p2 => by
    obtain ⟨a, rfl, at1⟩ := mo_set _ _ _ e3 p1
    obtain ⟨b, xs, rfl, hb⟩ := hP y H3 p2
    obtain ⟨dx, d, fs, ha, _⟩ := at1.ex
    refine ⟨a, dx, fs, rfl, ha, .inr ⟨b, xs, rfl, hb⟩, rfl, a, g, .ref b, rfl, at1, .inr ⟨b, xs, rfl, hb, fun H4 e4 => ⟨_, rfl, ?_⟩⟩⟩
    have := q H4 (e2.trans (e3.trans e4))
    cases neg <;> exact this
theorem p_chs (he : EvP te σ H (SetV C g)) (hs : ∀ k ∈ g.ks, Showy (pairD k)) (hl : g.ks.length ≤ 1000) : EvP (tMeth C "changes" (spChs C) [] E te tNil) σ H (Qe (.list (sortD (g.ks.map pairD)))) := fun H1 e Q q => he H1 e _ fun x H2 e2 ⟨a, ex, at_⟩ => by
  obtain ⟨dx, d, fs, ha, _, _, _, _, _, _, n, _⟩ := at_.ex
  exact ⟨a, dx, fs, ex, ha, n, rfl, a, g, by rw [ex]; rfl, at_, hs, hl, fun y H3 e3 _ p => q y H3 (e2.trans e3) p⟩
/-- the same, and the list is new -/
theorem p_chsN (he : EvP te σ H (SetV C g)) (hs : ∀ k ∈ g.ks, Showy (pairD k)) (hl : g.ks.length ≤ 1000) : EvP (tMeth C "changes" (spChs C) [] E te tNil) σ H (fun y H' => (∃ r, y = .ref r ∧ H r = none) ∧ Qe (.list (sortD (g.ks.map pairD))) y H') := fun H1 e Q q => he H1 e _ fun x H2 e2 ⟨a, ex, at_⟩ => by
  obtain ⟨dx, d, fs, ha, _, _, _, _, _, _, n, _⟩ := at_.ex
  exact ⟨a, dx, fs, ex, ha, n, rfl, a, g, by rw [ex]; rfl, at_, hs, hl, fun y H3 e3 ⟨r, er, nr⟩ p => q y H3 (e2.trans e3) ⟨⟨r, er, fresh_back (e.trans e2) nr⟩, p⟩⟩
theorem ev_lets {d e : PyData} (he : EvP te σ H (SetV C g)) (h1 : EvP ta σ H (De K d)) (h2 : EvP tb σ H (De K e)) : Ev (tMeth C "lets" (spLets K C) [] E te (tCons ta (tCons tb tNil))) σ H (.bl (hasK g d e)) := fun H1 e1 Q q => he H1 e1 _ fun x H2 e2 ⟨a, ex, at_⟩ => by
  obtain ⟨dx, dd, fs, ha, _, _, _, _, _, _, _, n⟩ := at_.ex
  refine ⟨a, dx, fs, ex, ha, n, h1 H2 (e1.trans e2) _ fun y H3 e3 p1 => h2 H3 (e1.trans (e2.trans e3)) _ fun z H4 e4 p2 => ⟨rfl, a, g, y, z, d, e, by rw [ex]; rfl, ?_, dp_up e4 p1, p2, fun H5 e5 => q H5 (e2.trans (e3.trans (e4.trans e5)))⟩⟩
  obtain ⟨b, eb, at2⟩ := mo_set (C := C) (g := g) _ _ _ (e3.trans e4) ⟨a, rfl, at_⟩
  cases eb
  exact at2
end
end Chk
set_option maxHeartbeats 4000000
/-! xs[::-1] of a list. -/
namespace RevSl
open PySem PySem.Spec PyProof.Rows L2 Evl Pd
section
variable {X : Cx} {e : Expr} {kc : Nat} {p0 : Pos} {te : TE} {tk : TO} {p1 p2 pos : Pos}
def tRevL (K : PySem.W.Frag) (te : TE) (tk : TO) : TE := fun σ H Q => te σ H fun x H1 => tk σ H1 fun o H2 => o = some (-1) ∧ ∃ a xs, x = .ref a ∧ SqL K H2 a xs ∧ ∀ p, H2 p = none → Q (.ref p) (upd H2 p (.lst xs.reverse))
theorem pe_rev (he : PE X e te) (hk : PO X (some (.UnaryOp .USub (.Constant (.int 1) kc p0) p1)) tk) : PE X (.Subscript e (.Slice none none (some (.UnaryOp .USub (.Constant (.int 1) kc p0) p1)) p2) pos) (tRevL X.K te tk) := by
  refine ⟨fun pins s σ H Q I h => ?_⟩
  refine Subscript_ (thn (he.run pins s σ H _ I h) fun v s1 ⟨x, H1, I1, r1, q1⟩ => ?_)
  refine wpAny_Slice ?_
  rw [evalPart_none]
  refine wpAny_pure (wpAny_pure (thn (hk.run pins s1 σ H1 _ I1 q1) fun vk s3 ⟨o, H3, I3, pk, eo, a, xs, ex, hx, q⟩ => ?_))
  subst eo ex
  obtain rfl : v = Value.ref a := r1
  have I4 : Inv X pins σ H3 { s3 with heap := s3.heap.push { cls := .type "slice", data := .fields #[.none, .none, vk] } } := I3.kept (t' := s3.toks) fun b ob q => Heap.get?_push_of_some _ q
  obtain ⟨its, r, ht, hz⟩ := I4.list hx
  have hlen := r.length
  show wpAny (model X.prog X.w) X.A (subscriptTail e (.Slice none none (some (.UnaryOp .USub (.Constant (.int 1) kc p0) p1)) p2) (.ref a) (.ref s3.heap.objs.size)) (EP X pins σ Q) X.xe { s3 with heap := s3.heap.push { cls := .type "slice", data := .fields #[.none, .none, vk] } }
  refine tail_any (ops := [.ref a, .ref s3.heap.objs.size]) ht.isList.typeIs slot_list_getitem.lookup ?_ (by with_unfolding_all rfl)
  refine wpAny_getItem_list_slice ht.isList (Heap.IsSliceOf.new ..) .none .none pk (by simp) ?_ ?_
  · rw [PySem.W.krv_pick]
    have I5 : Inv X pins σ (upd H3 (s3.heap.push { cls := .type "slice", data := .fields #[.none, .none, vk] }).objs.size (.lst xs.reverse)) _ :=
      I4.laid (t' := s3.toks) (o := .lst xs.reverse) (fun b ob q => Heap.get?_push_of_some _ q) (Nat.le_refl _) ⟨by rw [List.length_reverse]; exact hz, its.reverse, 0, Vals.reverse r, Heap.get?_push_size _ rfl⟩
    exact ⟨.ref _, _, I5, rfl, q _ (I4.hok.fresh (Nat.le_refl _))⟩
  · rw [List.size_toArray]
    omega
end
end RevSl
set_option maxHeartbeats 4000000
namespace Lw
open PySem PySem.Spec PyProof.Rows L2 Evl Pd Gd Us Chk
/-! ### draws as values -/
def RgV (lo hi : Int) : PV := fun x _ => ∃ n, x = .int n ∧ lo ≤ n ∧ n < hi
theorem mo_rg {lo hi : Int} : Mo (RgV lo hi) := fun _ _ _ _ h => h
/-- one of these -/
def OneOf (ds : List PyData) : PV := fun x H => ∃ d ∈ ds, Dq H x d
theorem mo_one {ds : List PyData} : Mo (OneOf ds) := fun _ _ _ e ⟨d, h1, h2⟩ => ⟨d, h1, dq_up e h2⟩
section
variable {σ : L2.St} {H : Hp} {ta tb : TE} {K : PySem.W.Frag} {E : XK} {m : Int} {ds : List PyData}
theorem p_draw (h1 : EvP ta σ H (PoolV K)) (h2 : Ev tb σ H (.int m)) (hm : 0 < m) : EvP (tCall (spDraw K) [] E (tCons ta (tCons tb tNil))) σ H (RgV 0 m) := fun H1 e Q q =>
  h1 H1 e _ fun x H2 e2 p1 => h2 H2 (e.trans e2) _ fun H3 e3 => ⟨x, m, rfl, mo_pool _ _ _ e3 p1, hm, fun n H4 n0 n1 e4 => q _ H4 (e2.trans (e3.trans e4)) ⟨n, rfl, n0, n1⟩⟩
theorem p_pick (h1 : EvP ta σ H (PoolV K)) (h2 : EvP tb σ H (Qe (.list ds))) (hm : ds ≠ []) : EvP (tCall (spPick K) [] E (tCons ta (tCons tb tNil))) σ H (OneOf ds) := fun H1 e Q q =>
  h1 H1 e _ fun x H2 e2 p1 => h2 H2 (e.trans e2) _ fun y H3 e3 p2 => by
    cases p2 with
    | lst z hl hd =>
      refine ⟨x, _, _, rfl, mo_pool _ _ _ e3 p1, sq_of hl, fun z => hm (by have := dqAll_len hd; rw [z] at this; exact List.length_eq_zero_iff.mp this.symm), fun v H4 i hv e4 => ?_⟩
      obtain ⟨d, h1, h2⟩ := dqAll_at hd hv
      exact q v H4 (e2.trans (e3.trans e4)) ⟨d, List.mem_of_getElem? h1, dq_up e4 h2⟩
end
theorem s_retP {σ : L2.St} {H : Hp} {te : TE} {P : PV} {D : Ends} (h : EvP te σ H P) (k : ∀ x H1, Ex H H1 → P x H1 → D.rt x H1) : tRet te D σ H := d_ret h k
/-! ### a pool a turn -/
def spTurn (K : PySem.W.Frag) : Sp := fun vs H Q _ => vs.length = 2 ∧ ∃ (a : Addr) (ns : List Int) (k : Int), vs = [.ref a, .int k] ∧ SqL K H a (ns.map V.int) ∧ ns.length ≤ 100000 ∧ 0 ≤ k ∧ k ≤ 100 ∧ ∀ x H', Ex H H' → PoolV K x H' → Q x H'
/-! ### [x for x in xs if ..] of data -/
section
variable {K : PySem.W.Frag} {σ : L2.St} {H : Hp} {tl : TE} {tt : TT} {j : Nat} {vs : List Nat} {l : Addr} {xs : List V} {ds : List PyData}
theorem p_lcQ (R : Nat → List PyData → Prop) (Fl : Nat → Bool → Prop) (h : Ev tl σ H (.ref l)) (hl : H l = some (.lst xs)) (hD : DqAll H xs ds) (hz : ds.length ≤ 40000) (r0 : R 0 [])
    (rt : ∀ i es d, R i es → ds[i]? = some d → Fl i true → R (i + 1) (es ++ [d])) (rf : ∀ i es, i < ds.length → R i es → Fl i false → R (i + 1) es)
    (hw : ∀ x, wipe ((wipe σ vs).set j (some x)) vs = wipe σ vs) (hv : ∀ x, ((wipe σ vs).set j (some x))[j]? = some (some x))
    (ht : ∀ i x d H1, Ex H H1 → xs[i]? = some x → ds[i]? = some d → ∀ Q : Bool → Hp → Prop, (∀ b H2, Ex H1 H2 → Fl i b → Q b H2) → tt ((wipe σ vs).set j (some x)) H1 Q) :
    EvP (tLc (iList K tl) (gName j) tt (tVar j) vs) σ H (fun x H' => ∃ es, R ds.length es ∧ Dq H' x (.list es)) := fun H1 e Q q => h H1 e _ fun H2 e2 => by
  have e02 := e.trans e2
  have ln := dqAll_len hD
  refine ⟨l, rfl, ⟨xs, sq_of (e02 _ _ hl)⟩, fun D hn => ?_⟩
  have n0 : H D = none := fresh_back e02 hn
  refine lc_list (xs := xs) (fun i H3 => Ex H2 H3 ∧ ∃ ys es, H3 D = some (.lst ys) ∧ R i es ∧ DqAll H ys es ∧ ys.length ≤ i) ⟨Ex.new hn, [], [], upd_same, r0, .nil, Nat.le_refl _⟩ (fun i H3 _ p => sq_of (p.1 _ _ (e02 _ _ hl))) (fun i x H3 hx p => ?_) fun H3 p => ?_
  · obtain ⟨e3, ys, es, hy, hr, hd, hl2⟩ := p
    obtain ⟨d, hd1, hd2⟩ := dqAll_at hD hx
    have il : i < xs.length := (List.getElem?_eq_some_iff.mp hx).1
    refine ⟨hw x, ht i x d H3 (e02.trans e3) hx hd1 _ fun b H4 e4 fl => ?_⟩
    cases b with
    | true =>
      simp only [if_true]
      refine ⟨x, hv x, ys, e4 _ _ hy, sz_lt (by omega), (e3.trans e4).mut hn, ys ++ [x], es ++ [d], upd_same, rt i es d hr hd1 fl, ?_, by simp; omega⟩
      clear hr hy hl2 e4 e3 fl q ht
      induction hd using DqAll.rec (motive_1 := fun _ _ _ => True) with
      | nil => exact .cons hd2 .nil
      | cons a _ _ ih => exact .cons a ih
      | _ => trivial
    | false =>
      simp only [Bool.false_eq_true, if_false]
      exact ⟨e3.trans e4, ys, es, e4 _ _ hy, rf i es (by omega) hr fl, hd, by omega⟩
  · obtain ⟨e3, ys, es, hy, hr, hd, hl2⟩ := p
    exact q (.ref D) H3 (e2.trans e3) ⟨es, by rw [← ln]; exact hr, .lst (by omega) hy (dqAll_up (e02.trans e3) hd)⟩
end
end Lw
set_option maxHeartbeats 4000000
namespace Lw
open PySem PySem.Spec PyProof.Rows L2 Evl Pd Gd Us Chk
def pr (i j : Int) : PyData := .tuple [.int i, .int j]
def base6 : List PyData := [pr 0 1, pr 1 0, pr 0 2, pr 2 0, pr 1 2, pr 2 1]
def chBase (n : Int) : List PyData := if n = 2 then base6.take 2 else base6
def ChV (n : Int) : PV := fun x H => ∃ es, es.Sublist (chBase n) ∧ Dq H x (.list es)
theorem mo_ch {n : Int} : Mo (ChV n) := fun _ _ _ e ⟨es, h1, h2⟩ => ⟨es, h1, dq_up e h2⟩
def cutA {α : Type} (xs : List α) (lo hi : Option Int) : List α := (xs.drop (HT.sIx xs.length 0 lo)).take (HT.sIx xs.length xs.length hi - HT.sIx xs.length 0 lo)
theorem dqAll_drop {H : Hp} : ∀ (n : Nat) {xs : List V} {ds : List PyData}, DqAll H xs ds → DqAll H (xs.drop n) (ds.drop n)
  | 0, _, _, h => h
  | n + 1, _, _, .nil => .nil
  | n + 1, _, _, .cons _ t => dqAll_drop n t
theorem dqAll_take {H : Hp} : ∀ (n : Nat) {xs : List V} {ds : List PyData}, DqAll H xs ds → DqAll H (xs.take n) (ds.take n)
  | 0, _, _, _ => by simp only [List.take_zero]; exact .nil
  | n + 1, _, _, .nil => .nil
  | n + 1, _, _, .cons h t => .cons h (dqAll_take n t)
theorem dqAll_cut {H : Hp} {xs : List V} {ds : List PyData} (lo hi : Option Int) (h : DqAll H xs ds) : DqAll H (cutV xs lo hi) (cutA ds lo hi) := by
  unfold cutV cutA
  rw [dqAll_len h]
  exact dqAll_take _ (dqAll_drop _ h)
section
variable {σ : L2.St} {H : Hp} {te : TE} {tl th : TO} {K : PySem.W.Frag} {ds : List PyData} {lo hi : Option Int}
theorem p_slQ (h : EvP te σ H (Qe (.list ds))) (h1 : EvO tl σ H lo) (h2 : EvO th σ H hi) : EvP (tSl (rSlL K) te tl th) σ H (Qe (.list (cutA ds lo hi))) := fun H1 e Q q =>
  h H1 e _ fun x H2 e2 p => h1 H2 (e.trans e2) _ fun H3 e3 => h2 H3 (e.trans (e2.trans e3)) _ fun H4 e4 => by
    cases p with
    | @lst a xs _ z hl hd =>
      refine ⟨a, xs, rfl, sq_of ((e3.trans e4) _ _ hl), fun p hp => q _ _ (e2.trans (e3.trans (e4.trans (Ex.new hp)))) (.lst ?_ upd_same (dqAll_up (e3.trans (e4.trans (Ex.new hp))) (dqAll_cut lo hi hd)))⟩
      exact Nat.le_trans (cutV_length xs lo hi) z
theorem q_pr {i j : Int} : EvP (tTup (tCons (tC (.int i)) (tCons (tC (.int j)) tNil))) σ H (Qe (pr i j)) := q_tup (ds := [.int i, .int j]) (ps_cons mo_qe q_int (ps_cons mo_qe q_int ps_nil))
end
def spCh (K : PySem.W.Frag) : Sp := fun vs H Q _ => vs.length = 2 ∧ ∃ (x : V) (n : Int), vs = [x, .int n] ∧ PoolV K x H ∧ (n = 2 ∨ n = 3) ∧ ∀ y H', Ex H H' → ChV n y H' → Q y H'
section
variable {P : Program} {w : World} {K : PySem.W.Frag} {mg : Str → Option Value} {base : Heap}
end
end Lw
set_option maxHeartbeats 4000000
namespace Lw
open PySem PySem.Spec PyProof.Rows L2 Evl Pd Gd Us Chk
mutual
theorem dq_by {H H' : Hp} (hl : ∀ b xs, H b = some (.lst xs) → H' b = some (.lst xs)) (ht : ∀ b xs, H b = some (.tup xs) → H' b = some (.tup xs)) : ∀ {x : V} {d : PyData}, Dq H x d → Dq H' x d
  | _, _, .non => .non
  | _, _, .bl b => .bl b
  | _, _, .int i => .int i
  | _, _, .str x => .str x
  | _, _, .lst z h a => .lst z (hl _ _ h) (dqAll_by hl ht a)
  | _, _, .tup h a => .tup (ht _ _ h) (dqAll_by hl ht a)
theorem dqAll_by {H H' : Hp} (hl : ∀ b xs, H b = some (.lst xs) → H' b = some (.lst xs)) (ht : ∀ b xs, H b = some (.tup xs) → H' b = some (.tup xs)) : ∀ {xs : List V} {ds : List PyData}, DqAll H xs ds → DqAll H' xs ds
  | _, _, .nil => .nil
  | _, _, .cons h a => .cons (dq_by hl ht h) (dqAll_by hl ht a)
end
def holdsOf (so : Str) : List Str := if so = ("table" : Str) then ["sent", "answered", "answered"] else ["sent", "answered", "open"]
def drawnK (so : Str) (n k : Int) (l : V) (h : Str) : List (Key × V) := [(.inr "sort", .str so), (.inr "size", .int n), (.inr "start", .int k), (.inr "changes", l), (.inr "hold", .str h)]
/-- a drawn setting -/
def DrawnS (so : Str) : PV := fun x H => ∃ (p : Addr) (n k : Int) (l : V) (h : Str), x = .ref p ∧ H p = some (.dK (drawnK so n k l h)) ∧ ChV n l H ∧ (n = 2 ∨ n = 3) ∧ 0 ≤ k ∧ k < n ∧ h ∈ holdsOf so
theorem mo_drawn {so : Str} : Mo (DrawnS so) := fun _ _ _ e ⟨p, n, k, l, h, h1, h2, h3, h4⟩ => ⟨p, n, k, l, h, h1, e _ _ h2, mo_ch _ _ _ e h3, h4⟩
def spSetting (K : PySem.W.Frag) : Sp := fun vs H Q _ => vs.length = 2 ∧ ∃ (x : V) (so : Str), vs = [x, .str so] ∧ PoolV K x H ∧ ∀ y H', Ex H H' → DrawnS so y H' → Q y H'
section
variable {P : Program} {w : World} {K : PySem.W.Frag} {mg : Str → Option Value} {base : Heap}
end
end Lw
set_option maxHeartbeats 4000000
namespace Chk
open PySem PySem.Spec PyProof.Rows L2 Evl Pd Gd Us
def psInit : List Str := ["self", "sort", "size", "start", "changes", "hold"]
/-- all that a caller of the class asks -/
structure SetC (P : Program) (w : World) (K : PySem.W.Frag) (mg : Str → Option Value) (base : Heap) (C CB : Addr) : Prop where
  mS : mg "Setting" = some (.ref C)
  T : ClsS K C
  make : ∃ fI fd, Mk K C fI ∧ L2.Binds K fd psInit [] ∧ FnOk P w K mg base (L2.CX P w) 6 fI fd psInit (spInit C CB)
  lets : ∃ f fd, Meth K C "lets" f ∧ L2.Binds K fd ["self", "one", "other"] [] ∧ FnOk P w K mg base CX0 2 f fd ["self", "one", "other"] (spLets K C)
  chs : ∃ f fd, Meth K C "changes" f ∧ L2.Binds K fd ["self"] [] ∧ FnG P w K mg base CX0 1 f fd ["self"] (spChs C)
  eq : ∃ f fd, OwnNe.EqC K C f ∧ L2.Binds K fd ["self", "other"] [] ∧ FnOk P w K mg base CX0 1 f fd ["self", "other"] (spEqS C)
  nl : PySem.W.notFirst K C (.type "list") = true
  kind : ∃ p g fd, PropOf K C "kind" p g ∧ L2.Binds K fd ["self"] [] ∧ FnOk P w K mg base CX0 1 g fd ["self"] (getSp C "_kind")
  size : ∃ p g fd, PropOf K C "size" p g ∧ L2.Binds K fd ["self"] [] ∧ FnOk P w K mg base CX0 1 g fd ["self"] (getSp C "_size")
  start : ∃ p g fd, PropOf K C "start" p g ∧ L2.Binds K fd ["self"] [] ∧ FnOk P w K mg base CX0 1 g fd ["self"] (getSp C "_start")
  hold : ∃ p g fd, PropOf K C "hold" p g ∧ L2.Binds K fd ["self"] [] ∧ FnOk P w K mg base CX0 1 g fd ["self"] (getSp C "_hold")
section
variable {X : Cx} {C CB : Addr} {e o : Expr} {es : List Expr} {p pos apos : Pos} {ta tb : TE} {t : TA} {j : Nat}
theorem pe_setting {E : XK} (S : SetC X.prog X.w X.K X.mg X.base C CB) (hr : Room j X.A) (hk : 7 ≤ j) (hg : Gl X "Setting") (hx : Passes (L2.CX X.prog X.w) X E) (ha : PA X (e :: es) t)
    (he : starEach (e :: es) X.env = (false, eval e X.env) :: starEach es X.env := by rfl) (hpl : (backTo pos (starEach es X.env)).any (·.1) = false := by rfl) :
    PE X (.Call (.Name "Setting" p) (e :: es) [] pos) (tMake C (spInit C CB) [] E t) := by
  obtain ⟨fI, fd, M, b, F⟩ := S.make
  exact pe_make M F (hr.mono hk) hg S.mS b .nil hx ha (by decide) he hpl
theorem pe_lets {pl : Sem Bool} (S : SetC X.prog X.w X.K X.mg X.base C CB) (hr : Room j X.A) (hk : 2 ≤ j) (ho : PE X o ta) (ha : PA X (e :: es) t)
    (hst : starEach (e :: es) X.env = (false, eval e X.env) :: starEach es X.env := by rfl) (hpl : (backTo pos (starEach es X.env)).any (·.1) = false := by rfl)
    (ht : eval (.Call (.Attribute o "lets" apos) (e :: es) [] pos) X.env = (do
      let ov ← eval o X.env
      standAt apos.atName
      let (f, first) ← holding [ov] (getMethod ov "lets" pl)
      callWith pos f first (backTo pos (starEach (e :: es) X.env)) (backToKw pos (keywordEach [] X.env))) := by rfl) :
    PE X (.Call (.Attribute o "lets" apos) (e :: es) [] pos) (tMeth C "lets" (spLets X.K C) [] (fun _ _ _ => False) ta t) := by
  obtain ⟨f, fd, M, b, F⟩ := S.lets
  exact pe_meth ho S.T.cl M F (hr.mono hk) b .nil pass0 ha hst hpl ht
theorem pe_chs {pl : Sem Bool} (S : SetC X.prog X.w X.K X.mg X.base C CB) (hr : Room j X.A) (hk : 1 ≤ j) (hu : X.A.guards = some []) (ho : PE X o ta)
    (ht : eval (.Call (.Attribute o "changes" apos) [] [] pos) X.env = (do
      let ov ← eval o X.env
      standAt apos.atName
      let (f, first) ← holding [ov] (getMethod ov "changes" pl)
      callWith pos f first (backTo pos (starEach [] X.env)) (backToKw pos (keywordEach [] X.env))) := by rfl) :
    PE X (.Call (.Attribute o "changes" apos) [] [] pos) (tMeth C "changes" (spChs C) [] (fun _ _ _ => False) ta tNil) := by
  obtain ⟨f, fd, M, b, F⟩ := S.chs
  exact pe_meth0G ho S.T.cl M F (hr.mono hk) hu b pass0 ht
theorem op_eqSet (S : SetC X.prog X.w X.K X.mg X.base C CB) (hr : Room j X.A) (hk : 1 ≤ j) : OpR X (compareOp .Eq) (OwnNe.rOwn C (spEqS C) false) := by
  obtain ⟨f, fd, M, b, F⟩ := S.eq
  exact OwnNe.op_eqOwn F M b (hr.mono hk) S.nl
theorem op_neSet (S : SetC X.prog X.w X.K X.mg X.base C CB) (hr : Room j X.A) (hk : 2 ≤ j) : OpR X (compareOp .NotEq) (OwnNe.rOwn C (spEqS C) true) := by
  obtain ⟨f, fd, M, b, F⟩ := S.eq
  exact OwnNe.op_neOwn F M b (hr.mono hk) S.nl
theorem pe_kindP (S : SetC X.prog X.w X.K X.mg X.base C CB) (hr : Room j X.A) (hk : 2 ≤ j) (ho : PE X o ta) (hab : attributeBase o "kind" X.env (eval o X.env) = eval o X.env := by rfl) : PE X (.Attribute o "kind" pos) (tProp C (getSp C "_kind") [] (fun _ _ _ => False) ta) := by
  obtain ⟨pp, g, fd, M, b, F⟩ := S.kind
  exact pe_prop ho S.T.cl M F (hr.mono hk) b .nil pass0 hab
theorem pe_sizeP (S : SetC X.prog X.w X.K X.mg X.base C CB) (hr : Room j X.A) (hk : 2 ≤ j) (ho : PE X o ta) (hab : attributeBase o "size" X.env (eval o X.env) = eval o X.env := by rfl) : PE X (.Attribute o "size" pos) (tProp C (getSp C "_size") [] (fun _ _ _ => False) ta) := by
  obtain ⟨pp, g, fd, M, b, F⟩ := S.size
  exact pe_prop ho S.T.cl M F (hr.mono hk) b .nil pass0 hab
theorem pe_startP (S : SetC X.prog X.w X.K X.mg X.base C CB) (hr : Room j X.A) (hk : 2 ≤ j) (ho : PE X o ta) (hab : attributeBase o "start" X.env (eval o X.env) = eval o X.env := by rfl) : PE X (.Attribute o "start" pos) (tProp C (getSp C "_start") [] (fun _ _ _ => False) ta) := by
  obtain ⟨pp, g, fd, M, b, F⟩ := S.start
  exact pe_prop ho S.T.cl M F (hr.mono hk) b .nil pass0 hab
theorem pe_holdP (S : SetC X.prog X.w X.K X.mg X.base C CB) (hr : Room j X.A) (hk : 2 ≤ j) (ho : PE X o ta) (hab : attributeBase o "hold" X.env (eval o X.env) = eval o X.env := by rfl) : PE X (.Attribute o "hold" pos) (tProp C (getSp C "_hold") [] (fun _ _ _ => False) ta) := by
  obtain ⟨pp, g, fd, M, b, F⟩ := S.hold
  exact pe_prop ho S.T.cl M F (hr.mono hk) b .nil pass0 hab
/-- repr of True, False -/
def rReprB : List V → Hp → VK → Prop := fun xs H Q => ∃ b : Bool, xs = [.bl b] ∧ Q (.str (if b then "True" else "False")) H
theorem cr_reprB : CallR X (.builtin "repr") rReprB := by
  intro pins s σ H xs us Q I r h
  obtain ⟨b, rfl, q⟩ := h
  obtain ⟨u, rfl, ru⟩ := vals1 r
  cases ru
  exact PySem.P.repr_of_bool ⟨.str _, H, I.tok _, ⟨_, rfl⟩, q⟩
end
section
variable {σ : L2.St} {H : Hp} {te ta tb : TE} {K : PySem.W.Frag}
theorem ev_reprB {b : Bool} (h : Ev te σ H (.bl b)) : Ev (tCB rReprB (tCons te tNil)) σ H (.str (if b then "True" else "False")) := fun H1 e Q q => h H1 e _ fun H2 e2 => ⟨b, rfl, q H2 e2⟩
theorem ev_inD {d : PyData} {ds : List PyData} (h1 : EvP ta σ H (De K d)) (h2 : EvP tb σ H (De K (.list ds))) (s1 : SeqAt.shaped d = true) (s2 : SeqAt.shaped (.list ds) = true) : Ev (tOp (rInD K) ta tb) σ H (.bl (ds.any fun z => PyData.eqv z d)) := fun H1 e Q q =>
  h1 H1 e _ fun x H2 e2 p1 => h2 H2 (e.trans e2) _ fun y H3 e3 p2 => ⟨d, ds, dp_up e3 p1, p2, s1, s2, q H3 (e2.trans e3)⟩
theorem ev_ninD {d : PyData} {ds : List PyData} (h1 : EvP ta σ H (De K d)) (h2 : EvP tb σ H (De K (.list ds))) (s1 : SeqAt.shaped d = true) (s2 : SeqAt.shaped (.list ds) = true) : Ev (tOp (rNotInD K) ta tb) σ H (.bl (!ds.any fun z => PyData.eqv z d)) := fun H1 e Q q =>
  h1 H1 e _ fun x H2 e2 p1 => h2 H2 (e.trans e2) _ fun y H3 e3 p2 => ⟨d, ds, dp_up e3 p1, p2, s1, s2, q H3 (e2.trans e3)⟩
theorem s_forRange {D : Ends} {tu : TS} {ta : TA} {j : Nat} {lo n : Int} (h : EvA ta σ H [.int lo, .int n]) (hn : -100000 ≤ lo ∧ lo ≤ 100000 ∧ -100000 ≤ n ∧ n ≤ 100000) (Pv : Nat → L2.St → Hp → Prop) (h0 : ∀ H1, Ex H H1 → Pv 0 σ H1)
    (hs : ∀ (i : Nat) σ' H', lo + (i : Int) < n → Pv i σ' H' → tu { D with nx := Pv (i + 1), ct := Pv (i + 1), bk := D.nx } (σ'.set j (some (.int (lo + (i : Int))))) H') (hd : ∀ σ' H', Pv (n - lo).toNat σ' H' → D.nx σ' H') : tFor (iRng2 ta) (gName j) tu D σ H :=
  h H (Ex.refl H) _ fun H1 e => ⟨lo, n, rfl, ⟨by omega, by omega, by omega, by omega⟩, for_range (lo := lo) (n := (n - lo).toNat) Pv (h0 H1 e) (fun i σ' H' hi p => hs i σ' H' (by omega) p) hd⟩
theorem q_forRange {D : Ends} {tz tu : TS} {ta : TA} {j : Nat} {lo n : Int} (h : EvA ta σ H [.int lo, .int n]) (hn : -100000 ≤ lo ∧ lo ≤ 100000 ∧ -100000 ≤ n ∧ n ≤ 100000) (Pv : Nat → L2.St → Hp → Prop) (h0 : ∀ H1, Ex H H1 → Pv 0 σ H1)
    (hs : ∀ (i : Nat) σ' H', lo + (i : Int) < n → Pv i σ' H' → tu { D with nx := Pv (i + 1), ct := Pv (i + 1), bk := tz D } (σ'.set j (some (.int (lo + (i : Int))))) H') (hd : ∀ σ' H', Pv (n - lo).toNat σ' H' → tz D σ' H') : tSeq (tFor (iRng2 ta) (gName j) tu) tz D σ H :=
  s_forRange (D := { D with nx := tz D }) h hn Pv h0 hs hd
end
end Chk
set_option maxHeartbeats 4000000
/-! sorted(xs, key=lambda x: str(x)) -/
namespace LamK
open PySem PySem.Spec PyProof.Rows L2 Evl Pd Gd Chk LamX
section
variable {X : Cx} {pins : List (Addr × Obj)} {σ : L2.St} {H : Hp} {s : Shared}
/-- the lambda is called: str(v) in a frame of its own -/
theorem lam_str {A : Around} {E : Value → Shared → Prop} {f c' : Addr} {q x : Str} {params : Arguments} {scope : Scope} {cl : List (Str × Addr)} {pm ctv v : Value} {p1 p2 p3 : Pos} {t : Str} {h : Heap} {tk : Nat}
    (I : Inv X pins σ H s) (kp : ∀ b o, s.heap.get? b = some o → h.get? b = some o) (bt : X.mg "str" = none) (hA : A.depth < recursionLimit)
    (hf : s.heap.get? f = some (PySem.W.kla_obj "<lambda>" q params (.Call (.Name "str" p1) [.Name x p2] [] p3) scope cl pm c' ctv)) (hc : H c' = some (CodeO c' q))
    (hk : scope.kind = .function) (hco : scope.isCoroutine = false) (hgen : scope.isGenerator = false) (hx : scope.names.lookup x = some .local) (hs : scope.names.lookup ("str" : Str) = some .globalImplicit) (hcell : ∀ y ∈ scope.names, y.2 ≠ .cell) (hxd : (x == ("__debug__" : Str)) = false)
    (hbind : bindArgs (PySem.W.kla_fn "<lambda>" q params (.Call (.Name "str" p1) [.Name x p2] [] p3) scope cl pm (.ref c') ctv) ⟨[v], []⟩ = pure [(x, v)])
    (go : ∀ (A' : Around) (E' : Value → Shared → Prop) (h1 : Heap) (tk1 : Nat) (Q : Value → Shared → Prop), A'.guards = A.guards → A'.units ≤ A.units + 3 → (∀ b o, s.heap.get? b = some o → h1.get? b = some o) →
      (∀ h2 u tk2, (∀ b o, h1.get? b = some o → h2.get? b = some o) → Q (.str t u) { s with heap := h2, toks := tk2 }) → wpAny (model X.prog X.w) A' (call (.type "str") [v]) Q E' { s with heap := h1, toks := tk1 }) :
    wpAny (model X.prog X.w) A (call (.ref f) [v]) (PySem.W.KeyPure (.str t) { s with heap := h, toks := tk }) E { s with heap := h, toks := tk } := by
  obtain ⟨⟨oc, vs, tq, hoc, hdc, hvc⟩, _, _⟩ := I.hok c' _ hc
  obtain ⟨mb, n1, n2⟩ := I.mod.blt
  have gk : ∀ {b o}, X.base.get? b = some o → h.get? b = some o := fun e => kp _ _ (I.bk _ _ e)
  refine wpAny_call (PySem.W.kla_callFunE hA (kp _ _ hf) rfl hco hgen rfl ⟨c', oc, vs, tq, rfl, kp _ _ hoc, hdc, hvc⟩ ?_)
  rw [hbind]
  have lim : h.NoLimit := I.nolimit.keeps kp
  refine wpAny_pure (wpAny_newFunctionEnv hcell (fun y hy => by
    rcases List.mem_singleton.mp hy with rfl
    exact hx) (fun h₁ hns hsb => ⟨lim.fresh _ hsb, ?_⟩) hk)
  have kp1 : ∀ b o, h.get? b = some o → h₁.get? b = some o := fun b o e => hsb.extBut b o (Nat.ne_of_lt (Heap.lt_size e)) (Heap.get?_push_of_some _ e)
  refine PySem.W.kla_codeExpr ?_
  refine wpAny_Call_Name_kw (Calls.Name_function_global hk hs (Calls.loadGlobal_builtin (mg := X.mg) (I.mod.glob.keeps fun b o e => kp1 _ _ (gk e)) bt (mb := mb) (n1.keeps fun b o e => kp1 _ _ (gk e)) ((n2 "str" (by decide)).trans Chk.boot_str) ?_))
  refine PyProof.Rows.callWith_type1 ?_ (by rfl) (by rfl)
  show wpAny _ _ (spliced ((false, eval (.Name x p2) _) :: [])) _ _ _
  refine Calls.spliced_cons (wpAny_Name (wpAny_loadName_local (v := v) hk hx hns (by simp [List.lookup]) ?_) hxd)
  refine Calls.spliced_nil ?_
  refine go _ _ h₁ _ _ ?g1 ?g2 (fun b o e => kp1 _ _ (kp _ _ e)) fun h2 u tk2 k2 => ?_
  case g1 => rfl
  case g2 => exact Nat.le_refl _
  exact ⟨h2, tk2, rfl, fun b o e => k2 _ _ (kp1 _ _ e), .str _ _⟩
end
theorem dqAll_ext {H H' : Hp} (e : ExtN H H') {xs : List V} {ds : List PyData} (h : DqAll H xs ds) : DqAll H' xs ds := Lw.dqAll_by (fun _ _ h => e _ _ h fun _ z => nomatch z) (fun _ _ h => e _ _ h fun _ z => nomatch z) h
/-- the reading -/
def RSrt (T : List (Addr × Str)) (y : V) (H1 : Hp) (Q : VK) : Prop := ∃ a xs ds, y = .ref a ∧ H1 a = some (.lst xs) ∧ DqAll H1 xs ds ∧ xs.length ≤ 100000 ∧ (∀ d ∈ ds, Showy d) ∧ Tabs T H1 ∧
  ∀ H2, ExtN H1 H2 → Tabs T H2 → ∀ r, H2 r = none → Q (.ref r) (upd H2 r (.lst ((bySt (xs.zip ds)).map (·.1))))
def tSrt (T : List (Addr × Str)) (te : TE) : TE := fun σ H Q => te σ H fun x H1 => ∃ y, [x] = [y] ∧ RSrt T y H1 Q
section
variable {X : Cx}
theorem pe_sortLam {T : List (Addr × Str)} {c P : Addr} {params : Arguments} {scope : Scope} {x : Str} {e : Expr} {te : TE} {p p1 p2 p3 lpos kpos pos : Pos} (hgd : X.A.guards = some []) (hu : X.A.units + 64 < cLine) (hA : X.A.depth + 3 < recursionLimit) (TB : TabB X.base X.mg c P) (hcode : X.env.code = .ref c)
    (hmT : (P, X.env.qual ++ "<lambda>") ∈ T) (huT : ∀ p ∈ T, p.1 = P → p.2 = X.env.qual ++ "<lambda>") (hg : Gl X "sorted") (bs : X.mg "sorted" = none) (bt : X.mg "str" = none) (he : PE X e te) (hdef : defaultsOf params X.env = ([], []))
    (hk : scope.kind = .function) (hco : scope.isCoroutine = false) (hgen : scope.isGenerator = false) (hx : scope.names.lookup x = some .local) (hs : scope.names.lookup ("str" : Str) = some .globalImplicit) (hcell : ∀ y ∈ scope.names, y.2 ≠ .cell) (hfree : ∀ y ∈ scope.names, y.2 ≠ .free) (hxd : (x == ("__debug__" : Str)) = false)
    (hbind : ∀ (q : Str) (cl : List (Str × Addr)) (pm cv ctv v : Value), bindArgs (PySem.W.kla_fn "<lambda>" q params (.Call (.Name "str" p1) [.Name x p2] [] p3) scope cl pm cv ctv) ⟨[v], []⟩ = pure [(x, v)])
    (hs1 : starEach [e] X.env = (false, eval e X.env) :: starEach [] X.env := by rfl) (hb1 : backTo pos (starEach [e] X.env) = (false, eval e X.env) :: backTo pos (starEach [] X.env) := by rfl) (hpl : (backTo pos (starEach [e] X.env)).any (·.1) = false := by rfl) :
    PE X (.Call (.Name "sorted" p) [e] [⟨some "key", .Lambda params (.Call (.Name "str" p1) [.Name x p2] [] p3) scope lpos, kpos⟩] pos) (tSrt T te) := by
  refine ⟨fun pins s σ H Q I h0 => ?_⟩
  refine wpAny_Call_Name_kw (ld_blt I hg bs (by decide +kernel : bootBuiltins "sorted" = some (.builtin "sorted")) ?_)
  have pa : PA X [e] (tCons te tNil) := pa_cons (hs := hs1) he pa_nil
  have pq : tCons te tNil σ H (fun vs H1 => ∃ y, vs = [y] ∧ RSrt T y H1 Q) := h0
  refine PyProof.Rows.callWith_kw (thn (pa.run pos pins s σ H _ I pq) fun us s1 ⟨vs, H1, I1, r1, y, ev, a, xs, ds, ey, ha, hd, hl, hsh, hT, q⟩ => ?_) hb1 hpl (by rfl) (by rfl)
  subst ev ey
  cases r1 with
  | cons ra rn =>
    cases rn
    cases ra
    show wpAny _ _ (evalAll ((do let v ← eval (.Lambda params (.Call (.Name "str" p1) [.Name x p2] [] p3) scope lpos) X.env; standAt pos; pure v) :: [])) _ _ s1
    refine wpAny_evalAll_cons (wpAny_bind (lam_make2 I1 TB hcode hmT huT hT hdef (fun y hy z => absurd z (hfree y hy)) fun f c' pm ctv H2 s2 I2 eN T2 hf hfn hfr hc => ?_))
    refine wpAny_bind (wpAny_standAt (wpAny_pure (wpAny_evalAll_nil ?_)))
    have hS : SqL X.K H2 a xs := sq_of (eN _ _ ha fun _ z => nomatch z)
    have hd2 := dqAll_ext eN hd
    obtain ⟨its, rv, pl, hl2⟩ := I2.list hS
    have ln : (xs.zip ds).length = xs.length := by rw [List.length_zip, dqAll_len hd2, Nat.min_self]
    show wpAny _ _ (call (.builtin "sorted") [.ref a] [(Str.ofString "key", .ref f)]) _ _ _
    have each := each_of (dqAll_dp (K := X.K) hd2) rv
    refine PySem.W.sorted_key_data (b := false) (fun b : V × PyData => PyData.str (txt b.2)) pl.isList each (PySem.W.AllAlike.of fun _ _ => by simp [PySem.W.alike]) (PySem.W.Sortable.others fun _ => ⟨(fun z => nomatch z), fun _ z => nomatch z⟩) (by rw [ln]; exact hl2)
      (fun b _ => by have e : (PyData.str (txt b.2)).depth = 0 := by simp [PyData.depth]
                     rw [e]; omega) (ksk_s1 _ _) (fun _ => ksk_l1 _ _) (fun _ => rfl) (fun v b hb hm h tk kp => ?_) fun out cc h' tk kp hn hD hl3 eo => ?_
    · obtain ⟨y, d⟩ := b
      obtain ⟨rb, hb⟩ := hb
      have hsd := hsh d (List.of_mem_zip hm).2
      obtain ⟨as, rd⟩ := Dp.reads I2 d y v hb rb
      refine lam_str I2 kp bt (by show X.A.depth < recursionLimit; omega) hf hc hk hco hgen hx hs hcell hxd (hbind _ _ _ _ _ _) fun A' E' h1 tk1 Q' eg eu k1 fin => ?_
      rcases hsd with ⟨t, rfl⟩ | ⟨⟨es, rfl⟩, z1, z2, z3, z4⟩
      · cases rd
        exact PySem.P.str_of_str (fin h1 _ tk1 fun _ _ z => z)
      · cases rd with
        | tuple g1 g2 g3 g4 =>
          refine str_of_reads (.tuple g1 g2 g3 g4) z1 (PyData.noDict_hsm z2) (eg.trans hgd) (by have eu' : A'.units ≤ X.A.units + 1 + 1 + 3 := eu; omega) k1 (fun h2 u tk2 k2 => fin h2 u tk2 k2) z4
    · have vo := vals_of eo
      have lo : ((bySt (xs.zip ds)).map (·.1)).length ≤ sizeLine := by
        unfold bySt
        rw [List.length_map, List.length_mergeSort, ln]
        exact hl2
      have ok : ObjOk X.prog X.w (upd H2 (s2.heap.objs.size + 1) (.lst ((bySt (xs.zip ds)).map (·.1)))) h' (s2.heap.objs.size + 1) (.lst ((bySt (xs.zip ds)).map (·.1))) := ⟨lo, out, cc, vo, hD⟩
      exact ⟨.ref (s2.heap.objs.size + 1), _, I2.laid (t' := tk) kp (Nat.le_succ _) ok, rfl, q _ eN T2 _ (I2.hok.fresh (Nat.le_succ _))⟩
end
end LamK
set_option maxHeartbeats 4000000
namespace Gd
open PySem PySem.Spec PyProof.Rows L2 Evl Pd
/-- a def whose code object is at c -/
structure FunC (K : PySem.W.Frag) (x qual : Str) (st : Stmt) (f : Addr) (fd : FuncData) (c : Addr) : Prop where
  ex : ∃ (oc : Value) (od : Option Addr) (kV doc pm : Value) (an : Option Addr) (ct : Value) (osl : Array (Option Value)), fd = PySem.W.fnOf x qual (defArgs st) (defBody st) (defScope st) .none kV doc pm an (.ref c) ct ∧
    K.lookup f = some ⟨oc, od, .func (PySem.W.fnOf x qual (defArgs st) (defBody st) (defScope st) .none kV doc pm an (.ref c) ct), osl⟩ ∧ PySem.W.codeIn K (.ref c) qual = true
section
variable {P : Program} {w : World} {K : PySem.W.Frag} {mg : Str → Option Value} {base : Heap} {k : Nat} {f c : Addr} {fd : FuncData} {ps : List Str} {sp : Sp}
theorem okGC {x qual : Str} {st : Stmt} {N : List Str} (F : FunC K x qual st f fd c) (S : FnScope N ps (defScope st)) (len : ∀ vs H Q E, sp vs H Q E → vs.length = ps.length)
    (body : ∀ (A : Around) (outer : List Env) (s : Shared) (H : Hp) (vs : List V) (Q : VK) (E : XK), Room k (A.deeper (envOfC qual (defScope st) s.heap.objs.size f (.ref c))) → (A.deeper (envOfC qual (defScope st) s.heap.objs.size f (.ref c))).guards = some [] → sp vs H Q E →
      ∃ t, PSs (cxOf CX0 P w K mg base N qual (defScope st) f (.ref c) A outer s H E).nox (defBody st) t ∧ t { nx := fun _ H' => Q .non H', rt := Q } (start N vs) H) : FnG P w K mg base CX0 (k + 1) f fd ps sp := by
  obtain ⟨oc, od, kV, doc, pm, an, ct, osl, rfl, lk, hcd⟩ := F.ex
  refine ⟨len, fun A outer s H args us vs Q E hr hg e0 hb r hsp => ?_⟩
  have nl := len _ _ _ _ hsp
  have inK : K.In s.heap := e0.mod.kin.keeps fun b o e => (e0.bs b o e).1
  have bounded : s.heap.NoLimit := e0.mod.nolimit.keeps fun b o e => (e0.bs b o e).1
  refine codeAny_call_function hr.depth (inK _ _ lk) rfl S.co S.gen rfl (PySem.W.codeRec_of inK hcd) (hb _ _ _ _ (wpAny_newFunctionEnv_cells S.kind (fun ⟨n, v⟩ hy => (S.par n (List.of_mem_zip hy).1).imp id fun q => ⟨q, PySem.W.cellsFrom_some _ _ _ (.inl q)⟩) fun env he s1 x => ?_))
  subst he
  refine ⟨bounded.keeps x.toInCall.keep, codeAny_func ?_⟩
  obtain ⟨t, ht, hq⟩ := body A outer s H vs Q E (hr.deeper _) hg hsp
  have I : Inv (cxOf CX0 P w K mg base N qual (defScope st) f (.ref c) A outer s H E) [] (start N vs) H s1 := inv_start S hr.hd e0 nl r x
  refine wpAny_mono (ht.nox.run [] s1 (start N vs) H _ I hq) (fun fl s' hs => ?_) fun e s' hs => hs
  cases fl with
  | ret u =>
    obtain ⟨v, σ', H', J, rv, q⟩ := hs
    exact ⟨v, H', J.os, J.bare, J.base, J.hok, rv, q⟩
  | next =>
    obtain ⟨σ', H', J, q⟩ := hs
    exact ⟨V.non, H', J.os, J.bare, J.base, J.hok, rfl, q⟩
  | brk =>
    obtain ⟨_, _, _, q⟩ := hs
    exact False.elim q
  | cont =>
    obtain ⟨_, _, _, q⟩ := hs
    exact False.elim q
end
end Gd
namespace Lw
open PySem PySem.Spec PyProof.Rows L2 Evl Pd Gd Us Chk LamX LamK
abbrev TabT := List (Addr × Str)
def spSrt (T : TabT) : Sp := fun vs H Q _ => vs.length = 1 ∧ ∃ x ds, vs = [x] ∧ Dq H x (.list ds) ∧ (∀ d ∈ ds, Showy d) ∧ Tabs T H ∧ ∀ y H', ExtN H H' → Tabs T H' → Dq H' y (.list (sortD ds)) → Q y H'
section
variable {P : Program} {w : World} {K : PySem.W.Frag} {mg : Str → Option Value} {base : Heap} {f c tb : Addr} {fd : FuncData} {T : TabT}
end
end Lw
set_option maxHeartbeats 4000000
/-! try with several except clauses, each with a name or without. -/
namespace TryAs
open PySem PySem.Spec PyProof.Rows L2
/-- a clause: its class, the slot of its name, its suite -/
structure Cl where
  cls : Value
  slot : Option Nat
  ts : Addr → Value → Option Addr → TS
/-- the ends of a suite whose name is let go behind it -/
def less (i : Nat) (D : Ends) : Ends := { nx := fun σ H => D.nx (σ.set i none) H, rt := D.rt, bk := fun σ H => D.bk (σ.set i none) H, ct := fun σ H => D.ct (σ.set i none) H }
def runs (c : Cl) (a : Addr) (k : Value) (d : Option Addr) (D : Ends) (σ : L2.St) (H : Hp) : Prop := match c.slot with
  | none => c.ts a k d D σ H
  | some i => c.ts a k d (less i D) (σ.set i (some (.ref a))) H
/-- what the clauses wish of what flies, one after the other -/
def wish (K : PySem.W.Frag) (Wout : WX) (D : Ends) : List Cl → WX
  | [] => Wout
  | c :: r => fun k d σ H => ∃ b, PySem.W.exmOne K k c.cls = some b ∧ (b = true → ∀ a, H a = none → runs c a k d D σ H) ∧ (b = false → wish K Wout D r k d σ H)
inductive Cls (X : Cx) : List ExceptHandler → List Cl → Prop
  | nil : Cls X [] []
  | bare {x : Str} {c : Value} {ts : Addr → Value → Option Addr → TS} {st : Stmt} {suite : List Stmt} {p1 p2 : Pos} {hds : List ExceptHandler} {l : List Cl} (hc : Names X x c)
      (su : ∀ (a : Addr) (o : Obj) (k : Value) (d : Option Addr) (pn : List (Addr × Obj)), Zc k d o → (∃ vs, o.data = .fields vs) → PSs (X.suite a ((a, o) :: pn)) (st :: suite) (ts a k d)) (r : Cls X hds l) :
      Cls X (.ExceptHandler (some (.Name x p1)) none (st :: suite) p2 :: hds) (⟨c, none, ts⟩ :: l)
  | named {x n : Str} {i : Nat} {c : Value} {ts : Addr → Value → Option Addr → TS} {st : Stmt} {suite : List Stmt} {p1 p2 : Pos} {hds : List ExceptHandler} {l : List Cl} (hi : X.N[i]? = some n) (hl : X.env.kindOf n = some .local) (hc : Names X x c)
      (su : ∀ (a : Addr) (o : Obj) (k : Value) (d : Option Addr) (pn : List (Addr × Obj)), Zc k d o → (∃ vs, o.data = .fields vs) → PSs (X.suite a ((a, o) :: pn)) (st :: suite) (ts a k d)) (r : Cls X hds l) :
      Cls X (.ExceptHandler (some (.Name x p1)) (some n) (st :: suite) p2 :: hds) (⟨c, some i, ts⟩ :: l)
section
variable {X : Cx} {body : List Stmt} {h₀ : ExceptHandler} {hds : List ExceptHandler} {l : List Cl} {pos : Pos} {tb : WX → TS} {Wout : WX}
/-- what is known of the thing that flies, seen from the def that may catch it -/
structure Sees (X : Cx) (pins : List (Addr × Obj)) (σ : L2.St) (H : Hp) (B : Heap) (a : Addr) (k : Value) (d : Option Addr) (s : Shared) : Prop where
  inv : ∃ sI, Inv X pins σ H sI ∧ (∀ b o, sI.heap.get? b = some o → b ∉ frs X.stack → B.get? b = some o) ∧ sI.heap.UpToSlots s.heap ∧ s.os = sI.os ∧ AllBare s.gens
  fly : HandSPX.FlyingZ B (X.env :: X.outer) a (Zc k d) s.heap
  free : H a = none
theorem Sees.here {pins : List (Addr × Obj)} {σ : L2.St} {H : Hp} {B : Heap} {a : Addr} {k : Value} {d : Option Addr} {s : Shared} (v : Sees X pins σ H B a k d s) : Inv X pins σ H s := by
  obtain ⟨sI, J, nb, up, os, ag⟩ := v.inv
  exact J.landed nb v.fly.1 up os ag
theorem Sees.moved {pins : List (Addr × Obj)} {σ : L2.St} {H : Hp} {B : Heap} {a : Addr} {k : Value} {d : Option Addr} {s : Shared} (v : Sees X pins σ H B a k d s) {h' : Heap} (fl : HandSPX.FlyingZ B (X.env :: X.outer) a (Zc k d) h') (u : s.heap.UpToSlots h') :
    Sees X pins σ H B a k d { s with heap := h' } := by
  obtain ⟨sI, J, nb, up, os, ag⟩ := v.inv
  exact ⟨⟨sI, J, nb, up.trans u, os, ag⟩, fl, v.free⟩
theorem Sees.obj {pins : List (Addr × Obj)} {σ : L2.St} {H : Hp} {B : Heap} {a : Addr} {k : Value} {d : Option Addr} {s : Shared} (v : Sees X pins σ H B a k d s) (hf : X.env.frame = some X.env.locals) :
    ∃ o vs, s.heap.get? a = some o ∧ Zc k d o ∧ o.data = .fields vs ∧ Inv (X.suite a ((a, o) :: (X.pn ++ pins))) [] σ H s := by
  obtain ⟨o, vs, ho, hz, hd⟩ := v.fly.there
  have frames : s.heap.FunFrames B (X.env :: X.outer) := v.fly.2.2.1
  have out : a ∉ frs (X.env :: X.outer) := fun m => by
    obtain ⟨_, o', e', nd⟩ := frames.mem m
    rw [ho] at e'
    cases e'
    exact nd _ hd
  have n1 : a ≠ X.env.locals := fun z => out (List.mem_filterMap.mpr ⟨X.env, List.mem_cons_self, by rw [hf, z]⟩)
  have n2 : a ∉ X.fs := fun m => by
    obtain ⟨e, he, q⟩ := List.mem_filterMap.mp m
    exact out (List.mem_filterMap.mpr ⟨e, List.mem_cons_of_mem _ he, q⟩)
  exact ⟨o, vs, ho, hz, hd, v.here.suite ho hd v.free n1 n2⟩
/-- the clause's class, as the suite's context sees it -/
theorem sees_name {pins : List (Addr × Obj)} {σ : L2.St} {H : Hp} {a : Addr} {c : Value} {o : Obj} {s : Shared} {x : Str} {p1 : Pos} {Q E : Value → Shared → Prop} (S : Inv (X.suite a ((a, o) :: (X.pn ++ pins))) [] σ H s) (hc : Names X x c) (q : Q c s) :
    wpAny (model X.prog X.w) (X.A.mark (some (.ref a))) (eval (.Name x p1) X.env) Q E s := by
  obtain ⟨g, nd, m | ⟨m, bv, nn⟩⟩ := hc
  · exact ld_glob (X := X.suite a ((a, o) :: (X.pn ++ pins))) S g m q nd
  · exact ld_blt (X := X.suite a ((a, o) :: (X.pn ++ pins))) S g m bv q nn nd
theorem handled (stk : X.stack = X.env :: X.outer) (fr : X.env.frame = some X.env.locals) (nd : X.N.Nodup) (tk : Takes X Wout) {D : Ends} {pins : List (Addr × Obj)} {σ : L2.St} {H : Hp} {B : Heap} {a : Addr} {k : Value} {d : Option Addr} :
    ∀ {hds : List ExceptHandler} {l : List Cl}, Cls X hds l → ∀ {s : Shared}, Sees X pins σ H B a k d s → wish X.K Wout D l k d σ H → wpAny (model X.prog X.w) X.A (handleBy (.ref a) X.env hds) (SP X pins D) X.xe s := by
  intro hds l hk
  induction hk with
  | nil =>
    intro s v w
    refine wpAny_handleBy_nil ?_
    obtain ⟨_, _, _, o, vs, t, ot, _, ho, _, hd, h1, _⟩ := id v.fly
    unfold PySem.passOn
    refine wpAny_bind (wpAny_field ho hd h1 ?_)
    rw [if_neg (show ¬ ((Value.ref t == Value.none) = true) from by simp)]
    have away : wpAny (model X.prog X.w) X.A (setFlight (.ref a) X.env.frame) (fun _ s4 => wpAny (model X.prog X.w) X.A (throw (.ref a) : Sem Flow) (SP X pins D) X.xe s4) X.xe s := by
      rw [fr]
      obtain ⟨sI, J, nb, up, os, ag⟩ := v.inv
      refine HandSPX.setFlight_upZ v.fly fun h4 q4 u4 => wpAny_throw (tk _ _ ?_)
      exact ⟨a, B, sI, pins, σ, H, k, d, rfl, J, nb, up.trans u4, .inr (.inr (by rw [stk]; exact q4)), v.free, os, ag, w⟩
    first
      | exact wpAny_bind (wpAny_pure (wpAny_bind away))
      | exact wpAny_bind away
  | @bare x c ts st suite p1 p2 rest l2 hc su r ih =>
    intro s v w
    obtain ⟨b, e1, yes, no⟩ := w
    obtain ⟨o, vs, ho, hz, hd, S⟩ := v.obj fr
    refine wpAny_handleBy_cons (codeAny_handlers_test ?_) (by intro q; cases q)
    have lt : PySem.W.Looks (model X.prog X.w) s.heap (typeOf (.ref a)) k := fun A Q E s' kk q => wpAny_typeOf_ref (kk _ _ ho) (by rw [hz.1]; exact q)
    refine sees_name S hc ((PySem.W.exm_one (M := model X.prog X.w) v.here.kIn lt e1).here ?_)
    cases b with
    | false =>
      show wpAny _ X.A (handleBy (.ref a) X.env rest) _ _ _
      exact ih v (no rfl)
    | true =>
      refine codeAny_handlers_suite (HandSPX.lands_againZ v.fly fun h4 f4 u4 => ?_)
      have v4 := v.moved f4 u4
      obtain ⟨o4, vs4, ho4, hz4, hd4, S4⟩ := v4.obj fr
      have ok := v.here.ok
      refine wpAny_mono ((su a o4 k d (X.pn ++ pins) hz4 ⟨_, hd4⟩).run [] _ _ H _ S4 (yes rfl a v.free)) (fun f s6 hsp => ?_) (fun _ _ z => False.elim z)
      cases f with
      | ret u =>
        obtain ⟨v6, σ6, H6, S6, r6, q6⟩ := hsp
        exact ⟨_, _, _, S6.unsuite ok, r6, q6⟩
      | next | brk | cont =>
        obtain ⟨σ6, H6, S6, q6⟩ := hsp
        exact ⟨_, _, S6.unsuite ok, q6⟩
  | @named x n i c ts st suite p1 p2 rest l2 hi hl hc su r ih =>
    intro s v w
    obtain ⟨b, e1, yes, no⟩ := w
    obtain ⟨o, vs, ho, hz, hd, S⟩ := v.obj fr
    refine wpAny_handleBy_cons (codeAny_handlers_test ?_) (by intro q; cases q)
    have lt : PySem.W.Looks (model X.prog X.w) s.heap (typeOf (.ref a)) k := fun A Q E s' kk q => wpAny_typeOf_ref (kk _ _ ho) (by rw [hz.1]; exact q)
    refine sees_name S hc ((PySem.W.exm_one (M := model X.prog X.w) v.here.kIn lt e1).here ?_)
    cases b with
    | false =>
      show wpAny _ X.A (handleBy (.ref a) X.env rest) _ _ _
      exact ih v (no rfl)
    | true =>
      refine codeAny_handlers_suite_as (HandSPX.lands_againZ v.fly fun h4 f4 u4 => ?_)
      have v4 := v.moved f4 u4
      obtain ⟨o4, vs4, ho4, hz4, hd4, S4⟩ := v4.obj fr
      have ok := v.here.ok
      refine store_ok (X := X.suite a ((a, o4) :: (X.pn ++ pins))) (v := .ref a) S4 nd hi (.inl hl) rfl (fun s5 S5 => ?_) (.inr hl)
      refine wpAny_mono ((su a o4 k d (X.pn ++ pins) hz4 ⟨_, hd4⟩).run [] s5 _ H _ S5 (yes rfl a v.free)) (fun f s6 hsp => ?_) (fun _ _ z => False.elim z)
      have gone : ∀ {σ6 : L2.St} {H6 : Hp} {Q : Shared → Prop}, Inv (X.suite a ((a, o4) :: (X.pn ++ pins))) [] σ6 H6 s6 → (∀ s7, Inv X pins (σ6.set i none) H6 s7 → Q s7) →
          wpAny (model X.prog X.w) X.A (do bindName X.env n .none; unbindBehindTheSuite X.env n p2) (fun _ s7 => Q s7) X.xe s6 := fun {σ6 H6 Q} S6 q => gone_ok (S6.unsuite ok) nd hi hl q
      cases f with
      | ret u =>
        obtain ⟨v6, σ6, H6, S6, r6, q6⟩ := hsp
        exact gone S6 fun s7 J7 => ⟨_, _, _, J7, r6, q6⟩
      | next | brk | cont =>
        obtain ⟨σ6, H6, S6, q6⟩ := hsp
        exact gone S6 fun s7 J7 => ⟨_, _, J7, q6⟩
/-- try: body / except X as n: .. / except Y: .. -/
theorem ps_try_clauses (stk : X.stack = X.env :: X.outer) (fr : X.env.frame = some X.env.locals) (nd : X.N.Nodup) (tk : Takes X Wout)
    (hb : ∀ (W : WX) (pn : List (Addr × Obj)) (xe : Value → Shared → Prop), Takes (X.tr pn xe) W → PassesOwn (model X.prog X.w) X.A X.env xe → PSs (X.tr pn xe) body (tb W))
    (hh : Cls X (h₀ :: hds) l) : PS X (.Try body (h₀ :: hds) [] [] pos) (fun D σ H => tb (wish X.K Wout D l) D σ H) := by
  refine ⟨fun pins s σ H D I h => ?_⟩
  have ok := I.ok
  have frames : X.A.frames = some (X.env :: X.outer) := by rw [ok.frames, stk]
  refine wpAny_Try_except (wpAny_mono ((hb (wish X.K Wout D l) (X.pn ++ pins) (fun e s₁ => wpAny (model X.prog X.w) X.A (noteFrame e X.env) (fun _ s₂ => wpAny (model X.prog X.w) X.A (setFlight e none) (fun _ s₃ =>
    wpAny (model X.prog X.w) X.A (handleBy e X.env (h₀ :: hds)) (SP X pins D) X.xe s₃) X.xe s₂) X.xe s₁) (fun u s' xx => ?_) PassesOwn.looking).run [] s σ H D (I.toTry _) h) (fun f s1 hsp => ?_) (fun e s1 he => he))
  · obtain ⟨a, B, sI, pins', σ', H', k, d, rfl, J', nb, up, sky, na, os, ag, w⟩ := xx
    have J : Inv X pins σ' H' sI := J'.ofTry ok
    have sky' : Sky B (X.env :: X.outer) a (Zc k d) X.env.locals s'.heap := by rw [← stk]; exact sky
    show wpAny (model X.prog X.w) X.A (noteFrame (.ref a) X.env) _ _ _
    refine Sky.land Zc.steady frames fr sky' fun h3 f3 u3 => ?_
    exact handled stk fr nd tk hh ⟨⟨sI, J, nb, up.trans u3, os, ag⟩, f3, na⟩ w
  · cases f with
    | next =>
      obtain ⟨σ', H', J', q⟩ := hsp
      exact wpAny_execs_nil ⟨σ', H', J'.ofTry ok, q⟩
    | ret u =>
      obtain ⟨v, σ', H', J', r, q⟩ := hsp
      exact ⟨v, σ', H', J'.ofTry ok, r, q⟩
    | brk | cont =>
      obtain ⟨σ', H', J', q⟩ := hsp
      exact ⟨σ', H', J'.ofTry ok, q⟩
end
end TryAs
set_option maxHeartbeats 1000000
/-! Data, lists, comprehensions: what later laws share. -/
namespace Lw
open PySem PySem.Spec PyProof.Rows L2 Evl Pd Gd Us Chk LamX LamK
theorem toDe {K : PySem.W.Frag} {σ : L2.St} {H : Hp} {te : TE} {d : PyData} (h : EvP te σ H (Qe d)) : EvP te σ H (De K d) := h.imp fun _ _ _ p => dq_dp p
theorem p_ixQ {K : PySem.W.Frag} {σ : L2.St} {H : Hp} {te ti : TE} {ds : List PyData} {d : PyData} {i : Nat} (h : EvP te σ H (Qe (.list ds))) (hi : Ev ti σ H (.int (i : Int))) (e : ds[i]? = some d) : EvP (tOp (rIxL K) te ti) σ H (Qe d) := fun H1 a Q q =>
  h H1 a _ fun x H2 e1 p => hi H2 (a.trans e1) _ fun H3 e2 => by
    cases p with
    | lst z hl hD =>
      obtain ⟨y, h1, h2⟩ := dqAll_get hD e
      exact ⟨_, _, _, y, rfl, rfl, sq_of (e2 _ _ hl), Chk.atI_nat h1, q y H3 (e1.trans e2) (dq_up e2 h2)⟩
theorem dq_ext {H H' : Hp} (e : ExtN H H') {x : V} {d : PyData} (h : Dq H x d) : Dq H' x d := dq_by (fun _ _ h => e _ _ h fun _ z => nomatch z) (fun _ _ h => e _ _ h fun _ z => nomatch z) h
theorem dqAll_app {H : Hp} : ∀ {xs ys : List V} {as bs : List PyData}, DqAll H xs as → DqAll H ys bs → DqAll H (xs ++ ys) (as ++ bs)
  | _, _, _, _, .nil, h => h
  | _, _, _, _, .cons a t, h => .cons a (dqAll_app t h)
theorem cat_val {K : PySem.W.Frag} {H : Hp} {x y : V} {as bs : List PyData} {Q : VK} (p1 : Dq H x (.list as)) (p2 : Dq H y (.list bs)) (hz : as.length + bs.length ≤ 100000) (q : ∀ z H', Ex H H' → Dq H' z (.list (as ++ bs)) → Q z H') : rCat x y H Q := by
  cases p1 with
  | @lst a1 xs _ z1 hl1 d1 =>
    cases p2 with
    | @lst a2 ys _ z2 hl2 d2 =>
      have ln : (xs ++ ys).length = as.length + bs.length := by rw [List.length_append, dqAll_len d1, dqAll_len d2]
      exact ⟨a1, a2, xs, ys, rfl, rfl, hl1, hl2, by rw [dqAll_len d1, dqAll_len d2]; exact sz_of hz, fun p hp => q (.ref p) _ (Ex.new hp) (.lst (by rw [ln]; exact hz) upd_same (dqAll_up (Ex.new hp) (dqAll_app d1 d2)))⟩
section
variable {K : PySem.W.Frag} {σ : L2.St} {H : Hp} {te ta tb : TE} {tr : TA} {d e : PyData} {ds : List PyData} {l : Addr} {o : HO}
theorem q_cat {as bs : List PyData} (h1 : EvP ta σ H (Qe (.list as))) (h2 : EvP tb σ H (Qe (.list bs))) (hz : as.length + bs.length ≤ 100000) : EvP (tOp rCat ta tb) σ H (Qe (.list (as ++ bs))) := fun H1 a Q q =>
  h1 H1 a _ fun x H2 e p1 => h2 H2 (a.trans e) _ fun y H3 e2 p2 => by
    have p1 := mo_qe _ _ _ e2 p1
    cases p1 with
    | @lst a1 xs _ z1 hl1 d1 =>
      cases p2 with
      | @lst a2 ys _ z2 hl2 d2 =>
        have ln : (xs ++ ys).length = as.length + bs.length := by rw [List.length_append, dqAll_len d1, dqAll_len d2]
        refine ⟨a1, a2, xs, ys, rfl, rfl, hl1, hl2, by rw [dqAll_len d1, dqAll_len d2]; exact sz_of hz, fun p hp => q (.ref p) _ (e.trans (e2.trans (Ex.new hp))) (.lst (by rw [ln]; exact hz) upd_same (dqAll_up (Ex.new hp) ?_))⟩
        exact dqAll_app d1 d2
end
theorem q_asgRaw {σ : L2.St} {H : Hp} {D : Ends} {tz : TS} {tr : TA} {Ps : List PV} {i : Nat} (h : EvPs tr σ H Ps) (sz : Ps.length ≤ 100000) (k : ∀ xs H1, Ex H H1 → AllP Ps xs H1 → ∀ l, H1 l = none → tz D (σ.set i (some (.ref l))) (upd H1 l (.lst xs))) : tSeq (tAsg (tLst tr) (gName i)) tz D σ H :=
  h H (Ex.refl H) _ fun xs H1 e ps => ⟨by rw [ps.len]; exact sz_of sz, fun l hl => k xs H1 e ps l hl⟩
theorem allP_at : ∀ {Ps : List PV} {xs : List V} {H : Hp} {i : Nat} {x : V}, AllP Ps xs H → xs[i]? = some x → ∃ P ∈ Ps, P x H
  | [], [], _, _, _, _, e => by simp at e
  | [], _ :: _, _, _, _, h, _ => h.elim
  | _ :: _, [], _, _, _, h, _ => h.elim
  | P :: Ps, x :: xs, H, 0, y, h, e => by
    cases (show some x = some y from e)
    exact ⟨P, List.mem_cons_self, h.1⟩
  | P :: Ps, x :: xs, H, i + 1, y, h, e => by
    obtain ⟨R, h1, h2⟩ := allP_at h.2 (show xs[i]? = some y from e)
    exact ⟨R, List.mem_cons_of_mem _ h1, h2⟩
section
variable {K : PySem.W.Frag} {σ : L2.St} {H : Hp} {tl te : TE} {tt : TT} {j : Nat} {vs : List Nat}
/-- [.. for x in xs if ..] where no x passes -/
theorem p_lcNone {Ps : List PV} (hm : ∀ P ∈ Ps, Mo P) (h : EvP tl σ H (Lst Ps)) (hw : ∀ x, wipe ((wipe σ vs).set j (some x)) vs = wipe σ vs)
    (ht : ∀ P ∈ Ps, ∀ x H1, Ex H H1 → P x H1 → EvT tt ((wipe σ vs).set j (some x)) H1 false) : EvP (tLc (iList K tl) (gName j) tt te vs) σ H (LstV []) := fun H1 e Q q =>
  h H1 e _ fun x H2 e2 ⟨l, xs, ex, hl, ps⟩ => by
    subst ex
    refine ⟨l, rfl, ⟨xs, sq_of hl⟩, fun D hn => ?_⟩
    refine lc_list (xs := xs) (fun i H3 => Ex H2 H3 ∧ H3 D = some (.lst [])) ⟨Ex.new hn, upd_same⟩ (fun i H3 _ p => sq_of (p.1 _ _ hl)) (fun i x H3 hx p => ?_) fun H3 p => q (.ref D) H3 (e2.trans p.1) ⟨D, rfl, p.2⟩
    obtain ⟨e3, hD⟩ := p
    obtain ⟨P, hP, px⟩ := allP_at ps hx
    refine ⟨hw x, ht P hP x H3 (e.trans (e2.trans e3)) (hm P hP _ _ _ e3 px) H3 (Ex.refl _) _ fun H4 e4 => ?_⟩
    simp only [Bool.false_eq_true, if_false]
    exact ⟨e3.trans e4, e4 _ _ hD⟩
/-- [x for x in xs if f(x)] of data, xs made on the way -/
theorem p_lcF {ds : List PyData} (f : PyData → Bool) (h : EvP tl σ H (Qe (.list ds))) (hw : ∀ x, wipe ((wipe σ vs).set j (some x)) vs = wipe σ vs) (hv : ∀ x, ((wipe σ vs).set j (some x))[j]? = some (some x))
    (ht : ∀ d ∈ ds, ∀ x H1, Ex H H1 → Dq H1 x d → EvT tt ((wipe σ vs).set j (some x)) H1 (f d)) : EvP (tLc (iList K tl) (gName j) tt (tVar j) vs) σ H (Qe (.list (ds.filter f))) := fun H1 e Q q =>
  h H1 e _ fun x H2 e2 p => by
    cases p with
    | @lst l xs _ hz hl hD =>
      have ln := dqAll_len hD
      refine ⟨l, rfl, ⟨xs, sq_of hl⟩, fun D hn => ?_⟩
      refine lc_list (xs := xs) (fun i H3 => Ex H2 H3 ∧ ∃ ys, H3 D = some (.lst ys) ∧ DqAll H2 ys ((ds.take i).filter f) ∧ ys.length ≤ i) ⟨Ex.new hn, [], upd_same, .nil, Nat.le_refl _⟩ (fun i H3 _ p => sq_of (p.1 _ _ hl)) (fun i x H3 hx p => ?_) fun H3 p => ?_
      · obtain ⟨e3, ys, hy, hd, hl2⟩ := p
        obtain ⟨d, hd1, hd2⟩ := dqAll_at hD hx
        have il : i < xs.length := (List.getElem?_eq_some_iff.mp hx).1
        have grow : ds.take (i + 1) = ds.take i ++ [d] := by
          have k1 := (List.getElem?_eq_some_iff.mp hd1).1
          have k2 := (List.getElem?_eq_some_iff.mp hd1).2
          rw [← List.take_append_getElem k1, k2]
        refine ⟨hw x, ht d (List.mem_of_getElem? hd1) x H3 (e.trans (e2.trans e3)) (dq_up e3 hd2) H3 (Ex.refl _) _ fun H4 e4 => ?_⟩
        cases hf : f d with
        | true =>
          simp only [if_true]
          refine ⟨x, hv x, ys, e4 _ _ hy, sz_lt (by omega), (e3.trans e4).mut hn, ys ++ [x], upd_same, ?_, by simp; omega⟩
          rw [grow, List.filter_append, List.filter_cons_of_pos hf]
          exact dqAll_app hd (.cons hd2 .nil)
        | false =>
          simp only [Bool.false_eq_true, if_false]
          refine ⟨e3.trans e4, ys, e4 _ _ hy, ?_, by omega⟩
          rw [grow, List.filter_append, List.filter_cons_of_neg (by rw [hf]; decide), List.filter_nil, List.append_nil]
          exact hd
      · obtain ⟨e3, ys, hy, hd, hl2⟩ := p
        rw [ln, List.take_length] at hd
        exact q (.ref D) H3 (e2.trans e3) (.lst (by omega) hy (dqAll_up e3 hd))
theorem q_evS {te : TE} {s : Str} (h : EvP te σ H (Qe (.str s))) : Ev te σ H (.str s) := (h.imp (P' := Is (.str s)) fun x _ _ p => by cases p; rfl).ev
theorem q_evI {te : TE} {i : Int} (h : EvP te σ H (Qe (.int i))) : Ev te σ H (.int i) := (h.imp (P' := Is (.int i)) fun x _ _ p => by cases p; rfl).ev
theorem ev_qS {te : TE} {s : Str} (h : Ev te σ H (.str s)) : EvP te σ H (Qe (.str s)) := .of h mo_qe (.str s)
theorem ev_qI {te : TE} {i : Int} (h : Ev te σ H (.int i)) : EvP te σ H (Qe (.int i)) := .of h mo_qe (.int i)
end
section
variable {K : PySem.W.Frag} {σ : L2.St} {H : Hp} {te ta : TE} {tk : TO}
theorem dqAll_rev {H : Hp} {xs : List V} {ds : List PyData} (h : DqAll H xs ds) : DqAll H xs.reverse ds.reverse := by
  induction ds generalizing xs with
  | nil => cases h; exact .nil
  | cons d ds ih =>
    cases h with
    | cons a t =>
      rw [List.reverse_cons, List.reverse_cons]
      exact dqAll_app (ih t) (.cons a .nil)
theorem p_rev {ds : List PyData} (h : EvP te σ H (Qe (.list ds))) (hk : EvO tk σ H (some (-1))) : EvP (RevSl.tRevL K te tk) σ H (Qe (.list ds.reverse)) := fun H1 e Q q =>
  h H1 e _ fun x H2 e2 p => hk H2 (e.trans e2) _ fun H3 e3 => ⟨rfl, by
    have p := mo_qe _ _ _ e3 p
    cases p with
    | @lst a xs _ hz hl hd =>
      refine ⟨a, xs, rfl, sq_of hl, fun r hr => q (.ref r) _ (e2.trans (e3.trans (Ex.new hr))) (.lst (by rw [List.length_reverse]; exact hz) upd_same (dqAll_up (Ex.new hr) (dqAll_rev hd)))⟩⟩
theorem ev_dget {i : Nat} {p : Addr} {kvs : List (Key × V)} {key : Str} {v : V} (h : σ[i]? = some (some (.ref p))) (hp : H p = some (.dK kvs)) (hv : valV kvs (.inr key) = some v) : Ev (tDGet (tVar i) (tC (.str key))) σ H v := fun H1 e Q q =>
  ⟨_, h, p, v, rfl, by rw [← hv]; exact DGet.k (k := .inr key) (e _ _ hp), q H1 (Ex.refl _)⟩
/-- a list that was made on the way -/
def NewL (H0 : Hp) (xs : List V) : PV := fun x H' => ∃ l, x = .ref l ∧ H0 l = none ∧ H' l = some (.lst xs)
theorem mo_newL {H0 : Hp} {xs : List V} : Mo (NewL H0 xs) := fun _ _ _ e ⟨l, h1, h2, h3⟩ => ⟨l, h1, h2, e _ _ h3⟩
theorem p_newL {xs : List V} (h : EvL te σ H xs) : EvP te σ H (NewL H xs) := fun H1 e Q q => h H1 e Q fun p H2 hp e2 hl => q _ H2 e2 ⟨p, rfl, fresh_back e hp, hl⟩
end
/-- the tables over a list that was written -/
theorem tabs_lst {T : TabT} {H : Hp} {l : Addr} {xs ys : List V} (hl : H l = some (.lst xs)) (h : Tabs T H) : Tabs T (upd H l (.lst ys)) := fun p hp => by
  obtain ⟨ps, h1, h2, h3⟩ := h p hp
  refine ⟨ps, by rw [upd_ne (fun z => by rw [z, hl] at h1; cases h1)]; exact h1, h2, fun pos cv hc => ?_⟩
  obtain ⟨c, e1, e2⟩ := h3 pos cv hc
  exact ⟨c, e1, by rw [upd_ne (fun z => by rw [z, hl] at e2; have := Option.some.inj e2; unfold CodeO at this; cases this)]; exact e2⟩
theorem set_lst {C : Addr} {g : Stg} {H : Hp} {l : Addr} {xs ys : List V} {x : V} (hl : H l = some (.lst xs)) (h : SetV C g x H) : SetV C g x (upd H l (.lst ys)) := by
  obtain ⟨a, e, dx, d, fs, h1, h2, h3⟩ := h
  exact ⟨a, e, dx, d, fs, by rw [upd_ne (fun z => by rw [z, hl] at h1; cases h1)]; exact h1, by rw [upd_ne (fun z => by rw [z, hl] at h2; cases h2)]; exact h2, h3⟩
structure UseG (P : Program) (w : World) (K : PySem.W.Frag) (mg : Str → Option Value) (base : Heap) (k : Nat) (x : Str) (ps : List Str) (sp : Sp) : Prop where
  ex : ∃ f fd, mg x = some (.ref f) ∧ PySem.W.keepIn K (.ref f) = true ∧ L2.Binds K fd ps [] ∧ FnG P w K mg base CX0 k f fd ps sp
theorem pe_useG {X : Cx} {k j : Nat} {x : Str} {ps : List Str} {sp : Sp} {p pos : Pos} {e : Expr} {es : List Expr} {t : TA} (U : UseG X.prog X.w X.K X.mg X.base k x ps sp) (hr : Room j X.A) (hk : k ≤ j) (hu : X.A.guards = some []) (hg : Gl X x) (ha : PA X (e :: es) t)
    (hdb : (x == ("__debug__" : Str)) = false := by decide) (he : starEach (e :: es) X.env = (false, eval e X.env) :: starEach es X.env := by rfl) (hpl : (backTo pos (starEach es X.env)).any (·.1) = false := by rfl) :
    PE X (.Call (.Name x p) (e :: es) [] pos) (tCall sp [] (fun _ _ _ => False) t) := by
  obtain ⟨f, fd, m, kp, b, F⟩ := U.ex
  exact pe_callG F (hr.mono hk) hu hg m kp b pass0 ha hdb he hpl
end Lw
set_option maxHeartbeats 4000000
/-! k40: nested values as texts, over lists of code points; what is written is read back, what is bent is refused. -/
namespace N40
open PySem
def isOpen (x : Nat) : Bool := x == 40 || x == 91
def isClose (x : Nat) : Bool := x == 41 || x == 93
def clo (x : Nat) : Nat := if x = 40 then 41 else 93
abbrev St := List (Nat × List PyData)
def mkV (x : Nat) (xs : List PyData) : PyData := if x = 41 then .tuple xs else .list xs
def popL : St → Nat → Option St
  | (k, xs) :: (k2, ys) :: r, x => if k = x then some ((k2, ys ++ [mkV x xs]) :: r) else none
  | _, _ => none
def addAll (vs : List PyData) : St → Option St
  | (k, xs) :: r => some ((k, xs ++ vs) :: r)
  | [] => none
def pushes (st : St) (o : List Nat) : St := o.foldl (fun st x => (clo x, []) :: st) st
def openers (p : List Nat) : List Nat := p.takeWhile isOpen
def behind (p : List Nat) : List Nat := p.dropWhile isOpen
def plainOf (b : List Nat) : List Nat := (b.reverse.dropWhile isClose).reverse
def closers (b : List Nat) : List Nat := (b.reverse.takeWhile isClose).reverse
def isDig (x : Nat) : Bool := decide (48 ≤ x) && decide (x ≤ 57)
def isLet (x : Nat) : Bool := decide (97 ≤ x) && decide (x ≤ 122)
def digsOf (t : List Nat) : List Nat := if t.head? = some 45 then t.drop 1 else t
def isInt (t : List Nat) : Bool := decide (1 ≤ (digsOf t).length) && (decide ((digsOf t).length ≤ 40) && ((digsOf t).all isDig && (!decide ((digsOf t).head? = some 48) || decide (t = [48]))))
def constOf (t : List Nat) : Option PyData := if t = [78, 111, 110, 101] then some .none else if t = [84, 114, 117, 101] then some (.bool true) else if t = [70, 97, 108, 115, 101] then some (.bool false) else none
def isPlain (t : List Nat) : Bool := !decide (t = []) && ((constOf t).isSome || (t.all isLet || isInt t))
def valI (t : List Nat) : Int := (PySem.intText? (SX.S t)).getD 0
def plainVal (t : List Nat) : PyData := match constOf t with
  | some d => d
  | none => if isInt t then .int (valI t) else .str (SX.S t)
def takeL (st : St) (p : List Nat) : Option St :=
  if (pushes st (openers p)).length > 21 then none
  else if isPlain (plainOf (behind p)) then (addAll [plainVal (plainOf (behind p))] (pushes st (openers p))).bind fun s => (closers (behind p)).foldlM popL s
  else if plainOf (behind p) ≠ [] ∨ openers p = [] ∨ closers (behind p) = [] then none
  else (closers (behind p)).foldlM popL (pushes st (openers p))
def readP (ps : List (List Nat)) : Option PyData := match ps.foldlM takeL [(0, [])] with
  | some [(_, [d])] => some d
  | _ => none
def readL (t : List Nat) : Option PyData := readP (TL.spl [32] 0 [] t)
mutual
def wrL : PyData → List Nat
  | .str s => TL.tl s
  | .int i => TL.tl (Str.ofString (toString i))
  | .none => [78, 111, 110, 101]
  | .bool true => [84, 114, 117, 101]
  | .bool false => [70, 97, 108, 115, 101]
  | .tuple ds => 40 :: (TL.joinL [32] (wrAll ds) ++ [41])
  | .list ds => 91 :: (TL.joinL [32] (wrAll ds) ++ [93])
  | .dict _ => []
def wrAll : List PyData → List (List Nat)
  | [] => []
  | d :: ds => wrL d :: wrAll ds
end
/-- what stands at the leaves -/
structure LeafT (t : List Nat) (d : PyData) : Prop where
  plain : isPlain t = true
  val : plainVal t = d
  hd : ∃ a r, t = a :: r ∧ isOpen a = false
  lst : ∃ a r, t = r ++ [a] ∧ isClose a = false
  sp : 32 ∉ t
def Leaf (d : PyData) : Prop := LeafT (wrL d) d
def GoodV : Nat → PyData → Prop
  | 0, d => Leaf d
  | n + 1, d => Leaf d ∨ ∃ ds : List PyData, ds.length ≤ 3 ∧ (∀ x ∈ ds, GoodV n x) ∧ (d = .tuple ds ∨ d = .list ds)
theorem pop_same {k k2 : Nat} {xs ys : List PyData} {r : St} : popL ((k, xs) :: (k2, ys) :: r) k = some ((k2, ys ++ [mkV k xs]) :: r) := by
  show (if k = k then some ((k2, ys ++ [mkV k xs]) :: r) else none) = _
  rw [if_pos rfl]
theorem pop_other {k k2 x : Nat} {xs ys : List PyData} {r : St} (h : k ≠ x) : popL ((k, xs) :: (k2, ys) :: r) x = none := by
  show (if k = x then some ((k2, ys ++ [mkV x xs]) :: r) else none) = none
  rw [if_neg h]
theorem wrAll_map : ∀ ds, wrAll ds = ds.map wrL
  | [] => rfl
  | d :: ds => by rw [wrAll, wrAll_map ds]; rfl
theorem takeW_app {p : Nat → Bool} : ∀ (l r : List Nat), (∀ x ∈ l, p x = true) → (∀ a s, r = a :: s → p a = false) → (l ++ r).takeWhile p = l ∧ (l ++ r).dropWhile p = r
  | [], r, _, h => by
    cases r with
    | nil => exact ⟨rfl, rfl⟩
    | cons a s => have := h a s rfl; simp [List.takeWhile_cons, List.dropWhile_cons, this]
  | x :: l, r, hl, h => by
    have hx := hl x List.mem_cons_self
    have ih := takeW_app l r (fun y hy => hl y (List.mem_cons_of_mem _ hy)) h
    simp [List.takeWhile_cons, List.dropWhile_cons, hx, ih.1, ih.2]
/-- a piece, taken apart -/
theorem piece {o t c : List Nat} (ho : ∀ x ∈ o, isOpen x = true) (hc : ∀ x ∈ c, isClose x = true) (h1 : ∀ a s, t ++ c = a :: s → isOpen a = false) (h2 : t = [] ∨ ∃ a r, t = r ++ [a] ∧ isClose a = false) : openers (o ++ (t ++ c)) = o ∧ plainOf (behind (o ++ (t ++ c))) = t ∧ closers (behind (o ++ (t ++ c))) = c := by
  have a := takeW_app o (t ++ c) ho h1
  unfold openers behind
  rw [a.1, a.2]
  have hr : ∀ x ∈ c.reverse, isClose x = true := fun x hx => hc x (List.mem_reverse.mp hx)
  have b := takeW_app c.reverse t.reverse hr fun a s e => by
    rcases h2 with rfl | ⟨z, r, rfl, hz⟩
    · cases e
    · rw [List.reverse_append] at e
      cases e
      exact hz
  refine ⟨rfl, ?_, ?_⟩
  · unfold plainOf
    rw [List.reverse_append, b.2, List.reverse_reverse]
  · unfold closers
    rw [List.reverse_append, b.1, List.reverse_reverse]
theorem pushes_len (st : St) (o : List Nat) : (pushes st o).length = st.length + o.length := by
  unfold pushes
  induction o generalizing st with
  | nil => rfl
  | cons x o ih => rw [List.foldl_cons, ih]; simp only [List.length_cons]; omega
theorem pushes_snoc (st : St) (o : List Nat) (x : Nat) : pushes st (o ++ [x]) = (clo x, []) :: pushes st o := by
  unfold pushes
  rw [List.foldl_append]
  rfl
theorem pushes_ne {st : St} (h : st ≠ []) (o : List Nat) : pushes st o ≠ [] := fun z => by
  have := pushes_len st o
  rw [z] at this
  have := List.length_pos_iff.mpr h
  simp only [List.length_nil] at *
  omega
theorem open_not {a : Nat} (h : isClose a = true) : isOpen a = false := by
  unfold isClose at h
  unfold isOpen
  simp only [Bool.or_eq_true, beq_iff_eq, Bool.or_eq_false_iff, beq_eq_false_iff_ne] at *
  omega
/-- the pieces of a value's text, with openers ahead and closers behind -/
structure Pieces (o w c : List Nat) (n : Nat) (vs : List PyData) (ps : List (List Nat)) : Prop where
  ne : ps ≠ []
  join : TL.joinL [32] ps = o ++ (w ++ c)
  free : 32 ∉ o → 32 ∉ c → ∀ p ∈ ps, 32 ∉ p
  run : ∀ st : St, st.length + o.length + n ≤ 21 → ps.foldlM takeL st = (addAll vs (pushes st o)).bind fun s => c.foldlM popL s
theorem join_one (p : List Nat) : TL.joinL [32] [p] = p := rfl
theorem join_cons (p q : List Nat) (ps : List (List Nat)) : TL.joinL [32] (p :: q :: ps) = p ++ ([32] ++ TL.joinL [32] (q :: ps)) := by
  simp [TL.joinL]
theorem join_app : ∀ {ps qs : List (List Nat)}, ps ≠ [] → qs ≠ [] → TL.joinL [32] (ps ++ qs) = TL.joinL [32] ps ++ ([32] ++ TL.joinL [32] qs)
  | [], _, h, _ => absurd rfl h
  | [p], [], _, h => absurd rfl h
  | [p], q :: qs, _, _ => by rw [join_one]; exact join_cons p q qs
  | p :: p2 :: ps, qs, _, h => by
    have ih := join_app (ps := p2 :: ps) (qs := qs) (by simp) h
    rw [List.cons_append, List.cons_append, join_cons]
    rw [List.cons_append] at ih
    rw [ih, join_cons]
    simp [List.append_assoc]
theorem leaf_pieces {d : PyData} {o c : List Nat} {n : Nat} (h : Leaf d) (ho : ∀ x ∈ o, isOpen x = true) (hc : ∀ x ∈ c, isClose x = true) : Pieces o (wrL d) c n [d] [o ++ (wrL d ++ c)] := by
  obtain ⟨a, r, e, ha⟩ := h.hd
  have p := piece (o := o) (t := wrL d) (c := c) ho hc (fun x s z => by rw [e] at z; cases z; exact ha) (.inr h.lst)
  refine ⟨by simp, rfl, fun h1 h2 q hq => ?_, fun st hst => ?_⟩
  · rw [List.mem_singleton.mp hq]
    simp only [List.mem_append, not_or]
    exact ⟨h1, h.sp, h2⟩
  · rw [List.foldlM_cons]
    unfold takeL
    rw [p.1, p.2.1, p.2.2, pushes_len, if_neg (by omega), if_pos h.plain, h.val]
    cases (addAll [d] (pushes st o)).bind fun s => List.foldlM popL s c <;> rfl
/-- openers and closers that hold nothing -/
theorem none_pieces {o c : List Nat} {n x : Nat} (hx : x = 40 ∨ x = 91) (ho : ∀ x ∈ o, isOpen x = true) (hc : ∀ x ∈ c, isClose x = true) : Pieces o [x, clo x] c (n + 1) [mkV (clo x) []] [o ++ ([x, clo x] ++ c)] := by
  have ho2 : ∀ y ∈ o ++ [x], isOpen y = true := fun y hy => by
    rcases List.mem_append.mp hy with hy | hy
    · exact ho y hy
    · rw [List.mem_singleton.mp hy]
      rcases hx with rfl | rfl <;> rfl
  have hc2 : ∀ y ∈ clo x :: c, isClose y = true := fun y hy => by
    rcases List.mem_cons.mp hy with rfl | hy
    · rcases hx with rfl | rfl <;> rfl
    · exact hc y hy
  have p := piece (o := o ++ [x]) (t := []) (c := clo x :: c) ho2 hc2 (fun a s z => by cases z; exact open_not (hc2 _ List.mem_cons_self)) (.inl rfl)
  have e : o ++ [x] ++ ([] ++ clo x :: c) = o ++ ([x, clo x] ++ c) := by simp
  rw [e] at p
  refine ⟨by simp, rfl, fun h1 h2 q hq => ?_, fun st hst => ?_⟩
  · rw [List.mem_singleton.mp hq]
    simp only [List.mem_append, not_or]
    refine ⟨h1, ?_, h2⟩
    rcases hx with rfl | rfl <;> decide
  · rw [List.foldlM_cons]
    unfold takeL
    rw [p.1, p.2.1, p.2.2, pushes_len, if_neg (by rw [List.length_append, List.length_singleton]; omega), if_neg (by decide), if_neg (by simp), pushes_snoc, List.foldlM_cons]
    cases hs : pushes st o with
    | nil => rfl
    | cons k r =>
      obtain ⟨k2, ys⟩ := k
      show ((popL ((clo x, []) :: (k2, ys) :: r) (clo x)) >>= fun s => List.foldlM popL s c) >>= (fun s => pure s) = _
      have e1 : popL ((clo x, []) :: (k2, ys) :: r) (clo x) = some ((k2, ys ++ [mkV (clo x) []]) :: r) := pop_same
      rw [e1]
      show (List.foldlM popL ((k2, ys ++ [mkV (clo x) []]) :: r) c >>= fun s => pure s) = List.foldlM popL ((k2, ys ++ [mkV (clo x) []]) :: r) c
      cases List.foldlM popL ((k2, ys ++ [mkV (clo x) []]) :: r) c <;> rfl
theorem Pieces.app {o c w1 w2 : List Nat} {n : Nat} {v1 v2 : List PyData} {p1 p2 : List (List Nat)} (h1 : Pieces o w1 [] n v1 p1) (h2 : Pieces [] w2 c n v2 p2) : Pieces o (w1 ++ ([32] ++ w2)) c n (v1 ++ v2) (p1 ++ p2) := by
  refine ⟨by simp [h1.ne], ?_, fun a b p hp => ?_, fun st hst => ?_⟩
  · rw [join_app h1.ne h2.ne, h1.join, h2.join]
    simp [List.append_assoc]
  · rcases List.mem_append.mp hp with hp | hp
    · exact h1.free a (by simp) p hp
    · exact h2.free (by simp) b p hp
  · rw [List.foldlM_append, h1.run st hst]
    cases hs : pushes st o with
    | nil => rfl
    | cons k r =>
      obtain ⟨k2, ys⟩ := k
      have len := pushes_len st o
      rw [hs] at len
      have := h2.run ((k2, ys ++ v1) :: r) (by simp only [List.length_cons, List.length_nil] at *; omega)
      show List.foldlM takeL ((k2, ys ++ v1) :: r) p2 = _
      rw [this]
      show List.foldlM popL ((k2, ys ++ v1 ++ v2) :: r) c = List.foldlM popL ((k2, ys ++ (v1 ++ v2)) :: r) c
      rw [List.append_assoc]
theorem all_pieces {n : Nat} (ih : ∀ d, GoodV n d → ∀ o c : List Nat, (∀ x ∈ o, isOpen x = true) → (∀ x ∈ c, isClose x = true) → ∃ ps, Pieces o (wrL d) c n [d] ps) :
    ∀ (d : PyData) (ds : List PyData), (∀ x ∈ d :: ds, GoodV n x) → ∀ o c : List Nat, (∀ x ∈ o, isOpen x = true) → (∀ x ∈ c, isClose x = true) → ∃ ps, Pieces o (TL.joinL [32] ((d :: ds).map wrL)) c n (d :: ds) ps
  | d, [], h, o, c, ho, hc => ih d (h d List.mem_cons_self) o c ho hc
  | d, e :: ds, h, o, c, ho, hc => by
    obtain ⟨p1, h1⟩ := ih d (h d List.mem_cons_self) o [] ho (by simp)
    obtain ⟨p2, h2⟩ := all_pieces ih e ds (fun x hx => h x (List.mem_cons_of_mem _ hx)) [] c (by simp) hc
    refine ⟨p1 ++ p2, ?_⟩
    rw [List.map_cons, List.map_cons, join_cons]
    exact h1.app h2
theorem wrap {o w c : List Nat} {n x : Nat} {vs : List PyData} {ps : List (List Nat)} (hx : x = 40 ∨ x = 91) (h : Pieces (o ++ [x]) w (clo x :: c) n vs ps) : Pieces o (x :: (w ++ [clo x])) c (n + 1) [mkV (clo x) vs] ps := by
  refine ⟨h.ne, ?_, fun a b => h.free ?_ ?_, fun st hst => ?_⟩
  · rw [h.join]
    simp [List.append_assoc]
  · simp only [List.mem_append, not_or, List.mem_singleton]
    exact ⟨a, by omega⟩
  · simp only [List.mem_cons, not_or]
    refine ⟨?_, b⟩
    rcases hx with rfl | rfl <;> decide
  · rw [h.run st (by rw [List.length_append, List.length_singleton]; omega), pushes_snoc]
    cases hs : pushes st o with
    | nil => rfl
    | cons k r =>
      obtain ⟨k2, ys⟩ := k
      show List.foldlM popL ((clo x, [] ++ vs) :: (k2, ys) :: r) (clo x :: c) = List.foldlM popL ((k2, ys ++ [mkV (clo x) vs]) :: r) c
      rw [List.foldlM_cons]
      have e1 : popL ((clo x, [] ++ vs) :: (k2, ys) :: r) (clo x) = some ((k2, ys ++ [mkV (clo x) vs]) :: r) := pop_same
      rw [e1]
      rfl
theorem value_pieces : ∀ (n : Nat) (d : PyData), GoodV n d → ∀ o c : List Nat, (∀ x ∈ o, isOpen x = true) → (∀ x ∈ c, isClose x = true) → ∃ ps, Pieces o (wrL d) c n [d] ps
  | 0, d, h, o, c, ho, hc => ⟨_, leaf_pieces h ho hc⟩
  | n + 1, d, h, o, c, ho, hc => by
    rcases h with h | ⟨ds, _, hd, e⟩
    · exact ⟨_, leaf_pieces h ho hc⟩
    · have key : ∀ x : Nat, x = 40 ∨ x = 91 → ∃ ps, Pieces o (x :: (TL.joinL [32] (wrAll ds) ++ [clo x])) c (n + 1) [mkV (clo x) ds] ps := fun x hx => by
        cases ds with
        | nil => exact ⟨_, none_pieces hx ho hc⟩
        | cons a t =>
          obtain ⟨ps, h⟩ := all_pieces (value_pieces n) a t hd (o ++ [x]) (clo x :: c) (fun y hy => by
            rcases List.mem_append.mp hy with hy | hy
            · exact ho y hy
            · rw [List.mem_singleton.mp hy]
              rcases hx with rfl | rfl <;> rfl) fun y hy => by
            rcases List.mem_cons.mp hy with rfl | hy
            · rcases hx with rfl | rfl <;> rfl
            · exact hc y hy
          rw [wrAll_map]
          exact ⟨ps, wrap hx h⟩
      rcases e with rfl | rfl
      · exact key 40 (.inl rfl)
      · exact key 91 (.inr rfl)
theorem spl_of {ps : List (List Nat)} (ne : ps ≠ []) (h : ∀ p ∈ ps, 32 ∉ p) : TL.spl [32] 0 [] (TL.joinL [32] ps) = ps := TL.spl_join ne h
/-- what is written is read back -/
theorem read_back {n : Nat} {d : PyData} (h : GoodV n d) (hn : n ≤ 20) : readL (wrL d) = some d := by
  obtain ⟨ps, p⟩ := value_pieces n d h [] [] (by simp) (by simp)
  have e := spl_of p.ne (p.free (by simp) (by simp))
  rw [p.join] at e
  simp only [List.nil_append, List.append_nil] at e
  unfold readL readP
  rw [e, p.run [(0, [])] (by simp only [List.length_cons, List.length_nil]; omega)]
  rfl
/-! ### what is bent is refused -/
theorem readL_of {t : List Nat} {ps : List (List Nat)} (e : TL.joinL [32] ps = t) (ne : ps ≠ []) (h : ∀ p ∈ ps, 32 ∉ p) : readL t = readP ps := by
  unfold readL
  rw [← e, spl_of ne h]
theorem readP_none {ps : List (List Nat)} (h : ps.foldlM takeL [(0, [])] = none) : readP ps = none := by
  unfold readP
  rw [h]
theorem take_empty (st : St) : takeL st [] = none := by
  unfold takeL
  have e : plainOf (behind []) = [] := rfl
  rw [show openers [] = [] from rfl, e, show closers (behind []) = [] from rfl]
  split
  · rfl
  · rw [if_neg (by decide), if_pos (.inr (.inl rfl))]
theorem fold_bad {α β : Type} {f : α → β → Option α} {b : β} (hb : ∀ s, f s b = none) : ∀ (l r : List β) (s : α), (l ++ b :: r).foldlM f s = none
  | [], r, s => by rw [List.nil_append, List.foldlM_cons, hb]; rfl
  | x :: l, r, s => by
    rw [List.cons_append, List.foldlM_cons]
    cases f s x with
    | none => rfl
    | some s2 => exact fold_bad hb l r s2
theorem take_open (st : St) : takeL st [40] = none := by
  unfold takeL
  rw [show openers [40] = [40] from rfl, show plainOf (behind [40]) = [] from rfl, show closers (behind [40]) = [] from rfl]
  split
  · rfl
  · rw [if_neg (by decide), if_pos (.inr (.inr rfl))]
theorem take_close (st : St) : takeL st [41] = none := by
  unfold takeL
  rw [show openers [41] = [] from rfl, show plainOf (behind [41]) = [] from rfl]
  split
  · rfl
  · rw [if_neg (by decide), if_pos (.inr (.inl rfl))]
section
variable {n : Nat} {d : PyData}
theorem bent1 (h : GoodV n d) : readL (32 :: wrL d) = none := by
  obtain ⟨ps, p⟩ := value_pieces n d h [] [] (by simp) (by simp)
  have j := p.join
  simp only [List.nil_append, List.append_nil] at j
  rw [readL_of (ps := [] :: ps) (by cases ps with
    | nil => exact absurd rfl p.ne
    | cons a t => rw [join_cons, j]; rfl) (by simp) (fun q hq => by
      rcases List.mem_cons.mp hq with rfl | hq
      · simp
      · exact p.free (by simp) (by simp) q hq)]
  exact readP_none (fold_bad take_empty [] ps _)
theorem bent2 (h : GoodV n d) : readL (wrL d ++ [32]) = none := by
  obtain ⟨ps, p⟩ := value_pieces n d h [] [] (by simp) (by simp)
  have j := p.join
  simp only [List.nil_append, List.append_nil] at j
  rw [readL_of (ps := ps ++ [[]]) (by rw [join_app p.ne (by simp), j]; rfl) (by simp) (fun q hq => by
      rcases List.mem_append.mp hq with hq | hq
      · exact p.free (by simp) (by simp) q hq
      · rw [List.mem_singleton.mp hq]; simp)]
  exact readP_none (fold_bad take_empty ps [] _)
/-- behind openers and ahead of closers -/
theorem dec_run (h : GoodV n d) (hn : n ≤ 18) {o c : List Nat} (ho : ∀ x ∈ o, isOpen x = true) (hc : ∀ x ∈ c, isClose x = true) (lo : o.length ≤ 1) : readL (o ++ (wrL d ++ c)) = match (addAll [d] (pushes [(0, [])] o)).bind fun s => c.foldlM popL s with
    | some [(_, [d])] => some d
    | _ => none := by
  obtain ⟨ps, p⟩ := value_pieces n d h o c ho hc
  rw [readL_of p.join p.ne (p.free (fun z => by have := ho _ z; revert this; decide) (fun z => by have := hc _ z; revert this; decide))]
  unfold readP
  rw [p.run _ (by simp only [List.length_cons, List.length_nil]; omega)]
theorem bent3 (h : GoodV n d) (hn : n ≤ 18) : readL (40 :: wrL d) = none := by
  have := dec_run h hn (o := [40]) (c := []) (by decide) (by decide) (Nat.le_refl _)
  rw [List.append_nil] at this
  exact this
theorem bent4 (h : GoodV n d) (hn : n ≤ 18) : readL (wrL d ++ [41]) = none := dec_run h hn (o := []) (c := [41]) (by decide) (by decide) (by decide)
theorem bent5 (h : GoodV n d) (hn : n ≤ 18) : readL (40 :: (wrL d ++ [93])) = none := dec_run h hn (o := [40]) (c := [93]) (by decide) (by decide) (Nat.le_refl _)
theorem bent6 (h : GoodV n d) : readL (40 :: 32 :: (wrL d ++ [41])) = none := by
  obtain ⟨ps, p⟩ := value_pieces n d h [] [41] (by simp) (by decide)
  have j := p.join
  rw [readL_of (ps := [40] :: ps) (by cases ps with
    | nil => exact absurd rfl p.ne
    | cons a t => rw [join_cons, j]; rfl) (by simp) (fun q hq => by
      rcases List.mem_cons.mp hq with rfl | hq
      · decide
      · exact p.free (by simp) (by decide) q hq)]
  exact readP_none (fold_bad take_open [] ps _)
theorem bent7 (h : GoodV n d) : readL (40 :: (wrL d ++ [32, 41])) = none := by
  obtain ⟨ps, p⟩ := value_pieces n d h [40] [] (by decide) (by simp)
  have j := p.join
  rw [readL_of (ps := ps ++ [[41]]) (by rw [join_app p.ne (by simp), j]; simp [join_one]) (by simp) (fun q hq => by
      rcases List.mem_append.mp hq with hq | hq
      · exact p.free (by decide) (by simp) q hq
      · rw [List.mem_singleton.mp hq]; decide)]
  exact readP_none (fold_bad take_close ps [] _)
theorem bent8 (h : GoodV n d) (hn : n ≤ 18) : readL (wrL d ++ (32 :: wrL d)) = none := by
  obtain ⟨ps, p⟩ := value_pieces n d h [] [] (by simp) (by simp)
  have q := p.app p
  have j := q.join
  simp only [List.nil_append, List.append_nil] at j
  rw [show wrL d ++ (32 :: wrL d) = wrL d ++ ([32] ++ wrL d) from rfl, readL_of (ps := ps ++ ps) j q.ne (q.free (by simp) (by simp))]
  unfold readP
  rw [q.run _ (by simp only [List.length_cons, List.length_nil]; omega)]
  rfl
theorem bent9 (h : GoodV n d) : readL (40 :: 49 :: 32 :: 32 :: (wrL d ++ [41])) = none := by
  obtain ⟨ps, p⟩ := value_pieces n d h [] [41] (by simp) (by decide)
  have j := p.join
  rw [readL_of (ps := [40, 49] :: [] :: ps) (by cases ps with
    | nil => exact absurd rfl p.ne
    | cons a t => rw [join_cons, join_cons, j]; rfl) (by simp) (fun q hq => by
      rcases List.mem_cons.mp hq with rfl | hq
      · decide
      · rcases List.mem_cons.mp hq with rfl | hq
        · simp
        · exact p.free (by simp) (by decide) q hq)]
  exact readP_none (fold_bad take_empty [[40, 49]] ps _)
end
/-! ### these -/
def bents : List (List Nat) := [[], [45], [48, 49], [45, 48], [65], [110, 111, 110, 101, 49], List.replicate 41 49, [40, 44, 41], [110, 79, 110, 101], List.replicate 21 40 ++ List.replicate 21 41]
theorem bents_none : ∀ t ∈ bents, (readL t).isNone = true := by decide +kernel
def nest : Nat → PyData
  | 0 => .tuple []
  | n + 1 => .tuple [nest n]
end N40
set_option maxHeartbeats 4000000
/-! k40: the leaves. -/
namespace N40
open PySem
def okT (t : List Nat) : Bool := isPlain t && ((!decide (32 ∈ t)) && ((match t with
  | a :: _ => !isOpen a
  | [] => false) && (match t.reverse with
  | a :: _ => !isClose a
  | [] => false)))
theorem leaf_of {t : List Nat} {d : PyData} (h : okT t = true) (v : plainVal t = d) : LeafT t d := by
  unfold okT at h
  simp only [Bool.and_eq_true, Bool.not_eq_true', decide_eq_false_iff_not] at h
  obtain ⟨h1, h2, h3, h4⟩ := h
  refine ⟨h1, v, ?_, ?_, h2⟩
  · cases t with
    | nil => cases h3
    | cons a r => exact ⟨a, r, rfl, by simpa using h3⟩
  · cases e : t.reverse with
    | nil => rw [e] at h4; cases h4
    | cons a r =>
      rw [e] at h4
      refine ⟨a, r.reverse, ?_, by simpa using h4⟩
      have := congrArg List.reverse e
      rw [List.reverse_reverse, List.reverse_cons] at this
      exact this
def wordsV : List Str := ["a", "left", "none", "true", "zz", "set"]
def constsV : List PyData := [.none, .bool true, .bool false]
theorem word_okT : ∀ w ∈ wordsV, okT (TL.tl w) = true ∧ (constOf (TL.tl w)).isNone = true ∧ isInt (TL.tl w) = false := by decide +kernel
theorem leaf_word {w : Str} (h : w ∈ wordsV) : Leaf (.str w) := by
  obtain ⟨h1, h2, h3⟩ := word_okT w h
  refine leaf_of h1 ?_
  show plainVal (TL.tl w) = .str w
  unfold plainVal
  rw [Option.isNone_iff_eq_none.mp h2, h3]
  show PyData.str (SX.S (TL.tl w)) = .str w
  rw [SX.S_tl]
theorem leaf_const {d : PyData} (h : d ∈ constsV) : Leaf d := by
  unfold constsV at h
  simp only [List.mem_cons, List.not_mem_nil, or_false] at h
  rcases h with rfl | rfl | rfl
  · exact leaf_of (t := [78, 111, 110, 101]) (by decide +kernel) rfl
  · exact leaf_of (t := [84, 114, 117, 101]) (by decide +kernel) rfl
  · exact leaf_of (t := [70, 97, 108, 115, 101]) (by decide +kernel) rfl
/-- ints that may be drawn -/
inductive DrawnI : Int → Prop
  | small (n : Nat) : n < 10 → DrawnI (n : Int)
  | big (n : Nat) : n < 400 → DrawnI ((n ^ 15 : Nat) : Int)
  | neg (n : Nat) : n < 400 → DrawnI (Int.negSucc n)
theorem small_ok : (List.range 10).all (fun n => okT (TL.numL n) && isInt (TL.numL n) && (constOf (TL.numL n)).isNone) = true := by decide +kernel
theorem big_ok : (List.range 400).all (fun n => okT (TL.numL (n ^ 15)) && isInt (TL.numL (n ^ 15)) && (constOf (TL.numL (n ^ 15))).isNone) = true := by decide +kernel
theorem neg_ok : (List.range 400).all (fun n => okT (45 :: TL.numL (n + 1)) && isInt (45 :: TL.numL (n + 1)) && (constOf (45 :: TL.numL (n + 1))).isNone && decide (valI (45 :: TL.numL (n + 1)) = Int.negSucc n)) = true := by decide +kernel
theorem tl_neg (n : Nat) : TL.tl (Str.ofString (toString (Int.negSucc n))) = 45 :: TL.numL (n + 1) := by
  rw [TL.tl_ofString]
  show List.map Char.toNat ("-" ++ Nat.repr (n + 1)).toList = _
  rw [String.toList_append]
  have e := TL.tl_num (n + 1)
  rw [TL.tl_ofString] at e
  rw [List.map_append]
  show 45 :: _ = _
  congr 1
theorem leaf_nat {n : Nat} (h : (okT (TL.numL n) && isInt (TL.numL n) && (constOf (TL.numL n)).isNone) = true) (l : n < 10 ^ 40) : Leaf (.int (n : Int)) := by
  simp only [Bool.and_eq_true] at h
  obtain ⟨⟨h1, h2⟩, h3⟩ := h
  have e : wrL (.int (n : Int)) = TL.numL n := TL.tl_num n
  unfold Leaf
  rw [e]
  refine leaf_of h1 ?_
  unfold plainVal valI
  rw [Option.isNone_iff_eq_none.mp h3, h2]
  have v := TL.int_num (n := n) (Nat.le_trans (TL.numL_len (k := 40) (by decide) l) (by decide))
  have s : SX.S (TL.numL n) = Str.ofString (toString (n : Int)) := by rw [← TL.tl_num n, SX.S_tl]
  show PyData.int ((intText? (SX.S (TL.numL n))).getD 0) = .int n
  rw [s, v]
  rfl
theorem leaf_int {i : Int} (h : DrawnI i) : Leaf (.int i) := by
  cases h with
  | small n l => exact leaf_nat (List.all_eq_true.mp small_ok n (List.mem_range.mpr l)) (Nat.lt_of_lt_of_le l (by decide))
  | big n l => exact leaf_nat (n := n ^ 15) (List.all_eq_true.mp big_ok n (List.mem_range.mpr l)) (Nat.lt_of_le_of_lt (Nat.pow_le_pow_left (Nat.le_of_lt l) 15) (by decide))
  | neg n l =>
    have h := List.all_eq_true.mp neg_ok n (List.mem_range.mpr l)
    simp only [Bool.and_eq_true, decide_eq_true_eq] at h
    obtain ⟨⟨⟨h1, h2⟩, h3⟩, h4⟩ := h
    unfold Leaf
    rw [show wrL (.int (Int.negSucc n)) = 45 :: TL.numL (n + 1) from tl_neg n]
    refine leaf_of h1 ?_
    unfold plainVal
    rw [Option.isNone_iff_eq_none.mp h3, h2]
    show PyData.int (valI _) = _
    rw [h4]
end N40
set_option maxHeartbeats 1000000
/-! What an expression gives where the tables of code objects may grow. -/
namespace Lw
open PySem PySem.Spec PyProof.Rows L2 Evl Pd Gd Us Chk LamX LamK
def MoN (P : PV) : Prop := ∀ x H H', ExtN H H' → P x H → P x H'
theorem mon_is {v : V} : MoN (Is v) := fun _ _ _ _ h => h
theorem mon_qe {d : PyData} : MoN (Qe d) := fun _ _ _ e h => dq_ext e h
theorem mon_set {C : Addr} {g : Stg} : MoN (SetV C g) := fun _ _ _ e ⟨a, h, dx, d, fs, h1, h2, h3⟩ => ⟨a, h, dx, d, fs, e _ _ h1 fun _ z => (nomatch z), e _ _ h2 fun _ z => (nomatch z), h3⟩
theorem mon_pool {K : PySem.W.Frag} : MoN (PoolV K) := fun _ _ _ e ⟨p, a, h1, h2, ns, h3, h4, h5⟩ => ⟨p, a, h1, e _ _ h2 (fun _ z => by unfold poolO at z; cases z), ns, h3, h4, e _ _ h5 fun _ z => nomatch z⟩
theorem ext_sql {K : PySem.W.Frag} {H H' : Hp} {a : Addr} {xs : List V} (e : ExtN H H') (h : SqL K H a xs) : SqL K H' a xs := by
  rcases h with (h | ⟨o, h⟩) | h
  · exact .inl (.inl (e _ _ h fun _ z => nomatch z))
  · exact .inl (.inr ⟨o, e _ _ h fun _ z => nomatch z⟩)
  · exact .inr h
theorem nn {H H' : Hp} {p : Addr} (e : ExtN H H') (h : H' p = none) (t : ∀ ps, H p ≠ some (.tbl ps)) : H p = none := by
  cases h1 : H p with
  | none => rfl
  | some o =>
    have := e p o h1 fun ps z => t ps (by rw [h1, z])
    rw [h] at this
    cases this
def EN (T : TabT) (te : TE) (σ : L2.St) (H : Hp) (P : PV) : Prop := ∀ H1, ExtN H H1 → Tabs T H1 → ∀ Q : VK, (∀ x H2, ExtN H1 H2 → Tabs T H2 → P x H2 → Q x H2) → te σ H1 Q
def ENT (T : TabT) (tt : TT) (σ : L2.St) (H : Hp) (b : Bool) : Prop := ∀ H1, ExtN H H1 → Tabs T H1 → ∀ Q : Bool → Hp → Prop, (∀ H2, ExtN H1 H2 → Tabs T H2 → Q b H2) → tt σ H1 Q
section
variable {T : TabT} {σ : L2.St} {H : Hp} {te ta tb : TE} {P P1 P2 : PV} {K : PySem.W.Frag} {E : XK} {d e : PyData} {ds : List PyData} {t u : TT} {b c : Bool}
theorem n_of (h : ∀ H1, ExtN H H1 → EvP te σ H1 P) : EN T te σ H P := fun H1 e hT Q q => h H1 e H1 (Ex.refl _) Q fun x H2 e2 p => q x H2 (ExtN.of e2) (hT.ext e2) p
theorem n_ofE {v : V} (h : ∀ H1, ExtN H H1 → Ev te σ H1 v) : EN T te σ H (Is v) := n_of fun H1 e => .of (h H1 e) mo_is rfl
theorem nt_of (h : ∀ H1, ExtN H H1 → EvT t σ H1 b) : ENT T t σ H b := fun H1 e hT Q q => h H1 e H1 (Ex.refl _) Q fun H2 e2 => q H2 (ExtN.of e2) (hT.ext e2)
theorem nt_test (h : EN T te σ H (Is (.bl b))) : ENT T (tTest te) σ H b := fun H1 e hT Q q => h H1 e hT _ fun x H2 e2 t2 p => ⟨b, p, q H2 e2 t2⟩
theorem nt_and (h1 : ENT T t σ H b) (h2 : b = true → ENT T u σ H c) : ENT T (tAnd t u) σ H (b && c) := fun H1 e hT Q q => h1 H1 e hT _ fun H2 e2 t2 => by
  cases b with
  | true =>
    show u σ H2 Q
    exact h2 rfl H2 (e.trans e2) t2 Q fun H3 e3 t3 => q H3 (e2.trans e3) t3
  | false =>
    show Q false H2
    exact q H2 e2 t2
theorem n_ne (h1 : EN T ta σ H (Qe d)) (h2 : EN T tb σ H (Qe e)) (sd : SeqAt.shaped d = true) (se : SeqAt.shaped e = true) : EN T (tOp (rNeD K) ta tb) σ H (Is (.bl (!PyData.eqv d e))) := fun H1 a hT Q q =>
  h1 H1 a hT _ fun x H2 e2 t2 p1 => h2 H2 (a.trans e2) t2 _ fun y H3 e3 t3 p2 => ⟨d, e, dq_dp (dq_ext e3 p1), dq_dp p2, sd, se, q _ H3 (e2.trans e3) t3 rfl⟩
theorem n_eq (h1 : EN T ta σ H (Qe d)) (h2 : EN T tb σ H (Qe e)) (sd : SeqAt.shaped d = true) (se : SeqAt.shaped e = true) : EN T (tOp (rEqD K) ta tb) σ H (Is (.bl (PyData.eqv d e))) := fun H1 a hT Q q =>
  h1 H1 a hT _ fun x H2 e2 t2 p1 => h2 H2 (a.trans e2) t2 _ fun y H3 e3 t3 p2 => ⟨d, e, dq_dp (dq_ext e3 p1), dq_dp p2, sd, se, q _ H3 (e2.trans e3) t3 rfl⟩
theorem n_srt (h : EN T ta σ H (Qe (.list ds))) (hs : ∀ d ∈ ds, Showy d) : EN T (tCall (spSrt T) [] E (tCons ta tNil)) σ H (Qe (.list (sortD ds))) := fun H1 a hT Q q =>
  h H1 a hT _ fun x H2 e2 t2 p => ⟨rfl, x, ds, rfl, p, hs, t2, fun y H3 e3 t3 p2 => q y H3 (e2.trans e3) t3 p2⟩
/-! statements -/
variable {D : Ends} {tz tu tw : TS}
theorem n_when (h : ENT T t σ H false) (hT : Tabs T H) (k : ∀ H1, ExtN H H1 → Tabs T H1 → tz D σ H1) : tSeq (tIfS t tu tNext) tz D σ H := h H (ExtN.refl H) hT _ fun H1 e t1 => k H1 e t1
theorem n_whenE (h : ENT T t σ H false) (hT : Tabs T H) (k : ∀ H1, ExtN H H1 → Tabs T H1 → D.nx σ H1) : tIfS t tu tNext D σ H := h H (ExtN.refl H) hT _ fun H1 e t1 => k H1 e t1
theorem n_asg {i : Nat} (h : EN T te σ H P) (hT : Tabs T H) (k : ∀ x H1, ExtN H H1 → Tabs T H1 → P x H1 → tz D (σ.set i (some x)) H1) : tSeq (tAsg te (gName i)) tz D σ H := h H (ExtN.refl H) hT _ k
theorem n_ret (h : EN T te σ H P) (hT : Tabs T H) (k : ∀ x H1, ExtN H H1 → P x H1 → D.rt x H1) : tRet te D σ H := h H (ExtN.refl H) hT _ fun x H1 e _ p => k x H1 e p
end
section
variable {T : TabT} {K : PySem.W.Frag} {σ : L2.St} {H : Hp} {te ta tb tix : TE} {t : TT} {E : XK} {D : Ends} {tz : TS}
theorem nt_is {b c : Bool} (h : ENT T t σ H b) (e : b = c) : ENT T t σ H c := by
  rw [← e]
  exact h
/-- a new list gets an item and is forgotten -/
theorem q_appNew {ds : List PyData} {v : V} (ha : EvP ta σ H (fun y H' => (∃ r, y = .ref r ∧ H r = none) ∧ Qe (.list ds) y H')) (h : ∀ H1, Ex H H1 → Ev te σ H1 v) (hz : ds.length < 100000) (k : ∀ H1, Ex H H1 → tz D σ H1) :
    tSeq (tDrop (tBM K "list" rAppend ta (tCons te tNil))) tz D σ H := ha H (Ex.refl H) _ fun x H1 e1 ⟨⟨r, er, nr⟩, p⟩ => by
  subst er
  cases p with
  | @lst _ xs _ z hl hd =>
    exact ⟨Or.inl ⟨rfl, xs, sq_of hl⟩, h H1 e1 H1 (Ex.refl _) _ fun H2 e2 => ⟨r, xs, v, rfl, rfl, e2 _ _ hl, sz_lt (by rw [dqAll_len hd]; exact hz), k _ ((e1.trans e2).mut nr)⟩⟩
end
end Lw
set_option maxHeartbeats 4000000
/-! repr of data. -/
namespace Gd
open PySem PySem.Spec PyProof.Rows L2 Evl Pd
structure Repable (d : PyData) : Prop where
  sh : d.showable = true
  nd : d.hasDict = false
  dp : d.depth ≤ 40
  ln : d.shown.length ≤ sizeLine
  int : ∀ i, d = .int i → i.natAbs.log2 < 1920
def rReprD (K : PySem.W.Frag) : List V → Hp → VK → Prop := fun xs H Q => ∃ x d, xs = [x] ∧ Dp K H x d ∧ Repable d ∧ Q (.str d.shown) H
section
variable {X : Cx}
theorem cr_reprD (hg : X.A.guards = some []) (hu : X.A.units + 64 < cLine) : CallR X (.builtin "repr") (rReprD X.K) := by
  intro pins s σ H xs us Q I r h
  obtain ⟨x, d, rfl, hd, R, q⟩ := h
  obtain ⟨u, rfl, ru⟩ := vals1 r
  obtain ⟨as, rd⟩ := Dp.reads I d x u hd ru
  have fin : ∀ t : Tok, ∀ s', Inv X pins σ H s' → EP X pins σ Q (.str d.shown t) s' := fun t s' J => ⟨.str d.shown, H, J, ⟨t, rfl⟩, q⟩
  have big : ∀ {a : Addr}, Reads s.heap (.ref a) d as → wpAny (model X.prog X.w) X.A (call (.builtin "repr") [.ref a]) (EP X pins σ Q) X.xe s := fun {a} rd =>
    PySem.repr_of_reads' rd R.sh (PyData.noDict_hsm R.nd) hg (by have := R.dp; omega) (fun _ _ z => z) (fun h' t tk kp => fin t _ (I.kept (t' := tk) kp)) R.ln
  cases rd with
  | none => exact PySem.P.repr_of_none (by have := fin s.toks _ (I.tok (s.toks + 1)); simpa [PyData.shown] using this)
  | bool b => exact PySem.P.repr_of_bool (by have := fin s.toks _ (I.tok (s.toks + 1)); cases b <;> simpa [PyData.shown] using this)
  | int i t => exact PySem.P.repr_of_int (R.int i rfl) (by have := fin s.toks _ (I.tok (s.toks + 1)); simpa [PyData.shown] using this)
  | str y t => exact PySem.P.repr_of_str (by have := fin s.toks _ (I.tok (s.toks + 1)); simpa [PyData.shown] using this) (by have := R.ln; simpa [PyData.shown] using this)
  | list h1 h2 h3 h4 => exact big (.list h1 h2 h3 h4)
  | tuple h1 h2 h3 h4 => exact big (.tuple h1 h2 h3 h4)
  | dict h1 h2 h3 h4 h5 => exact big (.dict h1 h2 h3 h4 h5)
end
section
variable {K : PySem.W.Frag} {σ : L2.St} {H : Hp} {te : TE} {d : PyData}
theorem ev_reprD (h : EvP te σ H (De K d)) (R : Repable d) : Ev (tCB (rReprD K) (tCons te tNil)) σ H (.str d.shown) := fun H1 e Q q => h H1 e _ fun x H2 e2 p => ⟨x, d, rfl, p, R, q H2 e2⟩
end
end Gd
set_option maxHeartbeats 4000000
/-! == of two dicts whose values may be objects with an own __eq__: the first one is locked while they are compared. -/
namespace EqD
open PySem PySem.W PySem.Calls PyProof.Rows PySem.Spec L2 Evl
def allV (f : Key → Bool) (ks ls : List (Key × V)) : Bool := ks.all fun p => (valV ls p.1).elim false fun _ => f p.1
def sameV (f : Key → Bool) (ks ls : List (Key × V)) : Bool := ks.length == ls.length && allV f ks ls
section
variable {X : Cx} {pins : List (Addr × Obj)} {σ : L2.St} {H : Hp} {s : Shared} {a b : Addr} {od : Obj} {ks ls : List (Key × V)} {f : Key → Bool} {A : Around}
/-- one value beside another, from any later heap -/
def StepOk (X : Cx) (A : Around) (pins : List (Addr × Obj)) (σ : L2.St) (H : Hp) (b : Bool) (x y : V) : Prop :=
  ∀ (s1 : Shared) (H1 : Hp) (v u : Value) (Q : Bool → Shared → Prop), Ex H H1 → Inv X pins σ H1 s1 → RelV x v → RelV y u → (∀ s2 H2, Ex H1 H2 → Inv X pins σ H2 s2 → Q b s2) → wpAny (model X.prog X.w) A (eqBool v u) Q X.xe s1
theorem same_pairsI {nm : String} {Q : Bool → Shared → Prop} (I : Inv X pins σ H s) (ha : H a = some (.frz od (.dK ks))) (hb : Rd H b (.dK ls)) (step : ∀ p ∈ ks, ∀ y, valV ls p.1 = some y → StepOk X A pins σ H (f p.1) p.2 y)
    (q : ∀ s2 H2, Ex H H2 → Inv X pins σ H2 s2 → Q (sameV f ks ls) s2) : wpAny (model X.prog X.w) A (Builtin.Dict.samePairs nm a b) Q X.xe s := by
  obtain ⟨na, hoa, _, es, ep, vs, hda, hsz, kv, dat⟩ := I.frzK ha
  obtain ⟨_, nb, vb, rb, db⟩ := dk_rd I.hok hb
  obtain ⟨ob, fs, fp, hob, _, hdb, hkb, hpb, _⟩ := id db
  obtain ⟨oa', es', hoa', _, hda', hka, hpa, _⟩ := dat
  cases (hoa.symm.trans hoa')
  cases (hda.symm.trans hda')
  have lb : fs.size = ls.length := by
    have := hpb.length
    rw [Array.length_toList] at this
    rw [this, ← rb.length]
  unfold Builtin.Dict.samePairs Builtin.Dict.showsAll
  rw [if_neg (show ¬ (a == sysModules) = true by rw [na]; exact Bool.false_ne_true), if_neg (show ¬ (b == sysModules) = true by rw [nb]; exact Bool.false_ne_true)]
  refine wpAny_bind (wpAny_pure (wpAny_bind (wpAny_pure (wpAny_bind (wpAny_dictEntries hoa hda ?_)))))
  dsimp only
  refine wpAny_bind (wpAny_dictEntries hob hdb ?_)
  have lk : es.size = ks.length := hsz
  by_cases sz : es.size = fs.size
  case neg =>
    rw [if_pos (by simpa using sz)]
    have no : sameV f ks ls = false := by
      unfold sameV
      have : (ks.length == ls.length) = false := by
        rw [← lk, ← lb]
        simpa using sz
      rw [this, Bool.false_and]
    have := q s H (Ex.refl H) I
    rw [no] at this
    exact wpAny_bind (wpAny_rule (wpAny_pure this))
  case pos =>
    have len : (ks.length == ls.length) = true := by rw [← lk, ← lb]; simpa using sz
    have q1 : ∀ s2 H2, Ex H H2 → Inv X pins σ H2 s2 → Q (allV f ks ls) s2 := fun s2 H2 e J => by
      have := q s2 H2 e J
      unfold sameV at this
      rwa [len, Bool.true_and] at this
    rw [if_neg (by rw [sz]; simp)]
    refine wpAny_bind (wpAny_dictEpoch hoa hda (wpAny_bind ?_))
    rw [Std.Legacy.Range.forIn_eq_forIn_range']
    simp only [Std.Legacy.Range.size, Nat.sub_zero, Nat.add_sub_cancel, Nat.div_one]
    refine wpAny_forIn_list _ (fun rest r s1 => r = (none, ()) ∧ ∃ i H1, rest = List.range' i (es.size - i) ∧ i ≤ es.size ∧ Ex H H1 ∧ Inv X pins σ H1 s1 ∧ allV f ks ls = allV f (ks.drop i) ls) _ ?turn ?done _ _ ⟨rfl, 0, H, by simp, Nat.zero_le _, Ex.refl H, I, by simp⟩
    case done =>
      rintro r s1 ⟨rfl, i, H1, hr, hi, e1, J, hp⟩
      have at_end : i = es.size := by
        rcases Nat.lt_or_ge i es.size with c | c
        · have e : es.size - i = (es.size - (i + 1)) + 1 := by omega
          rw [e, List.range'_succ] at hr
          exact nomatch hr
        · exact Nat.le_antisymm hi c
      refine wpAny_pure ?_
      rw [at_end, lk, List.drop_length] at hp
      have := q1 s1 H1 e1 J
      rw [hp] at this
      exact this
    case turn =>
      rintro j rest r s1 ⟨rfl, i, H1, hr, hi, e1, J, hp⟩
      have lt : i < es.size := by
        rcases Nat.lt_or_ge i es.size with c | c
        · exact c
        · rw [Nat.sub_eq_zero_of_le c] at hr
          simp at hr
      obtain ⟨rfl, hrest⟩ : j = i ∧ rest = List.range' (i + 1) (es.size - (i + 1)) := by
        have e : es.size - i = (es.size - (i + 1)) + 1 := by omega
        rw [e, List.range'_succ] at hr
        injection hr with r1 r2
        exact ⟨r1, r2⟩
      -- the dicts as they stand here
      obtain ⟨_, hoa1, _⟩ := J.frzK (e1 _ _ ha)
      obtain ⟨_, nb1, vb1, rb1, ob1, fs1, fp1, hob1, _, hdb1, hkb1, hpb1, _⟩ := dk_rd J.hok (ex_rd e1 hb)
      have hfind : ∀ k, findBy (mixKind X.prog X.w).is fs1 k = valueAt vb1 k := fun k => by
        rw [← hpb1.find k]
        clear hpb1 hkb1 hdb1
        obtain ⟨l⟩ := fs1
        simp [findBy]
      have ltk : j < ks.length := by rw [← lk]; exact lt
      obtain ⟨k, x, hx⟩ : ∃ k x, ks[j] = (k, x) := ⟨_, _, rfl⟩
      have mem : (k, x) ∈ ks := by rw [← hx]; exact List.getElem_mem ltk
      have dr : ks.drop j = (k, x) :: ks.drop (j + 1) := by rw [← hx]; exact List.drop_eq_getElem_cons ltk
      obtain ⟨p2, hp2, hk2, hv2⟩ : ∃ p2, vs[j]? = some p2 ∧ k = p2.1 ∧ RelV x p2.2 := by
        have : ∀ {l : List (Key × V)} {m : List (Key × Value)} {n : Nat} {p : Key × V}, KV l m → l[n]? = some p → ∃ p2, m[n]? = some p2 ∧ p.1 = p2.1 ∧ RelV p.2 p2.2 := by
          intro l m n p r
          unfold KV at r
          induction r generalizing n with
          | nil => intro h; simp at h
          | cons h t ih =>
            intro hn
            cases n with
            | zero => cases hn; exact ⟨_, rfl, h.1, h.2⟩
            | succ n => exact ih hn
        exact this kv (by rw [List.getElem?_eq_getElem ltk, hx])
      obtain ⟨hkey, hval⟩ := hpa.get? (i := j) (e := es[j]) (k := p2.1) (v := p2.2) (by rw [Array.getElem?_toList]; exact Array.getElem?_eq_getElem lt) hp2
      rw [← hk2] at hkey
      obtain ⟨k', hk', hh⟩ := hka es[j] (Array.getElem_mem lt)
      have ekk : k' = k := (mixKind X.prog X.w).inj _ _ _ hk' hkey
      rw [ekk] at hh
      refine wpAny_bind (wpAny_dictEntries hoa1 hda ?_)
      rw [Array.getElem?_eq_getElem lt]
      show wpAny _ _ (holding [es[j].key, es[j].val] _ >>= _) _ _ _
      rw [hh]
      refine wpAny_bind (wpAny_holding (wpAny_bind (wpAny_dictFind_of hkey hob1 hdb1 hkb1 ?_)))
      have un : allV f (ks.drop j) ls = ((valV ls k).elim false (fun _ => f k) && allV f (ks.drop (j + 1)) ls) := by
        rw [dr]
        unfold allV
        rw [List.all_cons]
      have rel := rb1.val k
      cases hj : fs1.findIdx? fun e => (mixKind X.prog X.w).is k e.key with
      | none =>
        have hn : valueAt vb1 k = none := by rw [← hfind k, findBy_of_findIdx?, hj]
        rw [hn] at rel
        have hv0 : valV ls k = none := by
          cases h : valV ls k with
          | none => rfl
          | some _ => rw [h] at rel; exact (show False from rel).elim
        have no : allV f ks ls = false := by rw [hp, un, hv0]; rfl
        refine wpAny_pure ?_
        show wpAny _ _ (if (!false) = true then _ else _) _ _ _
        rw [if_pos (by decide)]
        have := q1 s1 H1 e1 J
        rw [no] at this
        exact wpAny_pure (wpAny_pure this)
      | some m =>
        obtain ⟨hml, _, _⟩ := Array.findIdx?_eq_some_iff_getElem.mp hj
        have hv' : valueAt vb1 k = some fs1[m].val := by
          rw [← hfind k, findBy_of_findIdx?, hj]
          simp [Array.getElem?_eq_getElem hml]
        rw [hv'] at rel
        obtain ⟨y, hy, ry⟩ : ∃ y, valV ls k = some y ∧ RelV y fs1[m].val := by
          cases h : valV ls k with
          | none => rw [h] at rel; exact (show False from rel).elim
          | some y => rw [h] at rel; exact ⟨y, rfl, rel⟩
        refine wpAny_bind (wpAny_dictEntries hob1 hdb1 ?_)
        rw [Array.getElem?_eq_getElem hml]
        refine wpAny_holding (step (k, x) mem y hy s1 H1 _ _ _ e1 J (by rw [hval]; exact hv2) ry fun s2 H2 e2 J2 => ?_)
        rw [hy] at un
        cases e : f k with
        | false =>
          have no : allV f ks ls = false := by rw [hp, un]; show (f k && _) = false; rw [e]; rfl
          show wpAny _ _ (if (!false) = true then _ else _) _ _ _
          rw [if_pos (by decide)]
          have := q1 s2 H2 (e1.trans e2) J2
          rw [no] at this
          exact wpAny_pure (wpAny_pure this)
        | true =>
          have on : allV f ks ls = allV f (ks.drop (j + 1)) ls := by rw [hp, un]; show (f k && _) = _; rw [e, Bool.true_and]
          show wpAny _ _ (if (!true) = true then _ else _) _ _ _
          rw [if_neg (by decide)]
          obtain ⟨_, hoa2, _⟩ := J2.frzK ((e1.trans e2) _ _ ha)
          refine wpAny_bind (wpAny_dictEpoch hoa2 hda ?_)
          rw [if_neg (by simp)]
          exact wpAny_pure ⟨rfl, j + 1, H2, hrest, lt, e1.trans e2, J2, on⟩
theorem eq_dictsI {Q : Value → Shared → Prop} (hA : A.units < cLine) (I : Inv X pins σ H s) (ha : H a = some (.frz od (.dK ks))) (hb : Rd H b (.dK ls)) (step : ∀ p ∈ ks, ∀ y, valV ls p.1 = some y → StepOk X A.in1 pins σ H (f p.1) p.2 y)
    (q : ∀ s2 H2, Ex H H2 → Inv X pins σ H2 s2 → Q (.bool (sameV f ks ls)) s2) : wpAny (model X.prog X.w) A (richCompare .Eq (.ref a) (.ref b)) Q X.xe s := by
  obtain ⟨_, _, _, _, da⟩ := dk_rd I.hok (.inr ⟨od, ha⟩)
  obtain ⟨_, _, _, _, db⟩ := dk_rd I.hok hb
  refine wpAny_richCompare_same_room (op := .Eq) da.typeIs db.typeIs PySem.F.slot_dict_eq (wpAny_call_entry PySem.F.slot_dict_eq da.typeIs PySem.F.entry_dict_eq ?_ (PySem.F.args_dict_eq_2 _ _)) hA
  show wpAny _ _ (Builtin.Dict.dictSlotArgs "__eq__" ⟨[.ref a, .ref b], []⟩ >>= _) _ _ s
  refine wpAny_bind ?_
  unfold Builtin.Dict.dictSlotArgs
  refine wpAny_bind (wpAny_notOrdered_dict da.typeIs ?_)
  show wpAny _ _ (pure (Value.ref a, Value.ref b)) _ _ s
  refine wpAny_pure (wpAny_bind (wpAny_isInstance (T := "dict") db.typeIs PySem.F.sub_dict_dict ?_))
  simp only [Bool.not_true, Bool.false_eq_true, if_false]
  refine wpAny_bind (wpAny_pure (wpAny_bind (wpAny_pure (wpAny_bind (same_pairsI I ha hb step fun s2 H2 e J => ?_)))))
  exact wpAny_pure ⟨_, rfl, (fun x => nomatch x), by simpa using q s2 H2 e J⟩
/-- the reading: x == y, dicts whose keys are texts and numbers; f tells of each key whether its values are equal -/
def rEqD (ok : V → V → Bool → Hp → Prop) : R2 := fun x y H Q => ∃ (a b : Addr) (ks ls : List (Key × V)) (f : Key → Bool), x = .ref a ∧ y = .ref b ∧ H a = some (.dK ks) ∧ H b = some (.dK ls) ∧
  (∀ p ∈ ks, ∀ z, valV ls p.1 = some z → ∀ H1, (∀ c o, c ≠ a → H c = some o → H1 c = some o) → ok p.2 z (f p.1) H1) ∧ ∀ H', Ex H H' → Q (.bl (sameV f ks ls)) H'
theorem ex_lock {H H' : Hp} {d : Addr} {u : HO} {od : Obj} (h : H d = some u) (e : Ex (upd H d (.frz od u)) H') : Ex H (upd H' d u) := fun c o hc => by
  by_cases z : c = d
  · rw [z, upd_same]
    rw [z, h] at hc
    exact hc
  · rw [upd_ne z]
    exact e c o (by rw [upd_ne z]; exact hc)
theorem op_eqD {ok : V → V → Bool → Hp → Prop} (hu : X.A.units < cLine) (step : ∀ (pins : List (Addr × Obj)) (σ : L2.St) (H : Hp) (x y : V) (b : Bool), (∀ H1, Ex H H1 → ok x y b H1) → StepOk X X.A.in1 pins σ H b x y) : OpR X (compareOp .Eq) (rEqD ok) := by
  intro pins s σ H x y v u Q I rx ry h
  obtain ⟨a, b, ks, ls, f, rfl, rfl, ea, eb, hs, q⟩ := h
  obtain rfl : v = Value.ref a := rx
  obtain rfl : u = Value.ref b := ry
  obtain ⟨od, J⟩ := I.lock ea trivial
  have hb : Rd (upd H a (.frz od (.dK ks))) b (.dK ls) := by
    by_cases z : b = a
    · rw [z] at eb ⊢
      rw [ea] at eb
      cases eb
      exact .inr ⟨od, upd_same⟩
    · exact .inl (by rw [upd_ne z]; exact eb)
  have goal : wpAny (model X.prog X.w) X.A (richCompare .Eq (.ref a) (.ref b)) (EP X pins σ Q) X.xe s := by
    refine eq_dictsI hu J upd_same hb (fun p hp y hy => step pins σ _ p.2 y _ fun H1 e1 => hs p hp y hy H1 fun c o hc ho => e1 c o (by rw [upd_ne hc]; exact ho)) fun s2 H2 e2 J2 => ?_
    exact ⟨.bl _, _, J2.unlock (e2 _ _ upd_same) (I.nofrz ea trivial), rfl, q _ (ex_lock ea e2)⟩
  exact goal
end
end EqD
set_option maxHeartbeats 4000000
/-! Comprehensions over any walk; what is told inside a lock. -/
namespace Wlk
open PySem PySem.Spec PyProof.Rows L2 Evl Pd
section
variable {K : PySem.W.Frag} {σ : L2.St} {H H' : Hp} {te : TE} {t : TT}
theorem Cw.up {f : Nat → Bool} {v : Nat → V} {D : Addr} {i : Nat} {H2 : Hp} (p : Cw H f v D i H') (e : Ex H' H2) : Cw H f v D i H2 := ⟨p.1, p.2.1.trans e, e _ _ p.2.2⟩
theorem cw_step {f : Nat → Bool} {v : Nat → V} {D : Addr} {i : Nat} {σ2 : L2.St} (p : Cw H f v D i H') (hi : i < 50000) (ht : EvT t σ2 H' (f i)) (he : f i = true → Ev te σ2 H' (v i)) :
    t σ2 H' fun b H3 => if b = true then te σ2 H3 fun y H4 => ∃ acc, H4 D = some (.lst acc) ∧ acc.length < sizeLine ∧ Cw H f v D (i + 1) (upd H4 D (.lst (acc ++ [y]))) else Cw H f v D (i + 1) H3 := by
  obtain ⟨p1, p2, p3⟩ := p
  refine ht H' (Ex.refl _) _ fun H3 e3 => ?_
  cases hf : f i with
  | true =>
    show te σ2 H3 fun y H4 => ∃ acc, H4 D = some (.lst acc) ∧ acc.length < sizeLine ∧ Cw H f v D (i + 1) (upd H4 D (.lst (acc ++ [y])))
    refine he hf H3 e3 _ fun H4 e4 => ⟨given i f v, e4 D _ (e3 D _ p3), sz_lt (by have := given_len i f v; omega), p1, Ex.mut ((p2.trans e3).trans e4) p1, ?_⟩
    rw [given_yes hf]
    exact upd_same
  | false =>
    show Cw H f v D (i + 1) H3
    refine ⟨p1, p2.trans e3, ?_⟩
    rw [given_no hf]
    exact e3 D _ p3
/-- [.. for target in a walk if ..] -/
theorem el_lcW {wi : TI} {J : It} {n : Nat} {G : Hp → Prop} {Y : Nat → Hp → V → Hp → Prop} {g : TG} {vs : List Nat} (f : Nat → Bool) (v : Nat → V) (w : Walk J n G Y) (hn : n ≤ 40000)
    (hwi : ∀ H1, Ex H H1 → ∀ R : It → Hp → Prop, (∀ H2, Ex H1 H2 → R J H2) → wi σ H1 R) (hG : ∀ H1, Ex H H1 → G H1)
    (step : ∀ (i : Nat) (x : V) (H1 H2 : Hp), i < n → Ex H H1 → Y i H1 x H2 → Ex H1 H2 ∧ ∃ σ2, (∀ k : L2.St → Hp → Prop, k σ2 H2 → g x (wipe σ vs) H2 k) ∧ wipe σ2 vs = wipe σ vs ∧ EvT t σ2 H2 (f i) ∧ (f i = true → Ev te σ2 H2 (v i))) :
    EvL (tLc wi g t te vs) σ H (given n f v) := fun H0 e Q q => hwi H0 e _ fun H1 e1 D hD =>
  lc_it w (Cw H1 f v D) ⟨hD, Ex.new hD, upd_same⟩ (fun i H' _ p => hG H' ((e.trans e1).trans p.2.1)) (fun i x H2 H3 hi p y => by
    obtain ⟨e3, σ2, gk, hw, ht, he⟩ := step i x H2 H3 hi ((e.trans e1).trans p.2.1) y
    exact gk _ ⟨hw, cw_step (Cw.up p e3) (by omega) ht he⟩) (fun H' p => q D H' (fresh_back e1 p.1) (e1.trans p.2.1) p.2.2)
/-- what is told inside a lock -/
theorem ex_both {d : Addr} {o : HO} (e : Ex H H') : Ex (upd H d o) (upd H' d o) := fun c u hc => by
  by_cases z : c = d
  · rw [z, upd_same] at hc ⊢
    exact hc
  · rw [upd_ne z] at hc ⊢
    exact e c u hc
theorem none_un {d p : Addr} {o : HO} (h : (upd H d o) p = none) : p ≠ d ∧ H p = none := by
  have : p ≠ d := fun z => by
    rw [z, upd_same] at h
    cases h
  exact ⟨this, by rwa [upd_ne this] at h⟩
theorem el_lock {d : Addr} {u : HO} {xs : List V} (hd : H d = some u) (mu : Mut (some u)) (h : ∀ od, EvL te σ (upd H d (.frz od u)) xs) : EvL (tLockE te) σ H xs := fun H1 e Q q =>
  ⟨d, u, e _ _ hd, mu, fun od => h od _ (ex_both e) _ fun p H2 hp e2 hx => ⟨e2 _ _ upd_same, q p _ (none_un hp).2 (EqD.ex_lock (e _ _ hd) e2) (by rw [upd_ne (none_un hp).1]; exact hx)⟩⟩
theorem ev_lock {d : Addr} {u : HO} {v : V} (hd : H d = some u) (mu : Mut (some u)) (h : ∀ od, Ev te σ (upd H d (.frz od u)) v) : Ev (tLockE te) σ H v := fun H1 e Q q =>
  ⟨d, u, e _ _ hd, mu, fun od => h od _ (ex_both e) _ fun H2 e2 => ⟨e2 _ _ upd_same, q _ (EqD.ex_lock (e _ _ hd) e2)⟩⟩
/-- a fact that a lock of a dict leaves -/
def Lk (P : PV) : Prop := ∀ (x : V) (H : Hp) (d : Addr) (kvs : List (Key × V)) (od : Obj), H d = some (.dK kvs) → P x H → P x (upd H d (.frz od (.dK kvs)))
theorem rd_lock {a d : Addr} {u o : HO} {od : Obj} (h : H d = some u) (r : Rd H a o) (hu : ∀ o' u', u ≠ .frz o' u') : Rd (upd H d (.frz od u)) a o := by
  by_cases z : a = d
  · subst z
    rcases r with r | ⟨o', r⟩
    · rw [h] at r
      cases r
      exact .inr ⟨od, upd_same⟩
    · rw [h] at r
      cases r
      exact absurd rfl (hu _ _)
  · rcases r with r | ⟨o', r⟩
    · exact .inl (by rw [upd_ne z]; exact r)
    · exact .inr ⟨o', by rw [upd_ne z]; exact r⟩
theorem sqL_lock {a d : Addr} {u : HO} {od : Obj} {xs : List V} (h : H d = some u) (hu : ∀ o' u', u ≠ .frz o' u') (r : SqL K H a xs) : SqL K (upd H d (.frz od u)) a xs := by
  rcases r with r | r
  · exact .inl (rd_lock h r hu)
  · exact .inr r
theorem sqT_lock {a d : Addr} {u : HO} {od : Obj} {xs : List V} (h : H d = some u) (hu : ∀ o' u', u ≠ .frz o' u') (r : SqT K H a xs) : SqT K (upd H d (.frz od u)) a xs := by
  rcases r with r | r
  · exact .inl (rd_lock h r hu)
  · exact .inr r
theorem ne_other {a d : Addr} {u o : HO} (h : H d = some u) (h2 : H a = some o) (hne : o ≠ u) : a ≠ d := fun z => by
  rw [z, h] at h2
  cases h2
  exact hne rfl
theorem at_lock {a d : Addr} {kvs : List (Key × V)} {od : Obj} {o : HO} (h : H d = some (.dK kvs)) (h2 : H a = some o) (hne : ∀ l, o ≠ .dK l) : (upd H d (.frz od (.dK kvs))) a = some o := by
  rw [upd_ne (ne_other h h2 (hne _))]
  exact h2
mutual
theorem dp_lock {d : Addr} {kvs : List (Key × V)} {od : Obj} (hd : H d = some (.dK kvs)) : ∀ {x : V} {e : PyData}, Dp K H x e → Dp K (upd H d (.frz od (.dK kvs))) x e
  | _, _, .non => .non
  | _, _, .bl b => .bl b
  | _, _, .int i => .int i
  | _, _, .str x => .str x
  | _, _, .lst h a => .lst (sqL_lock hd (fun _ _ z => nomatch z) h) (dpAll_lock hd a)
  | _, _, .tup h a => .tup (sqT_lock hd (fun _ _ z => nomatch z) h) (dpAll_lock hd a)
theorem dpAll_lock {d : Addr} {kvs : List (Key × V)} {od : Obj} (hd : H d = some (.dK kvs)) : ∀ {xs : List V} {ds : List PyData}, DpAll K H xs ds → DpAll K (upd H d (.frz od (.dK kvs))) xs ds
  | _, _, .nil => .nil
  | _, _, .cons h a => .cons (dp_lock hd h) (dpAll_lock hd a)
end
theorem lk_de {d : PyData} : Lk (De K d) := fun _ _ _ _ _ hd h => dp_lock hd h
theorem lk_is {v : V} : Lk (Is v) := fun _ _ _ _ _ _ h => h
end
end Wlk
namespace Chk
open PySem PySem.Spec PyProof.Rows L2 Evl Pd Gd Us Wlk
def letters : Str := "abcdefghijklmnopqrstuvwxyz"
def isWordS (s : Str) : Bool := (decide ((1 : Int) ≤ (s.length : Int)) && decide ((s.length : Int) ≤ 8)) && (List.range s.cps.size).all fun i => (s.cps[i]?).elim false fun c => decide (c ∈ letters.cps.toList)
def isWord : PyData → Bool
  | .str s => isWordS s
  | _ => false
/-- a text that is not too long -/
def Few (d : PyData) : Prop := ∀ s : Str, d = .str s → s.length ≤ 10000
/-- a text of the top -/
def StG (mg : Str → Option Value) (x s : Str) : Prop := ∃ u, mg x = some u ∧ RelV (.str s) u
def IntG (mg : Str → Option Value) (x : Str) (i : Int) : Prop := ∃ u, mg x = some u ∧ RelV (.int i) u
def rWord (K : PySem.W.Frag) : List V → Hp → Bool → Prop := fun vs H b => ∃ x d, vs = [x] ∧ Dp K H x d ∧ Few d ∧ b = isWord d
section
variable {P : Program} {w : World} {K : PySem.W.Frag} {mg : Str → Option Value} {base : Heap}
end
end Chk
set_option maxHeartbeats 4000000
/-! Loops over a dict that is locked. -/
namespace Wlk
open PySem PySem.Spec PyProof.Rows L2 Evl Pd
section
variable {K : PySem.W.Frag} {σ : L2.St} {H H' : Hp} {td te : TE} {t : TT} {d : Addr} {vs : List (Key × V)} {od : Obj} {D : Ends} {g : TG} {tb tz : TS}
/-- the heap while d is locked -/
abbrev lk (H : Hp) (d : Addr) (od : Obj) (vs : List (Key × V)) : Hp := upd H d (.frz od (.dK vs))
/-- the ends of a body inside a lock -/
def lkD (d : Addr) (od : Obj) (vs : List (Key × V)) (N : L2.St → Hp → Prop) (D : Ends) : Ends :=
  { nx := N, rt := fun x H3 => H3 d = some (.frz od (.dK vs)) ∧ D.rt x (upd H3 d (.dK vs)), bk := fun σ3 H3 => H3 d = some (.frz od (.dK vs)) ∧ D.nx σ3 (upd H3 d (.dK vs)), ct := N }
/-- for k, v in d.items() -/
theorem s_lockItems (h : ∀ od, Ev td σ (lk H d od vs) (.ref d)) (hd : H d = some (.dK vs)) (Pv : Obj → Nat → L2.St → Hp → Prop) (hP : ∀ od n σ' H', Pv od n σ' H' → H' d = some (.frz od (.dK vs)))
    (h0 : ∀ od H1, Ex (lk H d od vs) H1 → Pv od 0 σ H1)
    (turn : ∀ od (n : Nat) (k : Key) (v : V) (T : Addr) σ' H', vs[n]? = some (k, v) → Pv od n σ' H' → H' T = none → g (.ref T) σ' (upd H' T (.tup [kV k, v])) fun σ2 H2 => tb (lkD d od vs (Pv od (n + 1)) D) σ2 H2)
    (fin : ∀ od σ' H', Pv od vs.length σ' H' → D.nx σ' (upd H' d (.dK vs))) : tLock (tFor (iItems td) g tb) D σ H :=
  ⟨d, .dK vs, hd, trivial, fun od => h od _ (Ex.refl _) _ fun H1 e1 => ⟨d, od, vs, rfl, e1 _ _ upd_same, for_it walk_items (Pv od) (h0 od H1 e1) (fun n σ' H' _ p => hP od n σ' H' p)
    (fun n x σ' H2 H3 hn p y => by
      obtain ⟨T, x1, x2, rfl, hT, rfl, e1, e2⟩ := y
      dsimp only at e1 e2
      rw [List.getElem?_eq_getElem hn] at e1 e2
      cases e1
      cases e2
      exact turn od n _ _ T σ' H2 (List.getElem?_eq_getElem hn) p hT) (fun σ' H' p => ⟨hP od _ _ _ p, fin od σ' H' p⟩)⟩⟩
/-- for k in d -/
theorem s_lockKeys (h : ∀ od, Ev td σ (lk H d od vs) (.ref d)) (hd : H d = some (.dK vs)) (Pv : Obj → Nat → L2.St → Hp → Prop) (hP : ∀ od n σ' H', Pv od n σ' H' → H' d = some (.frz od (.dK vs)))
    (h0 : ∀ od H1, Ex (lk H d od vs) H1 → Pv od 0 σ H1)
    (turn : ∀ od (n : Nat) (k : Key) (v : V) σ' H', vs[n]? = some (k, v) → Pv od n σ' H' → g (kV k) σ' H' fun σ2 H2 => tb (lkD d od vs (Pv od (n + 1)) D) σ2 H2)
    (fin : ∀ od σ' H', Pv od vs.length σ' H' → D.nx σ' (upd H' d (.dK vs))) : tLock (tFor (iKeys td) g tb) D σ H :=
  ⟨d, .dK vs, hd, trivial, fun od => h od _ (Ex.refl _) _ fun H1 e1 => ⟨d, od, rfl, .inl ⟨vs, e1 _ _ upd_same, for_it walk_keys (Pv od) (h0 od H1 e1) (fun n σ' H' _ p => hP od n σ' H' p)
    (fun n x σ' H2 H3 hn p y => by
      obtain ⟨rfl, k, v, e, rfl⟩ := y
      exact turn od n k v σ' _ e p) (fun σ' H' p => ⟨hP od _ _ _ p, fin od σ' H' p⟩)⟩⟩⟩
theorem q_lockItems (h : ∀ od, Ev td σ (lk H d od vs) (.ref d)) (hd : H d = some (.dK vs)) (Pv : Obj → Nat → L2.St → Hp → Prop) (hP : ∀ od n σ' H', Pv od n σ' H' → H' d = some (.frz od (.dK vs)))
    (h0 : ∀ od H1, Ex (lk H d od vs) H1 → Pv od 0 σ H1)
    (turn : ∀ od (n : Nat) (k : Key) (v : V) (T : Addr) σ' H', vs[n]? = some (k, v) → Pv od n σ' H' → H' T = none → g (.ref T) σ' (upd H' T (.tup [kV k, v])) fun σ2 H2 => tb (lkD d od vs (Pv od (n + 1)) { D with nx := tz D }) σ2 H2)
    (fin : ∀ od σ' H', Pv od vs.length σ' H' → tz D σ' (upd H' d (.dK vs))) : tSeq (tLock (tFor (iItems td) g tb)) tz D σ H :=
  s_lockItems (D := { D with nx := tz D }) h hd Pv hP h0 turn fin
theorem q_lockKeys (h : ∀ od, Ev td σ (lk H d od vs) (.ref d)) (hd : H d = some (.dK vs)) (Pv : Obj → Nat → L2.St → Hp → Prop) (hP : ∀ od n σ' H', Pv od n σ' H' → H' d = some (.frz od (.dK vs)))
    (h0 : ∀ od H1, Ex (lk H d od vs) H1 → Pv od 0 σ H1)
    (turn : ∀ od (n : Nat) (k : Key) (v : V) σ' H', vs[n]? = some (k, v) → Pv od n σ' H' → g (kV k) σ' H' fun σ2 H2 => tb (lkD d od vs (Pv od (n + 1)) { D with nx := tz D }) σ2 H2)
    (fin : ∀ od σ' H', Pv od vs.length σ' H' → tz D σ' (upd H' d (.dK vs))) : tSeq (tLock (tFor (iKeys td) g tb)) tz D σ H :=
  s_lockKeys (D := { D with nx := tz D }) h hd Pv hP h0 turn fin
/-- a, b = the pair -/
theorem two_go {i j : Nat} {T : Addr} {x y : V} {H1 : Hp} {Q : L2.St → Hp → Prop} (hT : H1 T = some (.tup [x, y])) (q : Q ((σ.set i (some x)).set j (some y)) H1) : gTup K 2 (gCons (gName i) (gCons (gName j) gNil)) (.ref T) σ H1 Q :=
  ⟨T, [x, y], rfl, st_of hT, rfl, x, [y], rfl, y, [], rfl, rfl, q⟩
/-- comprehensions over the keys, the items, inside the lock -/
theorem el_lcKeys {vs' : List Nat} {j : Nat} (f : Nat → Bool) (v : Nat → V) (h : Ev td σ H (.ref d)) (hd : H d = some (.frz od (.dK vs))) (hn : vs.length ≤ 40000) (hw : ∀ x, wipe ((wipe σ vs').set j (some x)) vs' = wipe σ vs')
    (ht : ∀ (i : Nat) (k : Key) (x : V) H1, Ex H H1 → vs[i]? = some (k, x) → EvT t ((wipe σ vs').set j (some (kV k))) H1 (f i)) (he : ∀ (i : Nat) (k : Key) (x : V) H1, Ex H H1 → vs[i]? = some (k, x) → f i = true → Ev te ((wipe σ vs').set j (some (kV k))) H1 (v i)) :
    EvL (tLc (iKeys td) (gName j) t te vs') σ H (given vs.length f v) :=
  el_lcW (J := Itk d od vs) f v walk_keys hn (fun H1 e1 R r => h H1 e1 _ fun H2 e2 => ⟨d, od, rfl, .inl ⟨vs, (e1.trans e2) _ _ hd, r H2 e2⟩⟩) (fun H1 e1 => e1 _ _ hd) fun i x H1 H2 hi e1 y => by
    obtain ⟨rfl, k, z, e, rfl⟩ := y
    exact ⟨Ex.refl _, _, fun _ q => q, hw _, ht i k z _ e1 e, he i k z _ e1 e⟩
theorem el_lcItems {vs' : List Nat} {j l : Nat} (f : Nat → Bool) (v : Nat → V) (h : Ev td σ H (.ref d)) (hd : H d = some (.frz od (.dK vs))) (hn : vs.length ≤ 40000) (hw : ∀ x y, wipe (((wipe σ vs').set j (some x)).set l (some y)) vs' = wipe σ vs')
    (ht : ∀ (i : Nat) (k : Key) (x : V) H1, Ex H H1 → vs[i]? = some (k, x) → EvT t (((wipe σ vs').set j (some (kV k))).set l (some x)) H1 (f i)) (he : ∀ (i : Nat) (k : Key) (x : V) H1, Ex H H1 → vs[i]? = some (k, x) → f i = true → Ev te (((wipe σ vs').set j (some (kV k))).set l (some x)) H1 (v i)) :
    EvL (tLc (iItems td) (gTup K 2 (gCons (gName j) (gCons (gName l) gNil))) t te vs') σ H (given vs.length f v) :=
  el_lcW (J := Iti d od vs) f v walk_items hn (fun H1 e1 R r => h H1 e1 _ fun H2 e2 => ⟨d, od, vs, rfl, (e1.trans e2) _ _ hd, r H2 e2⟩) (fun H1 e1 => e1 _ _ hd) fun i x H1 H2 hi e1 y => by
    obtain ⟨T, x1, x2, rfl, hT, rfl, c1, c2⟩ := y
    dsimp only at c1 c2
    rw [List.getElem?_eq_getElem hi] at c1 c2
    cases c1
    cases c2
    have ex : Ex H1 (upd H1 T (.tup [kV vs[i].1, vs[i].2])) := Ex.new hT
    exact ⟨ex, _, fun k q => two_go upd_same q, hw _ _, ht i _ _ _ (e1.trans ex) (List.getElem?_eq_getElem hi), he i _ _ _ (e1.trans ex) (List.getElem?_eq_getElem hi)⟩
end
end Wlk
set_option maxHeartbeats 4000000
/-! == of dicts whose values are texts, settings, or dicts of pairs. -/
namespace EqE
open PySem PySem.W PySem.Calls PyProof.Rows PySem.Spec L2 Evl Pd Chk EqD
/-- two values of which b tells whether they are equal -/
def OkVal (C : Addr) (x y : V) (b : Bool) (H : Hp) : Prop := (∃ s t : Str, x = .str s ∧ y = .str t ∧ b = (s == t)) ∨ (∃ g h, SetV C g x H ∧ SetV C h y H ∧ b = eqS g h) ∨
  ∃ (p q : Addr) (ks ls : List (List Key)), x = .ref p ∧ y = .ref q ∧ H p = some (.dT (trues ks)) ∧ H q = some (.dT (trues ls)) ∧ b = eqK ks ls
theorem eqK_self (ks : List (List Key)) : eqK ks ks = true := by
  unfold eqK
  rw [Bool.and_eq_true]
  exact ⟨by simp, List.all_eq_true.mpr fun k hk => List.any_eq_true.mpr ⟨k, hk, by simp⟩⟩
theorem eqS_self (g : Stg) : eqS g g = true := by simp [eqS, eqK_self]
theorem trues_inj {ks ls : List (List Key)} (h : trues ks = trues ls) : ks = ls := by
  have := congrArg (List.map (·.1)) h
  simpa [trues, List.map_map, Function.comp_def] using this
theorem setAt_inj {C : Addr} {g h : Stg} {a : Addr} {H : Hp} (h1 : SetAt C g a H) (h2 : SetAt C h a H) : g = h := by
  obtain ⟨dx, d, fs, p1, p2, p3, p4, p5, p6, p7, _⟩ := h1.ex
  obtain ⟨dy, e, gs, q1, q2, q3, q4, q5, q6, q7, _⟩ := h2.ex
  rw [p1] at q1
  cases q1
  rw [p3] at q3
  rw [p4] at q4
  rw [p5] at q5
  rw [p6] at q6
  rw [p7] at q7
  cases q6
  rw [p2] at q2
  have k : g.ks = h.ks := trues_inj (by injection q2 with z; injection z)
  cases g
  cases h
  simp only at *
  injection q3 with q3; injection q3 with q3
  injection q4 with q4; injection q4 with q4
  injection q5 with q5; injection q5 with q5
  injection q7 with q7; injection q7 with q7
  subst q3 q4 q5 q7 k
  rfl
section
variable {X : Cx} {C CB : Addr} {j : Nat}
theorem step_str {A : Around} {pins : List (Addr × Obj)} {σ : L2.St} {H : Hp} (s t : Str) : StepOk X A pins σ H (s == t) (.str s) (.str t) := fun s1 H1 v u Q e I rv ru q => by
  obtain ⟨t1, rfl⟩ := rv
  obtain ⟨t2, rfl⟩ := ru
  exact (SeqAt.EqAt.str_str s t1 t t2) X.prog X.w _ Q (q s1 H1 (Ex.refl _) I)
theorem eqBool_self {M : Model} {A : Around} {v : Value} {Q : Bool → Shared → Prop} {E : Value → Shared → Prop} {s : Shared} (h : Q true s) (hv : (v == v) = true) : wpAny M A (eqBool v v) Q E s := by
  unfold eqBool
  refine wpAny_holding (wpAny_ite_split (fun _ => wpAny_bind (wpAny_rule (wpAny_pure h))) fun n => absurd hv n)
theorem eqBool_refs {M : Model} {A : Around} {a b : Addr} {Q : Bool → Shared → Prop} {E : Value → Shared → Prop} {s : Shared} (ne : a ≠ b) (h : wpAny M A (richCompare .Eq (.ref a) (.ref b)) (fun v s' => ∃ r, v = .bool r ∧ Q r s') E s) : wpAny M A (eqBool (.ref a) (.ref b)) Q E s := by
  unfold eqBool
  refine wpAny_holding (wpAny_ite_split (fun hab => absurd (by have := eq_of_beq hab; injection this) ne) fun _ => ?_)
  refine wpAny_bind (wpAny_mono h (fun v s' hv => ?_) fun _ _ e => e)
  obtain ⟨r, rfl, hq⟩ := hv
  exact wpAny_truthy_bool hq
theorem step_dT {pins : List (Addr × Obj)} {σ : L2.St} {H : Hp} {p q : Addr} {ks ls : List (List Key)} (hu : X.A.units + 2 < cLine) (hp : H p = some (.dT (trues ks))) (hq : H q = some (.dT (trues ls))) : StepOk X X.A.in1 pins σ H (eqK ks ls) (.ref p) (.ref q) := fun s1 H1 v u Q e I rv ru k => by
  obtain rfl : v = Value.ref p := rv
  obtain rfl : u = Value.ref q := ru
  by_cases z : p = q
  · subst z
    rw [hp] at hq
    have : ks = ls := trues_inj (by injection hq with z; injection z)
    subst this
    have := k s1 H1 (Ex.refl _) I
    rw [eqK_self] at this
    exact eqBool_self this (by simp)
  · refine eqBool_refs z ?_
    obtain ⟨_, na, xs, ra, da⟩ := dt_of I.hok (e _ _ hp)
    obtain ⟨_, nb, ys, rb, db⟩ := dt_of I.hok (e _ _ hq)
    have ka : xs.map (·.1) = ks := (EqT.keys_of ra).symm.trans (by unfold trues; rw [List.map_map]; exact List.map_id' ks)
    have kb : ys.map (·.1) = ls := (EqT.keys_of rb).symm.trans (by unfold trues; rw [List.map_map]; exact List.map_id' ls)
    refine EqT.eq_dicts (A := X.A.in1) (knd := tupleKind (mixKind X.prog X.w)) na nb (show X.A.units + 1 < cLine by omega) (tupleKind_room_in1 (A := X.A.in1) (show X.A.units + 1 + 1 < cLine from hu)) da db (EqT.vals_true ra) (EqT.vals_true rb) ?_
    rw [EqT.allIn_keys, ka, kb, ← List.length_map (f := fun x => x.1) (as := xs), ← List.length_map (f := fun x => x.1) (as := ys), ka, kb]
    exact ⟨_, rfl, k s1 H1 (Ex.refl _) I⟩
theorem step_set {pins : List (Addr × Obj)} {σ : L2.St} {H : Hp} {x y : V} {g h : Stg} (S : SetC X.prog X.w X.K X.mg X.base C CB) (hr : Room j X.A) (hj : 2 ≤ j) (h1 : SetV C g x H) (h2 : SetV C h y H) : StepOk X X.A.in1 pins σ H (eqS g h) x y := fun s1 H1 v u Q e I rv ru k => by
  obtain ⟨a, rfl, at1⟩ := mo_set _ _ _ e h1
  obtain ⟨b, rfl, at2⟩ := mo_set _ _ _ e h2
  obtain rfl : v = Value.ref a := rv
  obtain rfl : u = Value.ref b := ru
  by_cases z : a = b
  · subst z
    have : g = h := setAt_inj at1 at2
    subst this
    have := k s1 H1 (Ex.refl _) I
    rw [eqS_self] at this
    exact eqBool_self this (by simp)
  · refine eqBool_refs z ?_
    obtain ⟨f, fd, T, hb, F⟩ := S.eq
    obtain ⟨dx, d, fs, ha, _⟩ := at1.ex
    obtain ⟨dy, d2, gs, hbb, _⟩ := at2.ex
    obtain ⟨tb, L, nf⟩ := OwnNe.look_beside I (show RelV (.ref b) (.ref b) from rfl) (.inl ⟨b, dy, gs, rfl, hbb⟩) S.nl
    obtain ⟨mA, J, _⟩ := ins_get I.hok ha
    obtain ⟨od, J, _⟩ := J.look
    obtain ⟨m, hF⟩ := I.fr
    have hu := hr.un
    refine PySem.W.cmp_K (op := .Eq) (A := X.A.in1) (tb := tb) (show X.A.units + 1 < cLine by omega) hF I.ok.mod.kin J L nf T.eq T.fn ?_
    have r2 : Vals [V.ref a, V.ref b] [Value.ref a, Value.ref b] := .cons rfl (.cons rfl .nil)
    have e0 : Env0 X.prog X.w X.K X.mg X.base X.A.in1 X.stack s1 H1 := by
      have e := I.env0
      exact ⟨e.frames, e.mod, e.bs, e.bsz, e.funs, e.frf, e.hok, e.bare⟩
    have hsp : spEqS C [.ref a, .ref b] H1 (fun v H' => Ex H1 H' ∧ v = .bl (eqS g h)) (fun _ _ _ => False) := ⟨rfl, a, g, .ref b, rfl, at1, .inl ⟨b, h, rfl, at2, fun H' e' => ⟨e', rfl⟩⟩⟩
    refine wpAny_call (codeAny_mono (F.run X.A.in1 X.stack s1 H1 ⟨[.ref a, .ref b], []⟩ [.ref a, .ref b] [.ref a, .ref b] _ _ ((hr.mono hj).in1) e0 (by
      have := hb s1 [.ref a, .ref b] I.kIn rfl
      simpa using this) r2 hsp) fun r s' hq => ?_)
    cases r with
    | error e => exact (show False from hq).elim
    | ok fl =>
      cases fl with
      | ret w =>
        obtain ⟨z, H', I', rz, e3, q1⟩ := I.after hq
        subst q1
        cases rz
        exact ⟨_, rfl, k s' H' e3 I'⟩
      | next => exact False.elim hq
      | brk => exact False.elim hq
      | cont => exact False.elim hq
theorem op_eqVal (S : SetC X.prog X.w X.K X.mg X.base C CB) (hr : Room j X.A) (hj : 2 ≤ j) : OpR X (compareOp .Eq) (rEqD (OkVal C)) :=
  op_eqD (by have := hr.un; omega) fun pins σ H x y b ok => by
    rcases ok H (Ex.refl _) with ⟨s, t, rfl, rfl, rfl⟩ | ⟨g, h, h1, h2, rfl⟩ | ⟨p, q, ks, ls, rfl, rfl, h1, h2, rfl⟩
    · exact step_str s t
    · exact step_set S hr hj h1 h2
    · exact step_dT (by have := hr.un; omega) h1 h2
end
end EqE
set_option maxHeartbeats 4000000
/-! What an end is made of: data, or a dict of keys with data or settings; what its checks say of it. -/
namespace Chk
open PySem PySem.Spec PyProof.Rows L2 Evl Pd Gd Us Wlk
/-- a dict of tuples with True -/
def DtV (ks : List (List Key)) : PV := fun x H => ∃ t, x = .ref t ∧ H t = some (.dT (trues ks))
theorem mo_dt {ks : List (List Key)} : Mo (DtV ks) := fun _ _ _ e ⟨t, h1, h2⟩ => ⟨t, h1, e _ _ h2⟩
theorem lk_dt {ks : List (List Key)} : Lk (DtV ks) := fun _ _ _ _ _ hd ⟨t, h1, h2⟩ => ⟨t, h1, at_lock hd h2 fun _ z => nomatch z⟩
theorem lk_qe {d : PyData} : Lk (Qe d) := fun _ _ _ _ _ hd h => Lw.dq_by (fun _ _ h => at_lock hd h fun _ z => nomatch z) (fun _ _ h => at_lock hd h fun _ z => nomatch z) h
inductive Itm where
  | d (d : PyData)
  | set (g : Stg)
  | dt (ks : List (List Key))
abbrev Its' := List (Key × Itm)
inductive Arg where
  | d (d : PyData)
  | dct (kvs : Its')
def ItmV (K : PySem.W.Frag) (C : Addr) : Itm → PV
  | .d d => Qe d
  | .set g => SetV C g
  | .dt ks => DtV ks
theorem mo_itm {K : PySem.W.Frag} {C : Addr} {t : Itm} : Mo (ItmV K C t) := by
  cases t with
  | d d => exact mo_qe
  | set g => exact mo_set
  | dt ks => exact mo_dt
theorem lk_set {C : Addr} {g : Stg} : Lk (SetV C g) := fun x H d kvs od hd ⟨a, ex, dx, e, fs, h1, h2, h3⟩ => ⟨a, ex, dx, e, fs, at_lock hd h1 (fun _ z => nomatch z), at_lock hd h2 (fun _ z => nomatch z), h3⟩
theorem lk_itm {K : PySem.W.Frag} {C : Addr} {t : Itm} : Lk (ItmV K C t) := by
  cases t with
  | d d => exact lk_qe
  | set g => exact lk_set
  | dt ks => exact lk_dt
/-- the i-th pair of the dict is the i-th of kvs -/
structure ItemsV (K : PySem.W.Frag) (C : Addr) (kvs : Its') (vs : List (Key × V)) (H : Hp) : Prop where
  len : vs.length = kvs.length
  at_ : ∀ (i : Nat) (k : Key) (t : Itm), kvs[i]? = some (k, t) → ∃ v, vs[i]? = some (k, v) ∧ ItmV K C t v H
section
variable {K : PySem.W.Frag} {C : Addr} {kvs : Its'} {vs : List (Key × V)} {H H' : Hp}
theorem ItemsV.up (h : ItemsV K C kvs vs H) (e : Ex H H') : ItemsV K C kvs vs H' := ⟨h.len, fun i k t hi => let ⟨v, h1, h2⟩ := h.at_ i k t hi; ⟨v, h1, mo_itm _ _ _ e h2⟩⟩
theorem ItemsV.lock {d : Addr} {ws : List (Key × V)} {od : Obj} (h : ItemsV K C kvs vs H) (hd : H d = some (.dK ws)) : ItemsV K C kvs vs (lk H d od ws) := ⟨h.len, fun i k t hi => let ⟨v, h1, h2⟩ := h.at_ i k t hi; ⟨v, h1, lk_itm _ _ _ _ _ hd h2⟩⟩
theorem ItemsV.from (h : ItemsV K C kvs vs H) {i : Nat} {k : Key} {v : V} (hi : vs[i]? = some (k, v)) : ∃ t, kvs[i]? = some (k, t) ∧ ItmV K C t v H := by
  have lt : i < kvs.length := by rw [← h.len]; exact (List.getElem?_eq_some_iff.mp hi).1
  obtain ⟨k2, t, e⟩ : ∃ k2 t, kvs[i] = (k2, t) := ⟨_, _, rfl⟩
  have e' : kvs[i]? = some (k2, t) := by rw [List.getElem?_eq_getElem lt, e]
  obtain ⟨v2, h1, h2⟩ := h.at_ i k2 t e'
  rw [hi] at h1
  cases h1
  exact ⟨t, e', h2⟩
theorem ItemsV.keys (h : ItemsV K C kvs vs H) : vs.map (·.1) = kvs.map (·.1) := by
  refine List.ext_getElem? fun i => ?_
  rw [List.getElem?_map, List.getElem?_map]
  cases e : kvs[i]? with
  | some p =>
    obtain ⟨v, h1, _⟩ := h.at_ i p.1 p.2 e
    rw [h1]
    rfl
  | none =>
    have : vs[i]? = none := by
      rw [List.getElem?_eq_none_iff] at e ⊢
      rw [h.len]
      exact e
    rw [this]
    rfl
/-- no key twice: what stands at a key -/
theorem valV_at {vs : List (Key × V)} (hn : (vs.map (·.1)).Nodup) : ∀ {i : Nat} {k : Key} {v : V}, vs[i]? = some (k, v) → valV vs k = some v := by
  induction vs with
  | nil => intro i k v h; simp at h
  | cons p r ih =>
    intro i k v h
    rw [List.map_cons, List.nodup_cons] at hn
    cases i with
    | zero => cases h; exact valV_pos rfl
    | succ i =>
      have m : k ∈ r.map (·.1) := List.mem_map.mpr ⟨(k, v), List.mem_of_getElem? h, rfl⟩
      rw [valV_neg (fun z => hn.1 (by rw [z]; exact m))]
      exact ih hn.2 h
end
/-- strict, or read under a lock -/
abbrev AtP := Hp → Addr → HO → Prop
abbrev Sr : AtP := fun H a u => H a = some u
def FewK : Key → Prop
  | .inl _ => True
  | .inr s => s.length ≤ 10000
/-- not too long -/
def SmallI : Itm → Prop
  | .d d => Few d ∧ Short d
  | _ => True
def Small (kvs : Its') : Prop := kvs.length ≤ 1000 ∧ (∀ p ∈ kvs, FewK p.1 ∧ SmallI p.2) ∧ (kvs.map (·.1)).Nodup
def DctV (at_ : AtP) (K : PySem.W.Frag) (C : Addr) (kvs : Its') : PV := fun x H => ∃ a vs, x = .ref a ∧ at_ H a (.dK vs) ∧ ItemsV K C kvs vs H
def ArgV (K : PySem.W.Frag) (C : Addr) : Arg → PV
  | .d d => fun x H => Qe d x H ∧ Few d ∧ Short d
  | .dct kvs => fun x H => DctV Sr K C kvs x H ∧ Small kvs
theorem mo_dct {K : PySem.W.Frag} {C : Addr} {kvs : Its'} : Mo (DctV Sr K C kvs) := fun _ _ _ e ⟨a, vs, h1, h2, h3⟩ => ⟨a, vs, h1, e _ _ h2, h3.up e⟩
theorem mo_arg {K : PySem.W.Frag} {C : Addr} {A : Arg} : Mo (ArgV K C A) := by
  cases A with
  | d d => exact fun _ _ _ e h => ⟨mo_qe _ _ _ e h.1, h.2⟩
  | dct kvs => exact fun _ _ _ e h => ⟨mo_dct _ _ _ e h.1, h.2⟩
def isDA : Arg → Bool
  | .d _ => false
  | .dct _ => true
def isSetI : Itm → Bool
  | .set _ => true
  | _ => false
def roomI : Itm → Bool
  | .set g => decide (g.kind = ("room" : Str))
  | _ => false
def isWordK : Key → Bool
  | .inl _ => false
  | .inr s => isWordS s
theorem dp_key {K : PySem.W.Frag} {H : Hp} (k : Key) : Dp K H (kV k) (keyD k) := by
  cases k with
  | inl i => exact .int i
  | inr s => exact .str s
theorem word_key (k : Key) : isWord (keyD k) = isWordK k := by cases k <;> rfl
theorem few_key {k : Key} (h : FewK k) : Few (keyD k) := by
  cases k with
  | inl i => exact fun s e => by cases e
  | inr s => exact fun t e => by cases e; exact h
def okItem (p : Key × Itm) : Bool := isWordK p.1 && isSetI p.2
def roomsOf (kvs : Its') : Nat := ((List.range kvs.length).filter fun i => (kvs[i]?).elim false fun p => roomI p.2).length
def okSets : Arg → Bool
  | .dct kvs => decide (kvs.length ≤ 2) && (kvs.all okItem && decide (roomsOf kvs ≤ 1))
  | .d _ => false
theorem okSets_dct (kvs : Its') : okSets (.dct kvs) = (decide (kvs.length ≤ 2) && (kvs.all okItem && decide (roomsOf kvs ≤ 1))) := rfl
structure Bd (mg : Str → Option Value) : Prop where
  dict : mg "dict" = none
  sorted : mg "sorted" = none
theorem boot_dict : bootBuiltins "dict" = some (.type "dict") := by decide +kernel
/-- no built-in value is one of these -/
structure NotB (K : PySem.W.Frag) (C : Addr) : Prop where
  non : PySem.W.kitOne K (.type "NoneType") (.ref C) = some false
  bl : PySem.W.kitOne K (.type "bool") (.ref C) = some false
  int : PySem.W.kitOne K (.type "int") (.ref C) = some false
  str : PySem.W.kitOne K (.type "str") (.ref C) = some false
  list : PySem.W.kitOne K (.type "list") (.ref C) = some false
  tuple : PySem.W.kitOne K (.type "tuple") (.ref C) = some false
  dict : PySem.W.kitOne K (.type "dict") (.ref C) = some false
theorem NotB.de {K : PySem.W.Frag} {C : Addr} (N : NotB K C) (d : PyData) : PySem.W.kitOne K (.type (tyD d)) (.ref C) = some false := by
  cases d with
  | none => exact N.non
  | bool _ => exact N.bl
  | int _ => exact N.int
  | str _ => exact N.str
  | list _ => exact N.list
  | tuple _ => exact N.tuple
  | dict _ => exact N.dict
section
variable {σ : L2.St} {H : Hp} {te ta td ty : TE} {K : PySem.W.Frag} {C : Addr} {A : Arg} {kvs : Its'} {vs : List (Key × V)} {P : PV}
theorem kit_dictN {x : V} {d : PyData} (h : Dp K H x d) : kitB (tyD d) "dict" = some false := by cases h <;> kernel_rfl
theorem kit_dict : kitB "dict" "dict" = some true := by kernel_rfl
/-- isinstance(x, dict) -/
theorem ev_isDA (h : EvP te σ H (ArgV K C A)) : Ev (tCB (rIsi K) (tCons te (tCons (tC (.ty "dict")) tNil))) σ H (.bl (isDA A)) := fun H1 e Q q =>
  h H1 e _ fun x H2 e2 p => by
    cases A with
    | d d => exact ⟨x, .ty "dict", _, .type "dict", false, rfl, .ty "dict", ty_de (dq_dp (K := K) p.1), kit_ty (kit_dictN (dq_dp (K := K) p.1)), q H2 e2⟩
    | dct kvs =>
      obtain ⟨⟨a, vs, rfl, ha, _⟩, _⟩ := p
      exact ⟨.ref a, .ty "dict", _, .type "dict", true, rfl, .ty "dict", .base (.dK ha), kit_ty kit_dict, q H2 e2⟩
/-- len of a dict -/
def rLenDK : List V → Hp → VK → Prop := fun xs H Q => ∃ a kvs, xs = [V.ref a] ∧ H a = some (.dK kvs) ∧ Q (.int kvs.length) H
theorem ev_lenDct (h : EvP te σ H (DctV Sr K C kvs)) : Ev (tCB rLenDK (tCons te tNil)) σ H (.int (kvs.length : Int)) := fun H1 e Q q =>
  h H1 e _ fun x H2 e2 ⟨a, vs, ex, ha, hi⟩ => ⟨a, vs, by rw [ex], ha, by rw [hi.len]; exact q H2 e2⟩
/-- isinstance(x, Setting) -/
theorem ev_isSet {t : Itm} (T : ClsS K C) (I : C8.InsC K C) (N : NotB K C) (h : EvP te σ H (ItmV K C t)) : Ev (tCB (rIsi K) (tCons te (tCons (tC (.ref C)) tNil))) σ H (.bl (isSetI t)) := fun H1 e Q q =>
  h H1 e _ fun x H2 e2 p => by
    cases t with
    | d d => exact ⟨x, .ref C, _, .ref C, false, rfl, .own C, ty_de (dq_dp p), N.de d, q H2 e2⟩
    | dt ks =>
      obtain ⟨a, rfl, ha⟩ := p
      exact ⟨.ref a, .ref C, _, .ref C, false, rfl, .own C, .base (.dT ha), N.dict, q H2 e2⟩
    | set g =>
      obtain ⟨a, rfl, at_⟩ := p
      obtain ⟨dx, _, fs, ha, _⟩ := at_.ex
      exact ⟨.ref a, .ref C, .ref C, .ref C, true, rfl, .own C, .base (.ins ha T.cl I.ha I.hn I.htk I.hm), I.me, q H2 e2⟩
theorem rd_get {a : Addr} {k : Key} {v : V} (h : Rd H a (.dK vs)) (e : valV vs k = some v) : DGet H a (kV k) (some v) := .inl ⟨vs, k, h, rfl, e.symm⟩
/-- d[k] -/
theorem p_dget {a : Addr} {k : Key} {v : V} (h1 : Ev td σ H (.ref a)) (h2 : Ev ty σ H (kV k)) (hr : Rd H a (.dK vs)) (e : valV vs k = some v) (hm : Mo P) (hp : P v H) : EvP (tDGet td ty) σ H P := fun H1 e1 Q q =>
  h1 H1 e1 _ fun H2 e2 => h2 H2 (e1.trans e2) _ fun H3 e3 => ⟨a, v, rfl, rd_get (ex_rd (e1.trans (e2.trans e3)) hr) e, q v H3 (e2.trans e3) (hm v H H3 (e1.trans (e2.trans e3)) hp)⟩
/-- k in d, k not in d -/
theorem ev_din {a : Addr} {k : Key} (h2 : Ev ty σ H (kV k)) (h1 : Ev td σ H (.ref a)) (hr : Rd H a (.dK vs)) : Ev (tDIn ty td) σ H (.bl (valV vs k).isSome) := fun H1 e1 Q q =>
  h2 H1 e1 _ fun H2 e2 => h1 H2 (e1.trans e2) _ fun H3 e3 => ⟨a, valV vs k, rfl, .inl ⟨vs, k, ex_rd (e1.trans (e2.trans e3)) hr, rfl, rfl⟩, q H3 (e2.trans e3)⟩
theorem ev_dnin {a : Addr} {k : Key} (h2 : Ev ty σ H (kV k)) (h1 : Ev td σ H (.ref a)) (hr : Rd H a (.dK vs)) : Ev (tDNotIn ty td) σ H (.bl (!(valV vs k).isSome)) := fun H1 e1 Q q =>
  h2 H1 e1 _ fun H2 e2 => h1 H2 (e1.trans e2) _ fun H3 e3 => ⟨a, valV vs k, rfl, .inl ⟨vs, k, ex_rd (e1.trans (e2.trans e3)) hr, rfl, rfl⟩, q H3 (e2.trans e3)⟩
end
def rSettings (K : PySem.W.Frag) (C : Addr) : List V → Hp → Bool → Prop := fun vs H b => ∃ x A, vs = [x] ∧ ArgV K C A x H ∧ b = okSets A
theorem str_dec (a b : Str) : decide (V.str a = V.str b) = decide (a = b) := by
  rw [Bool.eq_iff_iff, decide_eq_true_iff, decide_eq_true_iff]
  exact ⟨fun h => by injection h, fun h => by rw [h]⟩
theorem all_range {α : Type} (f : α → Bool) (l : List α) : l.all f = (List.range l.length).all fun i => (l[i]?).elim false f := by
  rw [Bool.eq_iff_iff]
  simp only [List.all_eq_true, List.mem_range]
  constructor
  · intro h i hi
    rw [List.getElem?_eq_getElem hi]
    exact h _ (List.getElem_mem hi)
  · intro h x hx
    obtain ⟨i, hi, rfl⟩ := List.getElem_of_mem hx
    have := h i hi
    rw [List.getElem?_eq_getElem hi] at this
    exact this
theorem all_take {α : Type} (f : α → Bool) (l : List α) {n : Nat} {x : α} (h : l[n]? = some x) : (l.take (n + 1)).all f = ((l.take n).all f && f x) := by
  have k1 := (List.getElem?_eq_some_iff.mp h).1
  have k2 := (List.getElem?_eq_some_iff.mp h).2
  rw [← List.take_append_getElem k1, k2, List.all_append]
  simp
theorem given_length (n : Nat) (f : Nat → Bool) (v : Nat → V) : (given n f v).length = ((List.range n).filter f).length := by
  unfold given
  rw [List.length_map]
section
variable {P : Program} {w : World} {K : PySem.W.Frag} {mg : Str → Option Value} {base : Heap} {C CB : Addr}
end
end Chk
set_option maxHeartbeats 4000000
namespace Chk
open PySem PySem.Spec PyProof.Rows L2 Evl Pd Gd Us Wlk
def usesT : List Str := ["heard", "answered"]
def deedsT : List Str := ["set", "back", "answer", "frame", "done"]
def dataI : Itm → PyData
  | .d d => d
  | _ => .none
/-- its items are data -/
def PlainA : Arg → Prop
  | .d _ => True
  | .dct kvs => ∀ p ∈ kvs, ∃ d, p.2 = .d d
def okUse (own : List Key) (p : Key × Itm) : Bool := isWordK p.1 && (!(own.any fun k => decide (k = p.1)) && inT usesT (dataI p.2))
def okUses (own : List Key) : Arg → Bool
  | .dct kvs => decide (kvs.length ≤ 2) && kvs.all (okUse own)
  | .d _ => false
theorem okUses_dct (own : List Key) (kvs : Its') : okUses own (.dct kvs) = (decide (kvs.length ≤ 2) && kvs.all (okUse own)) := rfl
def okPairs : PyData → Bool
  | .list ds => ds.all (isPair 0 3)
  | _ => false
def okRule (p : Key × Itm) : Bool := inT deedsT (keyD p.1) && okPairs (dataI p.2)
def okRules : Arg → Bool
  | .dct kvs => kvs.all okRule
  | .d _ => false
def KeysV (own : List Key) : PV := fun y H => ∃ a vs, y = .ref a ∧ Rd H a (.dK vs) ∧ vs.map (·.1) = own
theorem mo_keys {own : List Key} : Mo (KeysV own) := fun _ _ _ e ⟨a, vs, h1, h2, h3⟩ => ⟨a, vs, h1, ex_rd e h2, h3⟩
theorem lk_keys {own : List Key} : Lk (KeysV own) := fun _ _ _ _ _ hd ⟨a, vs, h1, h2, h3⟩ => ⟨a, vs, h1, rd_lock hd h2 (fun _ _ z => nomatch z), h3⟩
def rUses (K : PySem.W.Frag) (C : Addr) : List V → Hp → Bool → Prop := fun vs H b => ∃ x A y own, vs = [x, y] ∧ ArgV K C A x H ∧ PlainA A ∧ KeysV own y H ∧ b = okUses own A
def rPairs (K : PySem.W.Frag) : List V → Hp → Bool → Prop := fun vs H b => ∃ x d, vs = [x] ∧ Dp K H x d ∧ Short d ∧ b = okPairs d
def rRules (K : PySem.W.Frag) (C : Addr) : List V → Hp → Bool → Prop := fun vs H b => ∃ x A, vs = [x] ∧ ArgV K C A x H ∧ PlainA A ∧ b = okRules A
theorem plain_at {kvs : Its'} {i : Nat} {k : Key} {t : Itm} (h : PlainA (.dct kvs)) (e : kvs[i]? = some (k, t)) : ∃ d, t = .d d := h (k, t) (List.mem_of_getElem? e)
/-- is_one_of(x, T), T a tuple of texts of the top -/
theorem ev_oneG {K : PySem.W.Frag} {σ : L2.St} {H : Hp} {te : TE} {d : PyData} {xs : List Str} {p : Addr} {E : XK} (hp : ∀ H, SqT K H p (xs.map V.str)) (h : EvP te σ H (De K d)) : Ev (tCall (spAsk K 2 (rOneOf K)) [] E (tCons te (tCons (tC (.ref p)) tNil))) σ H (.bl (inT xs d)) :=
  ev_ask (Ps := [De K d, Is (.ref p)]) rfl (ps_cons mo_de h (ps_cons mo_is p_c ps_nil)) fun zs H1 e1 ps => by
    match zs, ps with
    | [y, z], ⟨py, pz, _⟩ => exact ⟨y, d, p, xs.map V.str, by rw [show z = _ from pz], py, hp H1, by rw [List.all_map]; exact List.all_eq_true.mpr fun _ _ => rfl, (inT_of py).symm⟩
theorem ev_word {K : PySem.W.Frag} {σ : L2.St} {H : Hp} {te : TE} {k : Key} {E : XK} (h : Ev te σ H (kV k)) (fk : FewK k) : Ev (tCall (spAsk K 1 (rWord K)) [] E (tCons te tNil)) σ H (.bl (isWordK k)) :=
  ev_ask (Ps := [De K (keyD k)]) rfl (ps_cons mo_de (.of h mo_de (dp_key k)) ps_nil) fun zs H1 e1 ps => by
    match zs, ps with
    | [y], ⟨py, _⟩ => exact ⟨y, keyD k, rfl, py, few_key fk, (word_key k).symm⟩
theorem map_range_all {α : Type} (f : α → Bool) (l : List α) : ((List.range l.length).map fun i => ((l[i]?).elim false f)).all id = l.all f := by
  rw [all_range f l, List.all_map]
  rfl
section
variable {P : Program} {w : World} {K : PySem.W.Frag} {mg : Str → Option Value} {base : Heap} {C CB : Addr}
/-! ### the first part that is wrong -/
structure PtsE where
  settings : Arg
  uses : Arg
  rules : Arg
  most : PyData
def keysA : Arg → List Key
  | .dct kvs => kvs.map (·.1)
  | .d _ => []
def wrongE (p : PtsE) : Option Str :=
  if !okSets p.settings then some "settings" else if !okUses (keysA p.settings) p.uses then some "uses" else if !okRules p.rules then some "rules" else if !betw 1 3 p.most then some "most" else none
structure ArgsE (K : PySem.W.Frag) (C : Addr) (H : Hp) (a b c d : V) (p : PtsE) : Prop where
  settings : ArgV K C p.settings a H
  uses : ArgV K C p.uses b H
  rules : ArgV K C p.rules c H
  most : Dp K H d p.most
  plU : PlainA p.uses
  plR : PlainA p.rules
theorem ArgsE.up {K : PySem.W.Frag} {C : Addr} {H H' : Hp} {a b c d : V} {p : PtsE} (h : ArgsE K C H a b c d p) (e : Ex H H') : ArgsE K C H' a b c d p := ⟨mo_arg _ _ _ e h.settings, mo_arg _ _ _ e h.uses, mo_arg _ _ _ e h.rules, dp_up e h.most, h.plU, h.plR⟩
def spWrongE (K : PySem.W.Frag) (C : Addr) : Sp := fun vs H Q _ => vs.length = 4 ∧ ∃ a b c d p, vs = [a, b, c, d] ∧ ArgsE K C H a b c d p ∧ ∀ H', Ex H H' → Q (strV (wrongE p)) H'
end
end Chk
set_option maxHeartbeats 4000000
/-! Dict comprehensions over any walk, keys texts and numbers; facts that a write to a dict leaves. -/
namespace Wlk
open PySem PySem.Spec PyProof.Rows L2 Evl Pd Chk Lw
/-- a fact that a write to a dict leaves -/
def Dw (P : PV) : Prop := ∀ (x : V) (H : Hp) (D : Addr) (kvs ls : List (Key × V)), H D = some (.dK kvs) → P x H → P x (upd H D (.dK ls))
section
variable {K : PySem.W.Frag} {H : Hp}
theorem at_put {a D : Addr} {kvs ls : List (Key × V)} {o : HO} (h : H D = some (.dK kvs)) (h2 : H a = some o) (hne : ∀ l, o ≠ .dK l) : (upd H D (.dK ls)) a = some o := by
  rw [upd_ne (ne_other h h2 (hne _))]
  exact h2
theorem rd_put {a D : Addr} {kvs ls : List (Key × V)} {o : HO} (h : H D = some (.dK kvs)) (r : Rd H a o) (hne : ∀ l, o ≠ .dK l) : Rd (upd H D (.dK ls)) a o := by
  rcases r with r | ⟨o', r⟩
  · exact .inl (at_put h r hne)
  · exact .inr ⟨o', at_put h r fun _ z => nomatch z⟩
theorem sqL_put {a D : Addr} {kvs ls : List (Key × V)} {xs : List V} (h : H D = some (.dK kvs)) (r : SqL K H a xs) : SqL K (upd H D (.dK ls)) a xs := by
  rcases r with r | r
  · exact .inl (rd_put h r fun _ z => nomatch z)
  · exact .inr r
theorem sqT_put {a D : Addr} {kvs ls : List (Key × V)} {xs : List V} (h : H D = some (.dK kvs)) (r : SqT K H a xs) : SqT K (upd H D (.dK ls)) a xs := by
  rcases r with r | r
  · exact .inl (rd_put h r fun _ z => nomatch z)
  · exact .inr r
mutual
theorem dp_put {D : Addr} {kvs ls : List (Key × V)} (hd : H D = some (.dK kvs)) : ∀ {x : V} {e : PyData}, Dp K H x e → Dp K (upd H D (.dK ls)) x e
  | _, _, .non => .non
  | _, _, .bl b => .bl b
  | _, _, .int i => .int i
  | _, _, .str x => .str x
  | _, _, .lst h a => .lst (sqL_put hd h) (dpAll_put hd a)
  | _, _, .tup h a => .tup (sqT_put hd h) (dpAll_put hd a)
theorem dpAll_put {D : Addr} {kvs ls : List (Key × V)} (hd : H D = some (.dK kvs)) : ∀ {xs : List V} {ds : List PyData}, DpAll K H xs ds → DpAll K (upd H D (.dK ls)) xs ds
  | _, _, .nil => .nil
  | _, _, .cons h a => .cons (dp_put hd h) (dpAll_put hd a)
end
theorem dw_de {d : PyData} : Dw (De K d) := fun _ _ _ _ _ hd h => dp_put hd h
theorem dw_is {v : V} : Dw (Is v) := fun _ _ _ _ _ _ h => h
theorem dw_set {C : Addr} {g : Stg} : Dw (SetV C g) := fun x H D kvs ls hd ⟨a, ex, dx, e, fs, h1, h2, h3⟩ => ⟨a, ex, dx, e, fs, at_put hd h1 (fun _ z => nomatch z), at_put hd h2 (fun _ z => nomatch z), h3⟩
theorem dw_dt {ks : List (List Key)} : Dw (DtV ks) := fun _ _ _ _ _ hd ⟨t, h1, h2⟩ => ⟨t, h1, at_put hd h2 fun _ z => nomatch z⟩
theorem dw_qe {d : PyData} : Dw (Qe d) := fun _ _ _ _ _ hd h => dq_by (fun _ _ h => at_put hd h fun _ z => nomatch z) (fun _ _ h => at_put hd h fun _ z => nomatch z) h
theorem dw_itm {C : Addr} {t : Itm} : Dw (ItmV K C t) := by
  cases t with
  | d d => exact dw_qe
  | set g => exact dw_set
  | dt ks => exact dw_dt
end
/-- the dict's pairs: for the j-th place of idx, i: the key kf i, a value of which Pf i holds -/
structure Prs (idx : List Nat) (kf : Nat → Key) (Pf : Nat → PV) (kvs : List (Key × V)) (H : Hp) : Prop where
  len : kvs.length = idx.length
  at_ : ∀ (j i : Nat), idx[j]? = some i → ∃ v, kvs[j]? = some (kf i, v) ∧ Pf i v H
def PrsV (idx : List Nat) (kf : Nat → Key) (Pf : Nat → PV) : PV := fun x H => ∃ D kvs, x = .ref D ∧ H D = some (.dK kvs) ∧ Prs idx kf Pf kvs H
section
variable {idx : List Nat} {kf : Nat → Key} {Pf : Nat → PV} {kvs : List (Key × V)} {H H' : Hp}
theorem Prs.up (hm : ∀ i, Mo (Pf i)) (h : Prs idx kf Pf kvs H) (e : Ex H H') : Prs idx kf Pf kvs H' := ⟨h.len, fun j i hj => let ⟨v, h1, h2⟩ := h.at_ j i hj; ⟨v, h1, hm i _ _ _ e h2⟩⟩
theorem mo_prs (hm : ∀ i, Mo (Pf i)) : Mo (PrsV idx kf Pf) := fun _ _ _ e ⟨D, kvs, h1, h2, h3⟩ => ⟨D, kvs, h1, e _ _ h2, h3.up hm e⟩
theorem Prs.put (hw : ∀ i, Dw (Pf i)) {D : Addr} {ks ls : List (Key × V)} (h : Prs idx kf Pf kvs H) (hd : H D = some (.dK ks)) : Prs idx kf Pf kvs (upd H D (.dK ls)) := ⟨h.len, fun j i hj => let ⟨v, h1, h2⟩ := h.at_ j i hj; ⟨v, h1, hw i _ _ _ _ _ hd h2⟩⟩
theorem Prs.snoc (h : Prs idx kf Pf kvs H) {i : Nat} {v : V} (hv : Pf i v H) : Prs (idx ++ [i]) kf Pf (kvs ++ [(kf i, v)]) H := ⟨by simp [h.len], fun j n hj => by
  rcases Nat.lt_or_ge j idx.length with c | c
  · rw [List.getElem?_append_left c] at hj
    obtain ⟨u, h1, h2⟩ := h.at_ j n hj
    exact ⟨u, by rw [List.getElem?_append_left (by rw [h.len]; exact c)]; exact h1, h2⟩
  · rw [List.getElem?_append_right c] at hj
    have e : j - idx.length = 0 := by
      have := (List.getElem?_eq_some_iff.mp hj).1
      simp at this
      omega
    rw [e] at hj
    cases hj
    exact ⟨v, by rw [List.getElem?_append_right (by rw [h.len]; exact c), h.len, e]; rfl, hv⟩⟩
theorem Prs.none (h : Prs idx kf Pf kvs H) {k : Key} (hk : ∀ i ∈ idx, kf i ≠ k) : valV kvs k = none := by
  cases e : valV kvs k with
  | none => rfl
  | some v =>
    exfalso
    have a : (kvs.any fun kv => decide (kv.1 = k)) = true := by rw [valV_any, e]; rfl
    obtain ⟨p, hp, ek⟩ := List.any_eq_true.mp a
    obtain ⟨j, hj, rfl⟩ := List.getElem_of_mem hp
    have lj : j < idx.length := by rw [← h.len]; exact hj
    obtain ⟨u, h1, _⟩ := h.at_ j idx[j] (List.getElem?_eq_getElem lj)
    rw [List.getElem?_eq_getElem hj] at h1
    have : kvs[j].1 = kf idx[j] := by rw [Option.some.inj h1]
    rw [this] at ek
    exact hk _ (List.getElem_mem lj) (of_decide_eq_true ek)
end
section
variable {K : PySem.W.Frag} {σ : L2.St} {H : Hp} {tk tv : TE} {t : TT}
theorem range_filter_succ (n : Nat) (f : Nat → Bool) : (List.range (n + 1)).filter f = (List.range n).filter f ++ (if f n = true then [n] else []) := by
  rw [List.range_succ, List.filter_append]
  congr 1
  by_cases h : f n = true
  · simp [h]
  · simp [h]
/-- {k: v for target in a walk if ..} -/
theorem p_dcW {wi : TI} {J : It} {n : Nat} {G : Hp → Prop} {Y : Nat → Hp → V → Hp → Prop} {g : TG} {vs : List Nat} (f : Nat → Bool) (kf : Nat → Key) (Pf : Nat → PV) (hm : ∀ i, Mo (Pf i)) (hdw : ∀ i, Dw (Pf i)) (w : Walk J n G Y) (hn : n ≤ 40000)
    (inj : ∀ i j, i < n → j < n → kf i = kf j → i = j)
    (hwi : ∀ H1, Ex H H1 → ∀ R : It → Hp → Prop, (∀ H2, Ex H1 H2 → R J H2) → wi σ H1 R) (hG : ∀ H1, Ex H H1 → G H1)
    (step : ∀ (i : Nat) (x : V) (H1 H2 : Hp), i < n → Ex H H1 → Y i H1 x H2 → Ex H1 H2 ∧ ∃ σ2, (∀ k : L2.St → Hp → Prop, k σ2 H2 → g x (wipe σ vs) H2 k) ∧ wipe σ2 vs = wipe σ vs ∧ EvT t σ2 H2 (f i) ∧ (f i = true → Ev tk σ2 H2 (kV (kf i)) ∧ EvP tv σ2 H2 (Pf i))) :
    EvP (tDc wi g t tk tv vs) σ H (fun x H' => PrsV ((List.range n).filter f) kf Pf x H' ∧ ∃ D, x = .ref D ∧ H D = none) := fun H0 e Q q => hwi H0 e _ fun H1 e1 D hD => by
  refine ⟨fun i m H' => m = n - i ∧ i ≤ n ∧ Ex H1 H' ∧ ∃ kvs, H' D = some (.dK kvs) ∧ Prs ((List.range i).filter f) kf Pf kvs H', ⟨n, by simp, Nat.zero_le _, Ex.new hD, [], upd_same, ⟨rfl, fun j i hj => by simp at hj⟩⟩, ?_⟩
  rintro i m H' ⟨rfl, hi, ex, kvs, hd, pr⟩
  have up := (e.trans e1).trans ex
  by_cases lt : i < n
  · refine .inr ⟨w.goes i H' lt (hG H' up), fun H3 => Ex H1 H3 ∧ ∃ kvs, H3 D = some (.dK kvs) ∧ Prs ((List.range (i + 1)).filter f) kf Pf kvs H3, fun H3 ⟨p1, p2⟩ => ⟨n - (i + 1), by omega, rfl, lt, p1, p2⟩, fun x H2 y => ?_⟩
    obtain ⟨e2, σ2, gk, hw, ht, hkv⟩ := step i x H' H2 lt up (w.yields i H' x H2 lt (hG H' up) y)
    refine gk _ ⟨hw, ht H2 (Ex.refl _) _ fun H3 e3 => ?_⟩
    cases hf : f i with
    | false =>
      simp only [Bool.false_eq_true, if_false]
      refine ⟨ex.trans (e2.trans e3), kvs, (e2.trans e3) _ _ hd, ?_⟩
      rw [range_filter_succ, hf, if_neg (by decide), List.append_nil]
      exact pr.up hm (e2.trans e3)
    | true =>
      simp only [if_true]
      obtain ⟨hk, hv⟩ := hkv hf
      refine hk H3 e3 _ fun H4 e4 => hv H4 (e3.trans e4) _ fun z H5 e5 pz => ?_
      have e25 := e2.trans (e3.trans (e4.trans e5))
      have hd5 := e25 _ _ hd
      have p5 := pr.up hm e25
      have no : valV kvs (kf i) = none := pr.none fun j hj => by
        have hj' := List.mem_range.mp (List.mem_filter.mp hj).1
        intro z
        have := inj j i (by omega) lt z
        omega
      have short : kvs.length ≤ n := by
        rw [pr.len]
        have := List.length_filter_le f (List.range i)
        rw [List.length_range] at this
        omega
      refine ⟨kvs, kf i, rfl, hd5, sz_lt (by omega), (ex.trans e25).mut hD, _, upd_same, ?_⟩
      rw [putK_new z no, range_filter_succ, hf, if_pos rfl]
      exact (p5.put hdw hd5).snoc (hdw i _ _ _ _ _ hd5 pz)
  · have : i = n := by omega
    subst this
    exact .inl ⟨w.stops H' (hG H' up), q (.ref D) H' (e1.trans ex) ⟨⟨D, kvs, rfl, hd, pr⟩, D, rfl, fresh_back (e.trans e1) hD⟩⟩
end
end Wlk
set_option maxHeartbeats 4000000
/-! Defs that may raise and that are called where no repr is under way; methods with arguments; sorted(xs, key=str) of texts. -/
namespace Gd
open PySem PySem.Spec PyProof.Rows L2 Evl Pd
section
variable {P : Program} {w : World} {K : PySem.W.Frag} {mg : Str → Option Value} {base : Heap} {CX : CXT} {k : Nat} {f : Addr} {fd : FuncData} {ps : List Str} {sp : Sp}
theorem okGX {x qual : Str} {st : Stmt} {N : List Str} (F : Fun K x qual st f fd) (S : FnScope N ps (defScope st)) (len : ∀ vs H Q E, sp vs H Q E → vs.length = ps.length)
    (body : ∀ (cdv : Value) (A : Around) (outer : List Env) (s : Shared) (H : Hp) (vs : List V) (Q : VK) (E : XK), Room k (A.deeper (envOfC qual (defScope st) s.heap.objs.size f cdv)) → (A.deeper (envOfC qual (defScope st) s.heap.objs.size f cdv)).guards = some [] → sp vs H Q E →
      ∃ t, PSs (cxOf (L2.CX P w) P w K mg base N qual (defScope st) f cdv A outer s H E) (defBody st) t ∧ t { nx := fun _ H' => Q .non H', rt := Q } (start N vs) H) : FnG P w K mg base (L2.CX P w) (k + 1) f fd ps sp := by
  obtain ⟨oc, od, kV, doc, pm, an, cdv, ct, osl, rfl, lk, hcd⟩ := F.ex
  refine ⟨len, fun A outer s H args us vs Q E hr hg e0 hb r hsp => ?_⟩
  have hl := len _ _ _ _ hsp
  have KX : K.In s.heap := e0.mod.kin.keeps fun b o e => (e0.bs b o e).1
  have lim : s.heap.NoLimit := e0.mod.nolimit.keeps fun b o e => (e0.bs b o e).1
  have kinds : ∀ y ∈ ps.zip us, (defScope st).names.lookup y.1 = some .local ∨ ((defScope st).names.lookup y.1 = some .cell ∧ ((cellsFrom (s.heap.objs.size + 1) (defScope st).names []).lookup y.1).isSome = true) := fun ⟨n, v⟩ hy =>
    (S.par n (List.of_mem_zip hy).1).imp id fun q => ⟨q, PySem.W.cellsFrom_some _ _ _ (.inl q)⟩
  refine codeAny_call_function hr.depth (KX _ _ lk) rfl S.co S.gen rfl (PySem.W.codeRec_of KX hcd) (hb _ _ _ _ (wpAny_newFunctionEnv_cells S.kind kinds fun env he s1 x => ?_))
  subst he
  refine ⟨lim.keeps x.toInCall.keep, codeAny_func ?_⟩
  obtain ⟨t, ht, hq⟩ := body cdv A outer s H vs Q E (hr.deeper _) hg hsp
  have I : Inv (cxOf (L2.CX P w) P w K mg base N qual (defScope st) f cdv A outer s H E) [] (start N vs) H s1 := inv_start S hr.hd e0 hl r x
  refine wpAny_mono (ht.run [] s1 (start N vs) H _ I hq) (fun fl s' hs => ?_) fun e s' hs => hs
  have fin : ∀ {σ' : L2.St} {H' : Hp} {v : V} {u : Value}, Inv (cxOf (L2.CX P w) P w K mg base N qual (defScope st) f cdv A outer s H E) [] σ' H' s' → RelV v u → Q v H' → CE outer P w H s Q u s' := fun {σ' H' v u} J rv q => ⟨v, H', J.os, J.bare, J.base, J.hok, rv, q⟩
  cases fl with
  | ret u =>
    obtain ⟨v, σ', H', J, rv, q⟩ := hs
    exact fin J rv q
  | next =>
    obtain ⟨σ', H', J, q⟩ := hs
    exact fin (v := V.non) (u := Value.none) J rfl q
  | brk =>
    obtain ⟨_, _, _, q⟩ := hs
    exact False.elim q
  | cont =>
    obtain ⟨_, _, _, q⟩ := hs
    exact False.elim q
end
section
variable {X : Cx} {CX : CXT} {k j : Nat} {f C : Addr} {fd : FuncData} {ps : List Str} {sp : Sp} {E : XK} {x m : Str} {p pos apos : Pos} {e o : Expr} {es : List Expr} {ta : TE} {t : TA}
/-- o.m(e, ..) -/
theorem pe_methG {pl : Sem Bool} (he : PE X o ta) (c : Cls X.K C) (hm : Meth X.K C m f) (F : FnG X.prog X.w X.K X.mg X.base CX k f fd ps sp) (hr : Room k X.A) (hg : X.A.guards = some []) (hb : L2.Binds X.K fd ps []) (hx : Passes CX X E) (ha : PA X (e :: es) t)
    (hst : starEach (e :: es) X.env = (false, eval e X.env) :: starEach es X.env := by rfl) (hpl : (backTo pos (starEach es X.env)).any (·.1) = false := by rfl)
    (ht : eval (.Call (.Attribute o m apos) (e :: es) [] pos) X.env = (do
      let ov ← eval o X.env
      standAt apos.atName
      let (f, first) ← holding [ov] (getMethod ov m pl)
      callWith pos f first (backTo pos (starEach (e :: es) X.env)) (backToKw pos (keywordEach [] X.env))) := by rfl) :
    PE X (.Call (.Attribute o m apos) (e :: es) [] pos) (tMeth C m sp [] E ta t) := by
  refine ⟨fun pins s σ H Q I h => ?_⟩
  refine PySem.W.methodCall_KW (pl := pl) (thn (he.run pins s σ H _ I h) fun u s1 ⟨y, H1, I1, rx, a, dx, fs, ex, ea, l, q⟩ => ?_) ht
  subst ex
  obtain rfl : u = Value.ref a := rx
  refine getmeth_ok I1 ea c hm l ?_
  refine PySem.W.callWith_K (first := [.ref a]) (h₀ := X.base) I.ok.mod.kin hm.kp (thn (ha.run pos pins s1 σ H1 _ I1 q) fun us s2 ⟨vs, H2, I2, r, q2⟩ => ⟨I2.kIn, ?_⟩) hst hpl
  have q2 : sp (V.ref a :: vs) H2 Q E := by
    have z : sp (V.ref a :: (vs ++ [])) H2 Q E := q2
    rwa [List.append_nil] at z
  exact run_fnG (us := .ref a :: us) (vs := .ref a :: vs) F hr hg hb hx I2 (.cons rfl r) q2
structure UseX (P : Program) (w : World) (K : PySem.W.Frag) (mg : Str → Option Value) (base : Heap) (k : Nat) (x : Str) (ps : List Str) (sp : Sp) : Prop where
  ex : ∃ f fd, mg x = some (.ref f) ∧ PySem.W.keepIn K (.ref f) = true ∧ L2.Binds K fd ps [] ∧ FnOk P w K mg base (L2.CX P w) k f fd ps sp
theorem pe_useX (U : UseX X.prog X.w X.K X.mg X.base k x ps sp) (hr : Room j X.A) (hk : k ≤ j) (hg : Gl X x) (hx : Passes (L2.CX X.prog X.w) X E) (ha : PA X (e :: es) t)
    (hdb : (x == ("__debug__" : Str)) = false := by decide) (he : starEach (e :: es) X.env = (false, eval e X.env) :: starEach es X.env := by rfl) (hpl : (backTo pos (starEach es X.env)).any (·.1) = false := by rfl) :
    PE X (.Call (.Name x p) (e :: es) [] pos) (tCall sp [] E t) := by
  obtain ⟨f, fd, m, kp, b, F⟩ := U.ex
  exact pe_call F (hr.mono hk) hg m kp b .nil hx ha hdb he hpl
theorem useX_of {P : Program} {w : World} {K : PySem.W.Frag} {mg : Str → Option Value} {base : Heap} {st : Stmt} {N : List Str} (D : Us.Dn K mg x st) (S : FnScope N ps (defScope st)) (hb : ∀ (f : Addr) (fd : FuncData), Fun K x x st f fd → L2.Binds K fd ps []) (len : ∀ vs H Q E, sp vs H Q E → vs.length = ps.length)
    (body : ∀ (f : Addr) (cdv : Value) (A : Around) (outer : List Env) (s : Shared) (H : Hp) (vs : List V) (Q : VK) (E : XK), Room k (A.deeper (envOfC x (defScope st) s.heap.objs.size f cdv)) → sp vs H Q E →
      ∃ t, PSs (cxOf (L2.CX P w) P w K mg base N x (defScope st) f cdv A outer s H E) (defBody st) t ∧ t { nx := fun _ H' => Q .non H', rt := Q } (start N vs) H) : UseX P w K mg base (k + 1) x ps sp := by
  obtain ⟨f, fd, g, kp, F⟩ := D.ex
  exact ⟨f, fd, g, kp, hb f fd F, F.okX S len (body f)⟩
end
/-! ### sorted(xs, key=str), all of them texts -/
def rSortT (K : PySem.W.Frag) : List V → List V → Hp → VK → Prop := fun vs zs H Q => ∃ (a : Addr) (ss : List Str), vs = [.ref a] ∧ zs = [.ty "str"] ∧ SqL K H a (ss.map V.str) ∧ ∀ p, H p = none → Q (.ref p) (upd H p (.lst ((ss.mergeSort (PySem.W.dataLe false fun s => PyData.str s)).map V.str)))
theorem vals_str : ∀ {us : List Value} {ss : List Str}, PySem.W.EachIs (fun (v : Value) (b : Str) => RelV (.str b) v) us ss → Vals (ss.map V.str) us
  | _, _, .nil => .nil
  | _, _, .cons h t => .cons h (vals_str t)
theorem each_str : ∀ {us : List Value} {ss : List Str}, Vals (ss.map V.str) us → PySem.W.EachIs (fun (v : Value) (b : Str) => RelV (.str b) v) us ss
  | us, [], r => by cases r; exact .nil
  | us, s :: ss, r => by
    cases r with
    | cons a b => exact .cons a (each_str b)
section
variable {X : Cx}
theorem cr_sortT (hu : X.A.units + 64 < cLine) : CallRK X (.builtin "sorted") [Str.ofString "key"] (rSortT X.K) := by
  intro pins s σ H xs zs us ws Q I r rz h
  obtain ⟨a, ss, rfl, rfl, hS, q⟩ := h
  cases r with
  | cons ra rn =>
    cases rn
    cases ra
    cases rz with
    | cons rk rm =>
      cases rm
      cases rk
      obtain ⟨its, rv, pl, hl⟩ := I.list hS
      rw [List.length_map] at hl
      show wpAny _ _ (call (.builtin "sorted") [.ref a] [(Str.ofString "key", .type "str")]) _ _ _
      refine PySem.W.sorted_key_data (b := false) (fun b : Str => PyData.str b) pl.isList (each_str rv) (PySem.W.AllAlike.of fun _ _ => by simp [PySem.W.alike]) (PySem.W.Sortable.others fun _ => ⟨(fun z => nomatch z), fun _ z => nomatch z⟩) hl
        (fun b _ => by have e : (PyData.str b).depth = 0 := by simp [PyData.depth]
                       rw [e]; omega) (ksk_s1 _ _) (fun _ => ksk_l1 _ _) (fun _ => rfl) (fun v b hb hm h tk kp => ?_) fun out c h' tk kp hn hD hl2 eo => ?_
      · cases (show RelV (.str b) v from hb) with
        | intro t e =>
          subst e
          exact PySem.P.str_of_str ⟨h, tk, rfl, fun _ _ z => z, .str _ _⟩
      · have vo := vals_str eo
        have lo : ((ss.mergeSort (PySem.W.dataLe false fun s => PyData.str s)).map V.str).length ≤ sizeLine := by
          rw [List.length_map, List.length_mergeSort]
          exact hl
        have ok : ObjOk X.prog X.w (upd H (s.heap.objs.size + 1) (.lst ((ss.mergeSort (PySem.W.dataLe false fun s => PyData.str s)).map V.str))) h' (s.heap.objs.size + 1) (.lst ((ss.mergeSort (PySem.W.dataLe false fun s => PyData.str s)).map V.str)) := ⟨lo, out, c, vo, hD⟩
        exact ⟨.ref (s.heap.objs.size + 1), _, I.laid (t' := tk) kp (Nat.le_succ _) ok, rfl, q _ (I.hok.fresh (Nat.le_succ _))⟩
end
end Gd
set_option maxHeartbeats 4000000
/-! An end: what it holds, how it is made. -/
namespace Chk
open PySem PySem.Spec PyProof.Rows L2 Evl Pd Gd Us Wlk
def leS : Str → Str → Bool := PySem.W.dataLe false fun s => PyData.str s
def sortS (ss : List Str) : List Str := ss.mergeSort leS
def keyS : Key → Str
  | .inl _ => ""
  | .inr s => s
def itemAt (kvs : Its') (k : Key) : Itm := ((kvs.find? fun p => decide (p.1 = k)).map (·.2)).getD (.d .none)
def wordsI (kvs : Its') : List Str := sortS (kvs.map fun p => keyS p.1)
/-- by their words, ascending -/
def ordI (kvs : Its') : Its' := (wordsI kvs).map fun w => (Sum.inr w, itemAt kvs (.inr w))
def itemsA : Arg → Its'
  | .dct kvs => kvs
  | .d _ => []
def rulesI (kvs : Its') : Its' := kvs.map fun p => (p.1, .dt (onceK (keysOf (dataI p.2))))
/-- what an end holds -/
structure Eg where
  own : Its'
  uses : Its'
  rules : Its'
  most : Int
def endOf (p : PtsE) : Eg := ⟨ordI (itemsA p.settings), ordI (itemsA p.uses), rulesI (itemsA p.rules), intOf p.most⟩
def methodsE : List Str := ["words", "used_words", "setting", "use", "pairs", "lets", "with_pairs"]
structure EndAt (K : PySem.W.Frag) (C CE : Addr) (e : Eg) (a : Addr) (H : Hp) : Prop where
  ex : ∃ (dx : Addr) (fs : List (Str × V)) (d1 d2 d3 : Addr) (v1 v2 v3 : List (Key × V)), H a = some (.ins CE dx fs) ∧ H d1 = some (.dK v1) ∧ H d2 = some (.dK v2) ∧ H d3 = some (.dK v3) ∧ ItemsV K C e.own v1 H ∧ ItemsV K C e.uses v2 H ∧ ItemsV K C e.rules v3 H ∧
    fs.lookup ("_settings" : Str) = some (.ref d1) ∧ fs.lookup ("_uses" : Str) = some (.ref d2) ∧ fs.lookup ("_rules" : Str) = some (.ref d3) ∧ fs.lookup ("_most" : Str) = some (.int e.most) ∧ ∀ m ∈ methodsE, fs.lookup m = none
def EndV (K : PySem.W.Frag) (C CE : Addr) (e : Eg) : PV := fun x H => ∃ a, x = .ref a ∧ EndAt K C CE e a H
theorem EndAt.up {K : PySem.W.Frag} {C CE : Addr} {e : Eg} {a : Addr} {H H' : Hp} (h : EndAt K C CE e a H) (x : Ex H H') : EndAt K C CE e a H' := by
  obtain ⟨dx, fs, d1, d2, d3, v1, v2, v3, h0, h1, h2, h3, i1, i2, i3, r⟩ := h.ex
  exact ⟨dx, fs, d1, d2, d3, v1, v2, v3, x _ _ h0, x _ _ h1, x _ _ h2, x _ _ h3, i1.up x, i2.up x, i3.up x, r⟩
theorem mo_end {K : PySem.W.Frag} {C CE : Addr} {e : Eg} : Mo (EndV K C CE e) := fun _ _ _ x ⟨a, h1, h2⟩ => ⟨a, h1, h2.up x⟩
/-! ### sorted words -/
theorem sortS_perm (ss : List Str) : (sortS ss).Perm ss := List.mergeSort_perm ..
theorem sortS_len (ss : List Str) : (sortS ss).length = ss.length := (sortS_perm ss).length_eq
theorem nodup_at {α : Type} {l : List α} (h : l.Nodup) {i j : Nat} {x : α} (hi : l[i]? = some x) (hj : l[j]? = some x) : i = j := by
  have a1 := List.getElem?_eq_some_iff.mp hi
  have a2 := List.getElem?_eq_some_iff.mp hj
  obtain ⟨l1, e1⟩ := a1
  obtain ⟨l2, e2⟩ := a2
  rcases Nat.lt_trichotomy i j with c | c | c
  · exact absurd (e1.trans e2.symm) (List.pairwise_iff_getElem.mp h i j l1 l2 c)
  · exact c
  · exact absurd (e2.trans e1.symm) (List.pairwise_iff_getElem.mp h j i l2 l1 c)
def AllR (kvs : Its') : Prop := ∀ p ∈ kvs, ∃ s : Str, p.1 = .inr s
section
variable {K : PySem.W.Frag} {C : Addr} {kvs : Its'} {vs : List (Key × V)} {H H' : Hp}
theorem words_nodup (h : (kvs.map (·.1)).Nodup) (hr : AllR kvs) : (wordsI kvs).Nodup := by
  refine (sortS_perm _).nodup_iff.mpr ?_
  have e : kvs.map (·.1) = (kvs.map fun p => keyS p.1).map Sum.inr := by
    rw [List.map_map]
    refine List.map_congr_left fun p hp => ?_
    obtain ⟨s, e⟩ := hr p hp
    show p.1 = Sum.inr (keyS p.1)
    rw [e]
    rfl
  rw [e] at h
  exact (List.pairwise_map.mp h).imp fun h z => h (by rw [z])
theorem item_at (hn : (kvs.map (·.1)).Nodup) {i : Nat} {k : Key} {t : Itm} (h : kvs[i]? = some (k, t)) : itemAt kvs k = t := by
  have : kvs.find? (fun p => decide (p.1 = k)) = some (k, t) := by
    rw [List.find?_eq_some_iff_getElem]
    obtain ⟨l1, e1⟩ := List.getElem?_eq_some_iff.mp h
    refine ⟨by simp, i, l1, e1, fun j hj => ?_⟩
    have lj : j < kvs.length := by omega
    have : kvs[j].1 ≠ k := fun z => by
      have := nodup_at hn (i := j) (j := i) (x := k) (by rw [List.getElem?_map, List.getElem?_eq_getElem lj, Option.map_some, z]) (by rw [List.getElem?_map, h]; rfl)
      omega
    simpa using this
  unfold itemAt
  rw [this]
  rfl
/-- the value at a word -/
theorem ItemsV.word (h : ItemsV K C kvs vs H) (hn : (kvs.map (·.1)).Nodup) (hr : AllR kvs) {w : Str} (hw : w ∈ wordsI kvs) : ∃ v, valV vs (.inr w) = some v ∧ ItmV K C (itemAt kvs (.inr w)) v H := by
  have m := (sortS_perm _).mem_iff.mp hw
  obtain ⟨p, hp, e⟩ := List.mem_map.mp m
  obtain ⟨s, e2⟩ := hr p hp
  obtain ⟨i, hi, rfl⟩ := List.getElem_of_mem hp
  have hk : kvs[i]? = some (.inr w, kvs[i].2) := by
    rw [List.getElem?_eq_getElem hi]
    have : kvs[i].1 = .inr w := by rw [e2]; rw [e2] at e; exact congrArg Sum.inr e
    rw [← this]
  obtain ⟨v, h1, h2⟩ := h.at_ i _ _ hk
  rw [item_at hn hk]
  exact ⟨v, valV_at (by rw [h.keys]; exact hn) h1, h2⟩
/-- an object of the class CE at a that was empty is written: the rest stays -/
theorem itm_stay {CE a dx : Addr} {t : Itm} {v : V} (ha : H a = some (.ins CE dx [])) (st : ∀ b o, b ≠ a → H b = some o → H' b = some o) (h : ItmV K C t v H) : ItmV K C t v H' := by
  have ne : ∀ {b : Addr} {o : HO}, H b = some o → (∀ d, o ≠ .ins CE d []) → b ≠ a := fun {b o} hb hne z => by
    rw [z, ha] at hb
    cases hb
    exact hne _ rfl
  cases t with
  | d d => exact Lw.dq_by (fun b xs hb => st b _ (ne hb fun _ z => nomatch z) hb) (fun b xs hb => st b _ (ne hb fun _ z => nomatch z) hb) h
  | set g =>
    obtain ⟨b, e, dy, d, fs, h1, h2, h3, r⟩ := h
    refine ⟨b, e, dy, d, fs, st _ _ (ne h1 fun d z => ?_) h1, st _ _ (ne h2 fun _ z => nomatch z) h2, h3, r⟩
    injection z with _ _ z
    rw [z] at h3
    cases h3
  | dt ks =>
    obtain ⟨b, e, hb⟩ := h
    exact ⟨b, e, st _ _ (ne hb fun _ z => nomatch z) hb⟩
end
/-! ### {word: d[word] for word in sorted(list(d), key=str)} -/
def rListDK : List V → Hp → VK → Prop := fun xs H Q => ∃ (a : Addr) (kvs : List (Key × V)), xs = [.ref a] ∧ Rd H a (.dK kvs) ∧ ∀ p, H p = none → Q (.ref p) (upd H p (.lst (kvs.map fun kv => kV kv.1)))
section
variable {K : PySem.W.Frag} {C : Addr} {kvs : Its'} {vs : List (Key × V)} {σ : L2.St} {H : Hp} {td td2 te : TE} {a : Addr}
theorem keys_words (hi : ItemsV K C kvs vs H) (hr : AllR kvs) : (vs.map fun kv => kV kv.1) = (kvs.map fun p => keyS p.1).map V.str := by
  have e : (vs.map fun kv => kV kv.1) = (vs.map (·.1)).map kV := by rw [List.map_map]; rfl
  rw [e, hi.keys, List.map_map, List.map_map]
  refine List.map_congr_left fun p hp => ?_
  obtain ⟨s, e⟩ := hr p hp
  show kV p.1 = V.str (keyS p.1)
  rw [e]
  rfl
theorem el_words (hi : ItemsV K C kvs vs H) (hr : AllR kvs) (hd : Rd H a (.dK vs)) (h : Ev td σ H (.ref a)) : EvL (tCKw (rSortT K) (tCons (tCB rListDK (tCons td tNil)) tNil) (tCons (tC (.ty "str")) tNil)) σ H ((wordsI kvs).map V.str) := fun H1 e Q q =>
  h H1 e _ fun H2 e2 => ⟨a, vs, rfl, ex_rd (e.trans e2) hd, fun p hp => ⟨p, kvs.map fun p => keyS p.1, rfl, rfl, by rw [keys_words hi hr]; exact sq_of upd_same, fun r hr2 => q r _ (fresh_back (e2.trans (Ex.new hp)) hr2) (e2.trans ((Ex.new hp).trans (Ex.new hr2))) upd_same⟩⟩
/-- the dict's pairs are those of ord, by word -/
structure OrdV (kvs : Its') (vs ws : List (Key × V)) : Prop where
  len : ws.length = (wordsI kvs).length
  at_ : ∀ (j : Nat) (w : Str), (wordsI kvs)[j]? = some w → ∃ v, ws[j]? = some (.inr w, v) ∧ valV vs (.inr w) = some v
theorem OrdV.items {ws : List (Key × V)} {H' : Hp} (o : OrdV kvs vs ws) (hi : ItemsV K C kvs vs H) (hn : (kvs.map (·.1)).Nodup) (hr : AllR kvs) (up : ∀ t v, ItmV K C t v H → ItmV K C t v H') : ItemsV K C (ordI kvs) ws H' := by
  refine ⟨by rw [o.len]; unfold ordI; rw [List.length_map], fun i k t h => ?_⟩
  unfold ordI at h
  rw [List.getElem?_map] at h
  obtain ⟨w, hw, e⟩ := Option.map_eq_some_iff.mp h
  cases e
  obtain ⟨v, h1, h2⟩ := o.at_ i w hw
  obtain ⟨v2, h3, h4⟩ := hi.word hn hr (List.mem_of_getElem? hw)
  rw [h2] at h3
  cases h3
  exact ⟨v, h1, up _ _ h4⟩
theorem p_ord {i : Nat} {vs' : List Nat} (hi : ItemsV K C kvs vs H) (hn : (kvs.map (·.1)).Nodup) (hr : AllR kvs) (hz : kvs.length ≤ 1000) (hd : Rd H a (.dK vs)) (h : Ev td σ H (.ref a)) (hw : ∀ x, wipe ((wipe σ vs').set i (some x)) vs' = wipe σ vs') (hv : ∀ x, ((wipe σ vs').set i (some x))[i]? = some (some x))
    (h2 : ∀ x, Ev td2 ((wipe σ vs').set i (some x)) H (.ref a)) : EvP (tDc (iList K (tCKw (rSortT K) (tCons (tCB rListDK (tCons td tNil)) tNil) (tCons (tC (.ty "str")) tNil))) (gName i) tYes (tVar i) (tDGet td2 (tVar i)) vs') σ H (fun x H' => ∃ D ws, x = .ref D ∧ H D = none ∧ H' D = some (.dK ws) ∧ OrdV kvs vs ws) := fun H1 e Q q =>
  el_words hi hr hd h H1 e _ fun p H2 hp e2 hl => ⟨p, rfl, ⟨_, sq_of hl⟩, by
    have nd := words_nodup hn hr
    have lw : (wordsI kvs).length ≤ 1000 := by unfold wordsI; rw [sortS_len, List.length_map]; exact hz
    have key := p_dcW (σ := σ) (H := H2) (tk := tVar i) (tv := tDGet td2 (tVar i)) (t := tYes) (wi := fun _ H' R => R (Itl K p) H') (g := gName i) (vs := vs') (fun _ => true) (fun j => .inr (((wordsI kvs)[j]?).getD "")) (fun j => Is ((valV vs (.inr (((wordsI kvs)[j]?).getD ""))).getD .non)) (fun _ => mo_is) (fun _ => dw_is)
      (walk_list (K := K) (a := p) (xs := (wordsI kvs).map V.str)) (by rw [List.length_map]; omega) (fun j l hj hl' z => ?_) (fun H3 e3 R r => r H3 (Ex.refl _)) (fun H3 e3 => sq_of (e3 _ _ hl)) (fun j x H3 H4 hj e3 y => ?_)
    · refine key H2 (Ex.refl _) Q fun x H3 e3 p3 => q x H3 (e2.trans e3) ?_
      obtain ⟨⟨D, ws, rfl, hD, pr⟩, D', ed, nD⟩ := p3
      cases ed
      have ff : (List.range ((wordsI kvs).map V.str).length).filter (fun _ => true) = List.range (wordsI kvs).length := by rw [List.length_map]; simp
      rw [ff] at pr
      refine ⟨D, ws, rfl, fresh_back (e.trans e2) nD, hD, by rw [pr.len, List.length_range], fun j w hw => ?_⟩
      have lj := (List.getElem?_eq_some_iff.mp hw).1
      obtain ⟨v, h1, h2⟩ := pr.at_ j j (by rw [List.getElem?_range lj])
      rw [hw, Option.getD_some] at h1
      obtain ⟨v2, h3, _⟩ := hi.word hn hr (List.mem_of_getElem? hw)
      rw [h3]
      rw [show v = _ from h2, hw, Option.getD_some, h3] at h1
      exact ⟨v2, h1, rfl⟩
    · rw [List.length_map] at hj hl'
      rw [List.getElem?_eq_getElem hj, List.getElem?_eq_getElem hl', Option.getD_some, Option.getD_some] at z
      injection z with z
      exact nodup_at nd (List.getElem?_eq_getElem hj) (by rw [List.getElem?_eq_getElem hl', z])
    · obtain ⟨rfl, hx⟩ := y
      rw [List.length_map] at hj
      rw [List.getElem?_map, List.getElem?_eq_getElem hj, Option.map_some] at hx
      cases hx
      have up := e.trans (e2.trans e3)
      refine ⟨Ex.refl _, _, fun k hk => hk, hw _, fun H5 _ Q5 q5 => q5 H5 (Ex.refl _), fun _ => ?_⟩
      rw [List.getElem?_eq_getElem hj, Option.getD_some]
      refine ⟨ev_var (hv _), ?_⟩
      obtain ⟨v2, h3, _⟩ := hi.word hn hr (List.getElem_mem hj)
      rw [h3]
      exact p_dget (k := .inr (wordsI kvs)[j]) ((h2 _).mono up) (ev_var (hv _)) (ex_rd up hd) h3 mo_is rfl⟩
/-- a value inside a lock -/
theorem p_lock {d : Addr} {P : PV} (hd : H d = some (.dK vs)) (un : ∀ (x : V) (H2 : Hp) (od : Obj), H2 d = some (.frz od (.dK vs)) → P x H2 → P x (upd H2 d (.dK vs))) (h : ∀ od, EvP te σ (lk H d od vs) P) : EvP (tLockE te) σ H P := fun H1 e Q q =>
  ⟨d, .dK vs, e _ _ hd, trivial, fun od => h od _ (ex_both e) _ fun x H2 e2 p => ⟨e2 _ _ upd_same, q x _ (EqD.ex_lock (e _ _ hd) e2) (un x H2 od (e2 _ _ upd_same) p)⟩⟩
theorem key_tupP {x : V} {e : PyData} {lo hi : Int} (h : Dq H x e) (ok : isPair lo hi e = true) : ∃ b, x = .ref b ∧ H b = some (.tup ((keyOf e).map kV)) := by
  obtain ⟨i, j, rfl⟩ := isPair_ints ok
  cases h with
  | tup h a =>
    cases a with
    | cons h1 a =>
      cases a with
      | cons h2 a =>
        cases a
        cases h1
        cases h2
        exact ⟨_, rfl, h⟩
theorem keyAllP {xs : List V} {ds : List PyData} {lo hi : Int} (h : DqAll H xs ds) (ok : ∀ e ∈ ds, isPair lo hi e = true) : KeyAll H xs (ds.map keyOf) := by
  refine ⟨by rw [dqAll_len h, List.length_map], fun i x k hx hk => ?_⟩
  obtain ⟨e, he, hd⟩ := dqAll_at h hx
  rw [List.getElem?_map, he] at hk
  cases hk
  exact key_tupP hd (ok e (List.mem_of_getElem? he))
/-- {pair: True for pair in xs} -/
theorem p_trues {tl : TE} {j : Nat} {vs' : List Nat} {d : PyData} (h : EvP tl σ H (Qe d)) (ok : okPairs d = true) (hs : Short d) (hw : ∀ x, wipe ((wipe σ vs').set j (some x)) vs' = wipe σ vs') (hv : ∀ x, ((wipe σ vs').set j (some x))[j]? = some (some x)) :
    EvP (Dct.tDct (.dT []) (iList K tl) (gName j) tYes (tVar j) (tC (.bl true)) vs') σ H (DtV (onceK (keysOf d))) := fun H1 e Q q => by
  refine h H1 e (fun x H2 => ∃ l, x = .ref l ∧ (∃ xs, SqL K H2 l xs) ∧ _) fun x H2 e2 p => ?_
  match d, ok, hs, p with
  | .list ds, ok, hs, .lst (a := l) (xs := xs) z hl hD =>
    refine ⟨l, rfl, ⟨xs, sq_of hl⟩, ?_⟩
    have all := keyAllP hD fun e he => (List.all_eq_true.mp ok) e he
    have key := p_dct (K := K) (σ := σ) (H := H2) (tl := tC (.ref l)) (j := j) (vs := vs') (Q := Q) ev_c hl all (by have := hs ds rfl; rw [dqAll_len hD]; omega) hw hv fun D H3 hn e3 hd => q (.ref D) H3 (e2.trans e3) ⟨D, rfl, hd⟩
    obtain ⟨l', el, _, body⟩ := key
    cases el
    exact body
end
end Chk
set_option maxHeartbeats 4000000
namespace Chk
open PySem PySem.Spec PyProof.Rows L2 Evl Pd Gd Us Wlk
structure ClsE (K : PySem.W.Frag) (CE : Addr) : Prop where
  cl : Cls K CE
  settings : NoAttr K CE "_settings"
  uses : NoAttr K CE "_uses"
  rules : NoAttr K CE "_rules"
  most : NoAttr K CE "_most"
theorem rightE {p : PtsE} (h : wrongE p = none) : okSets p.settings = true ∧ okUses (keysA p.settings) p.uses = true ∧ okRules p.rules = true ∧ betw 1 3 p.most = true := by
  unfold wrongE at h
  split at h
  · cases h
  split at h
  · cases h
  split at h
  · cases h
  split at h
  · cases h
  rename_i h1 h2 h3 h4
  exact ⟨by simpa using h1, by simpa using h2, by simpa using h3, by simpa using h4⟩
theorem wordK_inr {k : Key} (h : isWordK k = true) : ∃ s : Str, k = .inr s := by
  cases k with
  | inl i => cases h
  | inr s => exact ⟨s, rfl⟩
theorem sets_dct {A : Arg} (h : okSets A = true) : ∃ kvs, A = .dct kvs ∧ kvs.length ≤ 2 ∧ AllR kvs ∧ ∀ p ∈ kvs, ∃ g, p.2 = .set g := by
  cases A with
  | d d => cases h
  | dct kvs =>
    rw [okSets_dct, Bool.and_eq_true, Bool.and_eq_true] at h
    refine ⟨kvs, rfl, of_decide_eq_true h.1, fun p hp => ?_, fun p hp => ?_⟩
    all_goals have := (List.all_eq_true.mp h.2.1) p hp
    all_goals unfold okItem at this
    all_goals rw [Bool.and_eq_true] at this
    · exact wordK_inr this.1
    · cases e : p.2 with
      | set g => exact ⟨g, rfl⟩
      | d _ => rw [e] at this; cases this.2
      | dt _ => rw [e] at this; cases this.2
theorem uses_dct {own : List Key} {A : Arg} (h : okUses own A = true) : ∃ kvs, A = .dct kvs ∧ kvs.length ≤ 2 ∧ AllR kvs ∧ ∀ p ∈ kvs, inT usesT (dataI p.2) = true := by
  cases A with
  | d d => cases h
  | dct kvs =>
    rw [okUses_dct, Bool.and_eq_true] at h
    refine ⟨kvs, rfl, of_decide_eq_true h.1, fun p hp => ?_, fun p hp => ?_⟩
    all_goals have := (List.all_eq_true.mp h.2) p hp
    all_goals unfold okUse at this
    all_goals rw [Bool.and_eq_true, Bool.and_eq_true] at this
    · exact wordK_inr this.1
    · exact this.2.2
theorem rules_dct {A : Arg} (h : okRules A = true) : ∃ kvs, A = .dct kvs ∧ ∀ p ∈ kvs, inT deedsT (keyD p.1) = true ∧ okPairs (dataI p.2) = true := by
  cases A with
  | d d => cases h
  | dct kvs =>
    refine ⟨kvs, rfl, fun p hp => ?_⟩
    have := (List.all_eq_true.mp h) p hp
    unfold okRule at this
    rwa [Bool.and_eq_true] at this
/-- the dicts of its fields are none that stood in H -/
def EndNew (H : Hp) (a : Addr) (H' : Hp) : Prop := ∃ CE dx fs d1 d2 d3, H' a = some (.ins CE dx fs) ∧ fs.lookup ("_settings" : Str) = some (.ref d1) ∧ fs.lookup ("_uses" : Str) = some (.ref d2) ∧ fs.lookup ("_rules" : Str) = some (.ref d3) ∧ H d1 = none ∧ H d2 = none ∧ H d3 = none
def spInitE (K : PySem.W.Frag) (C CE CB : Addr) : Sp := fun vs H Q E => vs.length = 5 ∧ ∃ (a dx : Addr) (x1 x2 x3 x4 : V) (p : PtsE), vs = [.ref a, x1, x2, x3, x4] ∧ H a = some (.ins CE dx []) ∧ ArgsE K C H x1 x2 x3 x4 p ∧
  (∀ t, wrongE p = some t → ∀ d H', Ex H H' → H' d = none → E (.ref CB) (some d) (upd H' d (.xd [("part", V.str t)]))) ∧
  (wrongE p = none → ∀ H', (∀ b o, b ≠ a → H b = some o → H' b = some o) → EndAt K C CE (endOf p) a H' → EndNew H a H' → Q .non H')
abbrev nInitE : List Str := ["self", "settings", "uses", "rules", "most", "part", "word", "deed", "pair"]
/-- {deed: {pair: True for pair in rules[deed]} for deed in rules} -/
theorem p_rulesD {K : PySem.W.Frag} {C : Addr} {kvs : Its'} {vs : List (Key × V)} {σ : L2.St} {H : Hp} {td td2 : TE} {a : Addr} {i j : Nat} {vs1 vs2 : List Nat} (hi : ItemsV K C kvs vs H) (hn : (kvs.map (·.1)).Nodup) (hz : kvs.length ≤ 1000) (hd : H a = some (.dK vs))
    (pl : ∀ p ∈ kvs, ∃ d, p.2 = .d d ∧ okPairs d = true ∧ Short d) (h : ∀ od, Ev td σ (lk H a od vs) (.ref a)) (hw : ∀ x, wipe ((wipe σ vs1).set i (some x)) vs1 = wipe σ vs1) (hv : ∀ x, ((wipe σ vs1).set i (some x))[i]? = some (some x))
    (hw2 : ∀ x y, wipe ((wipe ((wipe σ vs1).set i (some x)) vs2).set j (some y)) vs2 = wipe ((wipe σ vs1).set i (some x)) vs2) (hv2 : ∀ x y, ((wipe ((wipe σ vs1).set i (some x)) vs2).set j (some y))[j]? = some (some y)) (h2 : ∀ od x, Ev td2 ((wipe σ vs1).set i (some x)) (lk H a od vs) (.ref a)) :
    EvP (tLockE (tDc (iKeys td) (gName i) tYes (tVar i) (Dct.tDct (.dT []) (iList K (tDGet td2 (tVar i))) (gName j) tYes (tVar j) (tC (.bl true)) vs2) vs1)) σ H (fun x H' => ∃ D ws, x = .ref D ∧ H D = none ∧ H' D = some (.dK ws) ∧ ItemsV K C (rulesI kvs) ws H') := by
  refine p_lock hd (fun x H2 od hd2 ⟨D, ws, e, nD, hD, hit⟩ => ⟨D, ws, e, nD, ?_, hit.len, fun n k t hk => ?_⟩) fun od => ?_
  · rw [upd_ne (fun z => by rw [z, hd2] at hD; cases hD)]
    exact hD
  · obtain ⟨v, h1, h2⟩ := hit.at_ n k t hk
    refine ⟨v, h1, ?_⟩
    unfold rulesI at hk
    rw [List.getElem?_map] at hk
    obtain ⟨q, _, e⟩ := Option.map_eq_some_iff.mp hk
    cases e
    obtain ⟨t2, et, ht⟩ := h2
    exact ⟨t2, et, by rw [upd_ne (fun z => by rw [z, hd2] at ht; cases ht)]; exact ht⟩
  · have key := p_dcW (σ := σ) (H := lk H a od vs) (tk := tVar i) (tv := Dct.tDct (.dT []) (iList K (tDGet td2 (tVar i))) (gName j) tYes (tVar j) (tC (.bl true)) vs2) (t := tYes) (wi := iKeys td) (g := gName i) (vs := vs1) (fun _ => true) (fun n => ((kvs[n]?).map (·.1)).getD (.inl 0)) (fun n => DtV (onceK (keysOf (dataI (((kvs[n]?).map (·.2)).getD (.d .none)))))) (fun _ => mo_dt) (fun _ => dw_dt)
      (walk_keys (d := a) (o := od) (kvs := vs)) (by rw [hi.len]; omega) (fun m n hm hn' z => ?_) (fun H1 e1 R r => h od H1 e1 _ fun H2 e2 => ⟨a, od, rfl, .inl ⟨vs, (e1.trans e2) _ _ upd_same, r H2 e2⟩⟩) (fun H1 e1 => e1 _ _ upd_same) (fun n x H1 H2 hn' e1 y => ?_)
    · refine key.imp fun x H1 e1 ⟨⟨D, ws, e, hD, pr⟩, D', e', nD⟩ => ⟨D, ws, e, by rw [e] at e'; cases e'; exact (none_un nD).2, hD, ?_⟩
      have ff : (List.range vs.length).filter (fun _ => true) = List.range kvs.length := by rw [hi.len]; simp
      rw [ff] at pr
      refine ⟨by rw [pr.len, List.length_range]; unfold rulesI; rw [List.length_map], fun n k t hk => ?_⟩
      unfold rulesI at hk
      rw [List.getElem?_map] at hk
      obtain ⟨q, hq, e⟩ := Option.map_eq_some_iff.mp hk
      cases e
      have ln := (List.getElem?_eq_some_iff.mp hq).1
      obtain ⟨v, h1, h2⟩ := pr.at_ n n (by rw [List.getElem?_range ln])
      rw [hq] at h1 h2
      exact ⟨v, h1, h2⟩
    · rw [hi.len] at hm hn'
      rw [List.getElem?_eq_getElem hm, List.getElem?_eq_getElem hn'] at z
      exact nodup_at hn (i := m) (j := n) (x := kvs[m].1) (by rw [List.getElem?_map, List.getElem?_eq_getElem hm]; rfl) (by rw [List.getElem?_map, List.getElem?_eq_getElem hn']; exact congrArg some z.symm)
    · obtain ⟨rfl, k, v, hk, rfl⟩ := y
      obtain ⟨t, ht, pv0⟩ := ((hi.lock (od := od) hd).up e1).from hk
      obtain ⟨d, ed, okd, sd⟩ := pl _ (List.mem_of_getElem? ht)
      have ed' : t = .d d := ed
      subst ed'
      refine ⟨Ex.refl _, _, fun k hk => hk, hw _, fun H5 _ Q5 q5 => q5 H5 (Ex.refl _), fun _ => ?_⟩
      rw [ht]
      refine ⟨ev_var (hv _), ?_⟩
      exact p_trues (p_dget (k := k) ((h2 od _).mono e1) (ev_var (hv _)) (.inr ⟨od, e1 _ _ upd_same⟩) (valV_at (by rw [hi.keys]; exact hn) hk) mo_qe pv0) okd sd (hw2 _) (hv2 _)
theorem ItemsV.stay {K : PySem.W.Frag} {C CE a dx : Addr} {kvs : Its'} {vs : List (Key × V)} {H H' : Hp} (ha : H a = some (.ins CE dx [])) (st : ∀ b o, b ≠ a → H b = some o → H' b = some o) (h : ItemsV K C kvs vs H) : ItemsV K C kvs vs H' := ⟨h.len, fun i k t hi => let ⟨v, h1, h2⟩ := h.at_ i k t hi; ⟨v, h1, itm_stay ha st h2⟩⟩
section
variable {P : Program} {w : World} {K : PySem.W.Frag} {mg : Str → Option Value} {base : Heap} {C CE CB fB f : Addr} {fd : FuncData}
end
end Chk
set_option maxHeartbeats 4000000
/-! What is so of every end. -/
namespace Chk
open PySem PySem.Spec PyProof.Rows L2 Evl Pd Gd Us Wlk
def ksOf : Itm → List (List Key)
  | .dt ks => ks
  | _ => []
def OkPair (k : List Key) : Prop := ∃ i j : Int, k = [.inl i, .inl j] ∧ 0 ≤ i ∧ i ≤ 3 ∧ 0 ≤ j ∧ j ≤ 3
/-- a rule: a deed, and pairs, each once -/
structure OkRul (p : Key × Itm) : Prop where
  deed : ∃ s : Str, p.1 = .inr s ∧ s ∈ deedsT
  pairs : ∃ ks, p.2 = .dt ks ∧ ks.length ≤ 30000 ∧ (∀ k ∈ ks, OkPair k) ∧ ks.Nodup
structure Neat (e : Eg) : Prop where
  own : okSets (.dct e.own) = true
  uses : okUses (e.own.map (·.1)) (.dct e.uses) = true
  rules : ∀ p ∈ e.rules, OkRul p
  most : 1 ≤ e.most ∧ e.most ≤ 3
  so : Small e.own
  su : Small e.uses
  pu : PlainA (.dct e.uses)
  nr : (e.rules.map (·.1)).Nodup
  lr : e.rules.length ≤ 1000
/-! ### ordI is a permutation -/
theorem ord_perm {kvs : Its'} (hn : (kvs.map (·.1)).Nodup) (hr : AllR kvs) : (ordI kvs).Perm kvs := by
  have e : (kvs.map fun p => keyS p.1).map (fun w => ((Sum.inr w : Key), itemAt kvs (.inr w))) = kvs := by
    rw [List.map_map]
    refine List.ext_getElem? fun i => ?_
    rw [List.getElem?_map]
    cases h : kvs[i]? with
    | none => rfl
    | some p =>
      obtain ⟨s, es⟩ := hr p (List.mem_of_getElem? h)
      have h' : kvs[i]? = some (.inr s, p.2) := by rw [h, ← es]
      show some ((Sum.inr (keyS p.1) : Key), itemAt kvs (.inr (keyS p.1))) = some p
      rw [es]
      show some ((Sum.inr s : Key), itemAt kvs (.inr s)) = some p
      rw [item_at hn h', ← es]
  have := (sortS_perm (kvs.map fun p => keyS p.1)).map (fun w => ((Sum.inr w : Key), itemAt kvs (.inr w)))
  rw [e] at this
  exact this
theorem rooms_filter (kvs : Its') : roomsOf kvs = (kvs.filter fun p => roomI p.2).length := by
  have : ∀ l : Its', ((List.range l.length).filter fun i => (l[i]?).elim false fun p => roomI p.2).length = (l.filter fun p => roomI p.2).length := by
    intro l
    induction l with
    | nil => rfl
    | cons p r ih =>
      rw [List.length_cons, List.range_succ_eq_map, List.filter_cons, List.filter_map, List.filter_cons]
      have e : ((fun i => ((p :: r)[i]?).elim false fun p => roomI p.2) ∘ Nat.succ) = fun i => (r[i]?).elim false fun p => roomI p.2 := rfl
      rw [e]
      show (if roomI p.2 = true then _ else _ : List Nat).length = _
      by_cases h : roomI p.2 = true
      · rw [if_pos h, if_pos h, List.length_cons, List.length_cons, List.length_map, ih]
      · rw [if_neg h, if_neg h, List.length_map, ih]
  exact this kvs
theorem all_perm {α : Type} {f : α → Bool} {l m : List α} (h : l.Perm m) : l.all f = m.all f := by
  rw [Bool.eq_iff_iff, List.all_eq_true, List.all_eq_true]
  exact ⟨fun z x hx => z x (h.mem_iff.mpr hx), fun z x hx => z x (h.mem_iff.mp hx)⟩
theorem sets_perm {l m : Its'} (h : l.Perm m) : okSets (.dct l) = okSets (.dct m) := by
  rw [okSets_dct, okSets_dct, all_perm h, rooms_filter, rooms_filter, h.length_eq, (h.filter _).length_eq]
theorem use_perm {own own' : List Key} (h : own.Perm own') (p : Key × Itm) : okUse own p = okUse own' p := by
  have : (own.any fun k => decide (k = p.1)) = own'.any fun k => decide (k = p.1) := by
    rw [Bool.eq_iff_iff, List.any_eq_true, List.any_eq_true]
    exact ⟨fun ⟨x, hx, e⟩ => ⟨x, h.mem_iff.mp hx, e⟩, fun ⟨x, hx, e⟩ => ⟨x, h.mem_iff.mpr hx, e⟩⟩
  unfold okUse
  rw [this]
theorem uses_perm {own own' : List Key} {l m : Its'} (h0 : own.Perm own') (h : l.Perm m) : okUses own (.dct l) = okUses own' (.dct m) := by
  rw [okUses_dct, okUses_dct, h.length_eq, all_perm h, show okUse own = okUse own' from funext (use_perm h0)]
theorem small_perm {l m : Its'} (h : l.Perm m) (s : Small m) : Small l := ⟨by rw [h.length_eq]; exact s.1, fun p hp => s.2.1 p (h.mem_iff.mp hp), ((h.map (·.1)).nodup_iff).mpr s.2.2⟩
theorem once_nodup (l : List (List Key)) : (onceK l).Nodup := by
  have : ∀ (l acc : List (List Key)), acc.Nodup → (l.foldl addK acc).Nodup := by
    intro l
    induction l with
    | nil => exact fun _ h => h
    | cons k l ih =>
      intro acc h
      refine ih _ ?_
      unfold addK
      split
      · exact h
      · rename_i no
        refine List.nodup_append.mpr ⟨h, by simp, fun a ha b hb => ?_⟩
        rw [List.mem_singleton.mp hb]
        rintro rfl
        exact no (List.any_eq_true.mpr ⟨a, ha, by simp⟩)
  exact this l [] List.nodup_nil
theorem once_mem {l : List (List Key)} {k : List Key} : k ∈ onceK l ↔ k ∈ l := by
  have : ∀ (l acc : List (List Key)), k ∈ l.foldl addK acc ↔ k ∈ acc ∨ k ∈ l := by
    intro l
    induction l with
    | nil => intro acc; simp
    | cons j l ih =>
      intro acc
      rw [List.foldl_cons, ih, List.mem_cons]
      have : k ∈ addK acc j ↔ k ∈ acc ∨ k = j := by
        unfold addK
        split
        · rename_i yes
          obtain ⟨x, hx, e⟩ := List.any_eq_true.mp yes
          have : x = j := of_decide_eq_true e
          exact ⟨.inl, fun h => h.elim id fun z => by rw [z, ← this]; exact hx⟩
        · rw [List.mem_append, List.mem_singleton]
      rw [this]
      exact or_assoc
  simpa [onceK] using this l []
theorem once_of_nodup {l : List (List Key)} (h : l.Nodup) : onceK l = l := by
  have : ∀ (l acc : List (List Key)), (acc ++ l).Nodup → l.foldl addK acc = acc ++ l := by
    intro l
    induction l with
    | nil => intro acc _; simp
    | cons k l ih =>
      intro acc h
      have no : ¬ (acc.any fun x => decide (x = k)) = true := fun z => by
        obtain ⟨x, hx, e⟩ := List.any_eq_true.mp z
        have e' : x = k := of_decide_eq_true e
        exact (List.nodup_append.mp h).2.2 x hx k (by simp) e'
      rw [List.foldl_cons]
      have : addK acc k = acc ++ [k] := by
        unfold addK
        rw [if_neg no]
      rw [this, ih _ (by simpa using h)]
      simp
  have := this l [] (by simpa using h)
  simpa [onceK] using this
theorem pair_key {d : PyData} (h : isPair 0 3 d = true) : OkPair (keyOf d) := by
  obtain ⟨i, j, rfl⟩ := isPair_ints h
  simp [isPair, betw] at h
  exact ⟨i, j, rfl, h.1.1, h.1.2, h.2.1, h.2.2⟩
theorem keys_ok {d : PyData} (h : okPairs d = true) (hs : Short d) : (∀ k ∈ onceK (keysOf d), OkPair k) ∧ (onceK (keysOf d)).length ≤ 30000 := by
  cases d with
  | list ds =>
    refine ⟨fun k hk => ?_, Nat.le_trans (once_len _) ?_⟩
    · obtain ⟨e, he, rfl⟩ := List.mem_map.mp (once_mem.mp hk)
      exact pair_key ((List.all_eq_true.mp h) e he)
    · show (ds.map keyOf).length ≤ 30000
      rw [List.length_map]
      exact hs ds rfl
  | _ => cases h
theorem inT_mem {xs : List Str} {s : Str} (h : inT xs (.str s) = true) : s ∈ xs := by
  unfold inT at h
  obtain ⟨y, hy, e⟩ := List.any_eq_true.mp h
  have : y = s := by simpa using e
  rw [← this]
  exact hy
/-- what was let through makes such an end -/
theorem neat_of {p : PtsE} (h : wrongE p = none) (pu : PlainA p.uses) (pr : PlainA p.rules) (s1 : Small (itemsA p.settings)) (s2 : Small (itemsA p.uses)) (s3 : Small (itemsA p.rules)) : Neat (endOf p) := by
  obtain ⟨r1, r2, r3, r4⟩ := rightE h
  obtain ⟨ks, es, lks, rks, sks⟩ := sets_dct r1
  obtain ⟨us, eu, lus, rus, sus⟩ := uses_dct r2
  obtain ⟨rs, er, srs⟩ := rules_dct r3
  unfold endOf
  rw [es] at r1 s1 r2
  rw [eu] at r2 s2 pu
  rw [er] at s3 pr
  rw [es, eu, er]
  have p1 : (ordI ks).Perm ks := ord_perm s1.2.2 rks
  have p2 : (ordI us).Perm us := ord_perm s2.2.2 rus
  refine ⟨by rw [← r1]; exact sets_perm p1, ?_, fun q hq => ?_, ?_, small_perm p1 s1, small_perm p2 s2, fun q hq => pu q (p2.mem_iff.mp hq), ?_, ?_⟩
  · rw [← r2]
    exact uses_perm (p1.map _) p2
  · obtain ⟨q0, h0, rfl⟩ := List.mem_map.mp hq
    obtain ⟨a1, a2⟩ := srs q0 h0
    obtain ⟨d, ed⟩ := pr q0 h0
    have sd := (s3.2.1 q0 h0).2
    rw [ed] at sd a2
    refine ⟨?_, _, rfl, ?_⟩
    · cases e : q0.1 with
      | inl i => rw [e] at a1; cases a1
      | inr s => rw [e] at a1; exact ⟨s, rfl, inT_mem a1⟩
    · show (onceK (keysOf (dataI q0.2))).length ≤ 30000 ∧ _ ∧ (onceK (keysOf (dataI q0.2))).Nodup
      rw [ed]
      have := keys_ok a2 sd.2
      exact ⟨this.2, this.1, once_nodup _⟩
  · have := r4
    unfold betw at this
    cases e : p.most with
    | int i => rw [e] at this; simp at this; exact this
    | _ => rw [e] at this; cases this
  · show ((rulesI rs).map (·.1)).Nodup
    unfold rulesI
    rw [List.map_map]
    exact s3.2.2
  · show (rulesI rs).length ≤ 1000
    unfold rulesI
    rw [List.length_map]
    exact s3.1
end Chk
set_option maxHeartbeats 4000000
/-! An end's methods: most, words, pairs. -/
namespace L2
open PySem PySem.Spec PyProof.Rows
theorem swD_true {kx vx : Expr} {gs : List Comprehension} {scope : Scope} {pos py : Pos} {y : Str} {l : Nat} {env : Env} (hk : env.scope.kind = .function) (hy : env.scope.names.lookup y = some .local) (hl : (py.line == pos.line) = true)
    (ha : (scope.names.any fun (n, k) => n == y && (k == .local || k == .cell)) = false) : swapsWith (.DictComp kx vx gs scope pos) (some (.Name y py)) l env = pure true := by
  have a : env.kindOf y = some .local := hy
  have b : env.blockKind = .function := by unfold Env.blockKind; rw [hk]; rfl
  unfold swapsWith
  simp only [b, a, ha, Expr.pos, hl]
  rfl
section
variable {X : Cx}
/-- name = {k: v for ..} on one line, the name a local -/
theorem ps_setDc {i : Nat} {y : Str} {py : Pos} {kx vx tg iter : Expr} {ifs : List Expr} {scope : Scope} {own : List (Str × Nat)} {pos spos : Pos} {wi : TI} {g : TG} {tt : TT} {tk tv : TE} (hc : X.calm = true) (hN : X.N.Nodup) (hy : X.N[i]? = some y) (hyl : X.env.scope.names.lookup y = some .local)
    (hsw : swapsWith (.DictComp kx vx [⟨tg, iter, ifs, 0⟩] scope pos) (some (.Name y py)) spos.line X.env = pure true) (hi : PI X tg iter wi) (ok : BlkOk X.N X.env.scope scope own)
    (hg : ∀ (s : Shared) (H : Hp) (C : Addr) (cl : List (Str × Addr)) (fp : List Addr), PG (X.blk s H scope (compEnvC scope cl C X.env) fp) tg g) (ht : ∀ (s : Shared) (H : Hp) (C : Addr) (cl : List (Str × Addr)) (fp : List Addr), PTs (X.blk s H scope (compEnvC scope cl C X.env) fp) ifs tt)
    (hk : ∀ (s : Shared) (H : Hp) (C : Addr) (cl : List (Str × Addr)) (fp : List Addr), PE (X.blk s H scope (compEnvC scope cl C X.env) fp) kx tk)
    (he : ∀ (s : Shared) (H : Hp) (C : Addr) (cl : List (Str × Addr)) (fp : List Addr), PE (X.blk s H scope (compEnvC scope cl C X.env) fp) vx tv) (hs : ∀ x, foldedSetIterable iter X.env x = pure x := by intro _; rfl) :
    PS X (.Assign [.Name y py] (.DictComp kx vx [⟨tg, iter, ifs, 0⟩] scope pos) spos) (tAsg (tDc wi g tt tk tv (own.map (·.2))) (gName i)) := by
  refine ⟨fun pins s σ H D I h => ?_⟩
  rw [exec_Assign_Name_used _ _ _ _ hsw]
  refine wpAny_bind (wpAny_standAt (wpAny_bind ?_))
  show wpAny _ X.A (do let _ ← comprehension (.DictComp kx vx [⟨tg, iter, ifs, 0⟩] scope pos) scope X.env (firstIterPos [⟨tg, iter, ifs, 0⟩] pos) newDict false (eval iter X.env) (some (assign (.Name y py) X.env))) _ _ s
  have h : tDc wi g tt tk tv (own.map (·.2)) σ H (fun x H1 => gName i x σ H1 D.nx) := h
  refine wpAny_bind (thn (dc_core (Qf := fun _ s' => SP X pins D .next s') hc hN I hi ok hg ht hk he hs h fun L C s' m H' I' q hn f => ?_) fun _ s' hq => wpAny_pure (wpAny_pure hq))
  show wpAny _ _ (assign (.Name y py) X.env (.ref L)) _ _ _
  refine wpAny_assign_Name (store_ok2 (v := V.ref L) I' hN hy (.inl hyl) rfl (fun s2 I2 ⟨a, sb, ha⟩ => ?_) (.inr hyl))
  obtain ⟨f0, f1, f2, f3, f4, f5⟩ := f
  have haC : C ≠ a := by
    rcases ha with z | z
    · rw [z]; exact f1
    · exact fun e => f4 y a z e.symm
  refine ⟨m, hn.sameBut sb haC, fun h3 sb3 => ?_⟩
  exact ⟨_, H', I2.turned (t' := s2.toks) (fun b o hb e => (sb3.2 b hb).trans e) f0 f1 f3 f4 f5, q⟩
end
end L2
namespace Chk
open PySem PySem.Spec PyProof.Rows L2 Evl Pd Gd Us Wlk
theorem pf_value : Err.Plain "value" := ⟨by decide +kernel, by decide +kernel⟩
/-- the rules alone, also while they are walked -/
structure RulAt (K : PySem.W.Frag) (C CE : Addr) (rs : Its') (a : Addr) (H : Hp) : Prop where
  ex : ∃ (dx : Addr) (fs : List (Str × V)) (d3 : Addr) (v3 : List (Key × V)), H a = some (.ins CE dx fs) ∧ Rd H d3 (.dK v3) ∧ ItemsV K C rs v3 H ∧ fs.lookup ("_rules" : Str) = some (.ref d3) ∧ fs.lookup ("pairs" : Str) = none ∧ fs.lookup ("lets" : Str) = none
def RulV (K : PySem.W.Frag) (C CE : Addr) (rs : Its') : PV := fun x H => ∃ a, x = .ref a ∧ RulAt K C CE rs a H
theorem RulAt.up {K : PySem.W.Frag} {C CE : Addr} {rs : Its'} {a : Addr} {H H' : Hp} (h : RulAt K C CE rs a H) (x : Ex H H') : RulAt K C CE rs a H' := by
  obtain ⟨dx, fs, d3, v3, h0, h3, i3, r⟩ := h.ex
  exact ⟨dx, fs, d3, v3, x _ _ h0, ex_rd x h3, i3.up x, r⟩
theorem mo_rul {K : PySem.W.Frag} {C CE : Addr} {rs : Its'} : Mo (RulV K C CE rs) := fun _ _ _ x ⟨a, h1, h2⟩ => ⟨a, h1, h2.up x⟩
theorem EndAt.rul {K : PySem.W.Frag} {C CE : Addr} {e : Eg} {a : Addr} {H : Hp} (h : EndAt K C CE e a H) : RulAt K C CE e.rules a H := by
  obtain ⟨dx, fs, d1, d2, d3, v1, v2, v3, h0, h1, h2, h3, i1, i2, i3, f1, f2, f3, f4, fm⟩ := h.ex
  exact ⟨dx, fs, d3, v3, h0, .inl h3, i3, f3, fm _ (by decide), fm _ (by decide)⟩
theorem lk_rul {K : PySem.W.Frag} {C CE : Addr} {rs : Its'} : Lk (RulV K C CE rs) := fun x H d kvs od hd ⟨a, ex, h⟩ => by
  obtain ⟨dx, fs, d3, v3, h0, h3, i3, r⟩ := h.ex
  exact ⟨a, ex, dx, fs, d3, v3, at_lock hd h0 (fun _ z => nomatch z), rd_lock hd h3 (fun _ _ z => nomatch z), i3.lock hd, r⟩
/-- the pairs of a deed -/
def pairsOf (rs : Its') (s : Str) : Option (List (List Key)) := (rs.find? fun p => decide (p.1 = .inr s)).map fun p => ksOf p.2
def PairsV (H0 : Hp) : Option (List (List Key)) → PV
  | none => Is .non
  | some ks => fun y H => (∃ r, y = .ref r ∧ H0 r = none) ∧ Qe (.list (sortD (ks.map pairD))) y H
def spCheck (CD : Addr) : Sp := fun vs H Q E => vs.length = 1 ∧ ∃ x d, vs = [x] ∧ Dq H x d ∧ (inT deedsT d = true → ∀ H', Ex H H' → Q .non H') ∧ (inT deedsT d = false → ∀ e H', Ex H H' → H' e = none → E (.ref CD) (some e) (upd H' e (.xd [("value", x)])))
def spPairs (K : PySem.W.Frag) (C CE CD : Addr) : Sp := fun vs H Q E => vs.length = 2 ∧ ∃ x y d rs, vs = [x, y] ∧ RulV K C CE rs x H ∧ (rs.map (·.1)).Nodup ∧ (∀ p ∈ rs, OkRul p) ∧ Dq H y d ∧
  (∀ s, d = .str s → inT deedsT d = true → ∀ z H', Ex H H' → PairsV H (pairsOf rs s) z H' → Q z H') ∧ (inT deedsT d = false → ∀ e H', Ex H H' → H' e = none → E (.ref CD) (some e) (upd H' e (.xd [("value", y)])))
def spWords (K : PySem.W.Frag) (C CE : Addr) : Sp := fun vs H Q _ => vs.length = 1 ∧ ∃ a e, vs = [.ref a] ∧ EndAt K C CE e a H ∧ Small e.own ∧ ∀ y H', Ex H H' → (∃ r, y = .ref r ∧ H r = none) → Qe (.list (e.own.map fun p => keyD p.1)) y H' → Q y H'
theorem showy_pair {k : List Key} (h : OkPair k) : Showy (pairD k) := by
  obtain ⟨i, j, rfl, h1, h2, h3, h4⟩ := h
  have hi : i = 0 ∨ i = 1 ∨ i = 2 ∨ i = 3 := by omega
  have hj : j = 0 ∨ j = 1 ∨ j = 2 ∨ j = 3 := by omega
  rcases hi with rfl | rfl | rfl | rfl <;> rcases hj with rfl | rfl | rfl | rfl <;> exact .inr ⟨⟨_, rfl⟩, by decide +kernel, by decide +kernel, by decide +kernel, by decide +kernel⟩
theorem find_keys {kvs : Its'} {k : Key} {t : Itm} {i : Nat} (hn : (kvs.map (·.1)).Nodup) (h : kvs[i]? = some (k, t)) : kvs.find? (fun p => decide (p.1 = k)) = some (k, t) := by
  rw [List.find?_eq_some_iff_getElem]
  obtain ⟨l1, e1⟩ := List.getElem?_eq_some_iff.mp h
  refine ⟨by simp, i, l1, e1, fun j hj => ?_⟩
  have lj : j < kvs.length := by omega
  have : kvs[j].1 ≠ k := fun z => by
    have := nodup_at hn (i := j) (j := i) (x := k) (by rw [List.getElem?_map, List.getElem?_eq_getElem lj, Option.map_some, z]) (by rw [List.getElem?_map, h]; rfl)
    omega
  simpa using this
section
variable {K : PySem.W.Frag} {C : Addr} {kvs : Its'} {vs : List (Key × V)} {H : Hp}
/-- what stands at a key, both ways -/
theorem ItemsV.get (h : ItemsV K C kvs vs H) (hn : (kvs.map (·.1)).Nodup) (k : Key) : (valV vs k = none ∧ kvs.find? (fun p => decide (p.1 = k)) = none) ∨ ∃ v t, valV vs k = some v ∧ kvs.find? (fun p => decide (p.1 = k)) = some (k, t) ∧ ItmV K C t v H := by
  cases e : kvs.find? (fun p => decide (p.1 = k)) with
  | none =>
    refine .inl ⟨?_, rfl⟩
    cases ev : valV vs k with
    | none => rfl
    | some v =>
      exfalso
      have a : (vs.any fun kv => decide (kv.1 = k)) = true := by rw [valV_any, ev]; rfl
      obtain ⟨p, hp, ek⟩ := List.any_eq_true.mp a
      obtain ⟨i, hi, rfl⟩ := List.getElem_of_mem hp
      have e2 : vs[i]? = some (vs[i].1, vs[i].2) := List.getElem?_eq_getElem hi
      obtain ⟨t, ht, _⟩ := h.from e2
      have := (List.find?_eq_none.mp e) _ (List.mem_of_getElem? ht)
      exact this ek
  | some p =>
    have hm := List.mem_of_find?_eq_some e
    have ek : p.1 = k := by simpa using List.find?_some e
    obtain ⟨i, hi, rfl⟩ := List.getElem_of_mem hm
    have e2 : kvs[i]? = some (k, kvs[i].2) := by rw [List.getElem?_eq_getElem hi, ← ek]
    obtain ⟨v, h1, h2⟩ := h.at_ i k _ e2
    exact .inr ⟨v, kvs[i].2, valV_at (by rw [h.keys]; exact hn) h1, by rw [← ek], h2⟩
end
section
variable {P : Program} {w : World} {K : PySem.W.Frag} {mg : Str → Option Value} {base : Heap} {C CE CD fD f : Addr} {fd : FuncData}
end
end Chk
set_option maxHeartbeats 4000000
/-! End(..) as a value; with_pairs; ==. -/
namespace Chk
open PySem PySem.Spec PyProof.Rows L2 Evl Pd Gd Us Wlk
abbrev psInitE : List Str := ["self", "settings", "uses", "rules", "most"]
def argsV (K : PySem.W.Frag) (C : Addr) (p : PtsE) : List PV := [ArgV K C p.settings, ArgV K C p.uses, ArgV K C p.rules, De K p.most]
section
variable {K : PySem.W.Frag} {C CE CB : Addr} {p : PtsE} {σ : L2.St} {H : Hp} {ta : TA} {E : XK}
theorem argsE_of {xs : List V} (h : AllP (argsV K C p) xs H) (pu : PlainA p.uses) (pr : PlainA p.rules) : ∃ a b c d, xs = [a, b, c, d] ∧ ArgsE K C H a b c d p := by
  match xs, h with
  | [a, b, c, d], ⟨h1, h2, h3, h4, _⟩ => exact ⟨a, b, c, d, rfl, h1, h2, h3, h4, pu, pr⟩
/-- End(..) of right parts -/
theorem p_makeE (h : EvPs ta σ H (argsV K C p)) (pu : PlainA p.uses) (pr : PlainA p.rules) (ok : wrongE p = none) : EvP (tMake CE (spInitE K C CE CB) [] E ta) σ H (fun x H' => EndV K C CE (endOf p) x H') := fun H1 e Q q => h H1 e _ fun xs H2 e2 ps x dx n1 n2 _ => by
  obtain ⟨a, b, c, d, rfl, hp⟩ := argsE_of ps pu pr
  have up := ex_laid (C := CE) n1 n2
  refine ⟨rfl, x, dx, a, b, c, d, p, rfl, upd_same, hp.up up, fun t ht => (by rw [ok] at ht; cases ht), fun _ H3 kp at_ _ => ⟨rfl, q _ H3 ?_ ⟨x, rfl, at_⟩⟩⟩
  exact e2.trans fun b o eb => kp b o (ne_of_none eb n1) (up b o eb)
/-- .., its dicts new -/
def EndVN (K : PySem.W.Frag) (C CE : Addr) (H0 : Hp) (e : Eg) : PV := fun x H => ∃ a, x = .ref a ∧ EndAt K C CE e a H ∧ EndNew H0 a H
theorem p_makeN (h : EvPs ta σ H (argsV K C p)) (pu : PlainA p.uses) (pr : PlainA p.rules) (ok : wrongE p = none) : EvP (tMake CE (spInitE K C CE CB) [] E ta) σ H (fun x H' => EndVN K C CE H (endOf p) x H') := fun H1 e Q q => h H1 e _ fun xs H2 e2 ps x dx n1 n2 _ => by
  obtain ⟨a, b, c, d, rfl, hp⟩ := argsE_of ps pu pr
  have up := ex_laid (C := CE) n1 n2
  refine ⟨rfl, x, dx, a, b, c, d, p, rfl, upd_same, hp.up up, fun t ht => (by rw [ok] at ht; cases ht), fun _ H3 kp at_ nw => ⟨rfl, q _ H3 ?_ ⟨x, rfl, at_, ?_⟩⟩⟩
  · exact e2.trans fun b o eb => kp b o (ne_of_none eb n1) (up b o eb)
  · obtain ⟨CE', dx', fs, d1, d2, d3, g0, g1, g2, g3, m1, m2, m3⟩ := nw
    have bk : ∀ {b : Addr}, upd (upd H2 dx (.own x)) x (.ins CE dx []) b = none → H b = none := fun {b} hb => by
      cases hh : H b with
      | none => rfl
      | some o =>
        have := up b o (e2 b o (e b o hh))
        rw [this] at hb
        cases hb
    exact ⟨CE', dx', fs, d1, d2, d3, g0, g1, g2, g3, bk m1, bk m2, bk m3⟩
theorem make_badE {Q : VK} {t : Str} (h : EvPs ta σ H (argsV K C p)) (pu : PlainA p.uses) (pr : PlainA p.rules) (bad : wrongE p = some t) (hE : ∀ d H', Ex H H' → H' d = none → E (.ref CB) (some d) (upd H' d (.xd [("part", V.str t)]))) : tMake CE (spInitE K C CE CB) [] E ta σ H Q :=
  h H (Ex.refl H) _ fun xs H2 e2 ps x dx n1 n2 _ => by
    obtain ⟨a, b, c, d, rfl, hp⟩ := argsE_of ps pu pr
    have up := ex_laid (C := CE) n1 n2
    refine ⟨rfl, x, dx, a, b, c, d, p, rfl, upd_same, hp.up up, fun u hu d H3 ex hd => ?_, fun ok => (by rw [bad] at ok; cases ok)⟩
    rw [bad] at hu
    cases hu
    exact hE d H3 (e2.trans (up.trans ex)) hd
end
/-! ### places of a filtered list -/
def idxOf {α : Type} (f : α → Bool) (l : List α) : List Nat := (List.range l.length).filter fun i => (l[i]?).elim false f
theorem idx_at {α : Type} (f : α → Bool) : ∀ (l : List α), (idxOf f l).length = (l.filter f).length ∧ ∀ (j : Nat) (x : α), (l.filter f)[j]? = some x → ∃ i, (idxOf f l)[j]? = some i ∧ l[i]? = some x
  | [] => ⟨rfl, fun j x h => by simp at h⟩
  | y :: r => by
    obtain ⟨ih1, ih2⟩ := idx_at f r
    have e : idxOf f (y :: r) = (if f y = true then [0] else []) ++ (idxOf f r).map Nat.succ := by
      unfold idxOf
      rw [List.length_cons, List.range_succ_eq_map, List.filter_cons, List.filter_map]
      show (if f y = true then _ else _ : List Nat) = _
      by_cases h : f y = true
      · rw [if_pos h, if_pos h]
        rfl
      · rw [if_neg h, if_neg h]
        rfl
    rw [e, List.filter_cons]
    by_cases h : f y = true
    · rw [if_pos h, if_pos h]
      refine ⟨by simp [ih1], fun j x hj => ?_⟩
      cases j with
      | zero => cases hj; exact ⟨0, rfl, rfl⟩
      | succ j =>
        obtain ⟨i, h1, h2⟩ := ih2 j x hj
        exact ⟨i + 1, by show ((idxOf f r).map Nat.succ)[j]? = _; rw [List.getElem?_map, h1]; rfl, h2⟩
    · rw [if_neg h, if_neg h, List.nil_append]
      refine ⟨by simp [ih1], fun j x hj => ?_⟩
      obtain ⟨i, h1, h2⟩ := ih2 j x hj
      exact ⟨i + 1, by rw [List.getElem?_map, h1]; rfl, h2⟩
theorem nodup_len {α : Type} [DecidableEq α] : ∀ {l m : List α}, l.Nodup → (∀ x ∈ l, x ∈ m) → l.length ≤ m.length
  | [], _, _, _ => Nat.zero_le _
  | x :: r, m, h, s => by
    rw [List.nodup_cons] at h
    have hx := s x List.mem_cons_self
    have := nodup_len (l := r) (m := m.erase x) h.2 fun y hy => (List.mem_erase_of_ne (fun z => h.1 (by rw [← z]; exact hy))).mpr (s y (List.mem_cons_of_mem _ hy))
    rw [List.length_erase_of_mem hx] at this
    have : 0 < m.length := List.length_pos_of_mem hx
    rw [List.length_cons]
    omega
theorem rules_len {rs : Its'} (hn : (rs.map (·.1)).Nodup) (h : ∀ p ∈ rs, OkRul p) : rs.length ≤ 5 := by
  have := nodup_len (l := rs.map (·.1)) (m := deedsT.map Sum.inr) hn fun k hk => by
    obtain ⟨p, hp, rfl⟩ := List.mem_map.mp hk
    obtain ⟨s, e, hs⟩ := (h p hp).deed
    rw [e]
    exact List.mem_map.mpr ⟨s, hs, rfl⟩
  rw [List.length_map] at this
  exact this
/-! ### other pairs for a deed -/
def isDeed (s : Str) (p : Key × Itm) : Bool := !decide (p.1 = .inr s)
def listI (t : Itm) : Itm := .d (.list (sortD ((ksOf t).map pairD)))
def argsI (rs : Its') (s : Str) : Its' := (rs.filter (isDeed s)).map fun p => (p.1, listI p.2)
def newI (s : Str) : PyData → Its'
  | .none => []
  | d => [(.inr s, .d d)]
/-- what may be told of a deed: none, or pairs -/
def okD : PyData → Bool
  | .none => true
  | d => okPairs d
def withP (e : Eg) (s : Str) (d : PyData) : PtsE := ⟨.dct e.own, .dct e.uses, .dct (argsI e.rules s ++ newI s d), .int e.most⟩
def withE (e : Eg) (s : Str) (d : PyData) : Eg := endOf (withP e s d)
theorem plain_args (rs : Its') (s : Str) (d : PyData) : PlainA (.dct (argsI rs s ++ newI s d)) := fun p hp => by
  rcases List.mem_append.mp hp with h | h
  · obtain ⟨q, _, rfl⟩ := List.mem_map.mp h
    exact ⟨_, rfl⟩
  · cases d with
    | none => cases h
    | _ => rw [List.mem_singleton.mp h]; exact ⟨_, rfl⟩
theorem deed_few {s : Str} (h : s ∈ deedsT) : s.length ≤ 10000 := by
  unfold deedsT at h
  simp only [List.mem_cons, List.not_mem_nil, or_false] at h
  rcases h with rfl | rfl | rfl | rfl | rfl <;> decide +kernel
theorem deed_in {s : Str} (h : s ∈ deedsT) : inT deedsT (.str s) = true := by
  unfold inT
  exact List.any_eq_true.mpr ⟨s, h, by simp⟩
theorem sortD_mem {ds : List PyData} {d : PyData} : d ∈ sortD ds ↔ d ∈ ds := List.mem_mergeSort
theorem sortD_len (ds : List PyData) : (sortD ds).length = ds.length := List.length_mergeSort ..
theorem pair_isPair {k : List Key} (h : OkPair k) : isPair 0 3 (pairD k) = true := by
  obtain ⟨i, j, rfl, h1, h2, h3, h4⟩ := h
  show (betw 0 3 (.int i) && betw 0 3 (.int j)) = true
  simp [betw, h1, h2, h3, h4]
section
variable {e : Eg} {s : Str} {d : PyData}
theorem small_args (N : Neat e) (hs : s ∈ deedsT) (few : Few d) (sh : Short d) : Small (argsI e.rules s ++ newI s d) := by
  have l5 := rules_len N.nr N.rules
  have la : (argsI e.rules s).length ≤ 5 := by
    unfold argsI
    rw [List.length_map]
    exact Nat.le_trans (List.length_filter_le _ _) l5
  have ln : (newI s d).length ≤ 1 := by cases d <;> simp [newI]
  refine ⟨by rw [List.length_append]; omega, fun p hp => ?_, ?_⟩
  · rcases List.mem_append.mp hp with h | h
    · obtain ⟨q, hq, rfl⟩ := List.mem_map.mp h
      have hr := N.rules q (List.mem_filter.mp hq).1
      obtain ⟨t, et, ht⟩ := hr.deed
      obtain ⟨ks, ek, lk, _⟩ := hr.pairs
      refine ⟨?_, ?_, ?_⟩
      · show FewK q.1
        rw [et]
        exact deed_few ht
      · exact fun s e => by cases e
      · intro ds eds
        injection eds with eds
        rw [← eds, sortD_len, List.length_map, ek]
        exact lk
    · cases d with
      | none => cases h
      | _ => rw [List.mem_singleton.mp h]; exact ⟨deed_few hs, few, sh⟩
  · rw [List.map_append, List.nodup_append]
    have ea : (argsI e.rules s).map (·.1) = (e.rules.filter (isDeed s)).map (·.1) := by
      unfold argsI
      rw [List.map_map]
      rfl
    refine ⟨?_, ?_, fun x hx y hy => ?_⟩
    · rw [ea]
      exact List.Nodup.sublist ((List.filter_sublist (l := e.rules) (p := isDeed s)).map _) N.nr
    · cases d <;> simp [newI]
    · have hy' : y = .inr s := by
        cases d with
        | none => cases hy
        | _ => simpa [newI] using hy
      rw [ea] at hx
      obtain ⟨q, hq, rfl⟩ := List.mem_map.mp hx
      have := (List.mem_filter.mp hq).2
      unfold isDeed at this
      rw [hy']
      simpa using this
theorem okRules_args (N : Neat e) (hs : s ∈ deedsT) : okRules (.dct (argsI e.rules s ++ newI s d)) = okD d := by
  show (argsI e.rules s ++ newI s d).all okRule = _
  have ha : (argsI e.rules s).all okRule = true := List.all_eq_true.mpr fun p hp => by
    obtain ⟨q, hq, rfl⟩ := List.mem_map.mp hp
    have hr := N.rules q (List.mem_filter.mp hq).1
    obtain ⟨t, et, ht⟩ := hr.deed
    obtain ⟨ks, ek, lk, okk, _⟩ := hr.pairs
    show (inT deedsT (keyD q.1) && (sortD ((ksOf q.2).map pairD)).all (isPair 0 3)) = true
    rw [et, show inT deedsT (keyD (.inr t)) = true from deed_in ht, Bool.true_and, ek]
    refine List.all_eq_true.mpr fun x hx => ?_
    obtain ⟨k, hk, rfl⟩ := List.mem_map.mp (sortD_mem.mp hx)
    exact pair_isPair (okk k hk)
  rw [List.all_append, ha, Bool.true_and]
  have hn : ∀ x : PyData, okRule (.inr s, .d x) = okPairs x := fun x => by
    show (inT deedsT (.str s) && okPairs x) = _
    rw [deed_in hs, Bool.true_and]
  cases d with
  | none => rfl
  | _ => exact (by show (okRule _ && true) = _; rw [Bool.and_true, hn]; rfl)
theorem wrong_with (N : Neat e) (hs : s ∈ deedsT) : wrongE (withP e s d) = (if okD d = true then (none : Option Str) else some "rules") := by
  unfold wrongE withP
  have m : betw 1 3 (.int e.most) = true := by simp [betw, N.most.1, N.most.2]
  have u : okUses (keysA (.dct e.own)) (.dct e.uses) = true := N.uses
  simp only [N.own, u, okRules_args (d := d) N hs, m]
  cases okD d <;> rfl
theorem neat_with (N : Neat e) (hs : s ∈ deedsT) (few : Few d) (sh : Short d) (ok : okD d = true) : Neat (withE e s d) :=
  neat_of (p := withP e s d) (by rw [wrong_with N hs, if_pos ok]) N.pu (plain_args _ _ _) N.so N.su (small_args N hs few sh)
end
end Chk
set_option maxHeartbeats 4000000
/-! with_pairs. -/
namespace Chk
open PySem PySem.Spec PyProof.Rows L2 Evl Pd Gd Us Wlk
abbrev nWith : List Str := ["self", "deed", "pairs", "rules", "known"]
def spWith (K : PySem.W.Frag) (C CE CD CB : Addr) : Sp := fun vs H Q E => vs.length = 3 ∧ ∃ x y z d dp e, vs = [x, y, z] ∧ EndV K C CE e x H ∧ Neat e ∧ Dq H y d ∧ Dq H z dp ∧ Few dp ∧ Short dp ∧
  (∀ s, d = .str s → s ∈ deedsT → okD dp = true → ∀ r H', Ex H H' → EndV K C CE (withE e s dp) r H' → Q r H') ∧
  (∀ s, d = .str s → s ∈ deedsT → okD dp = false → ∀ o H', Ex H H' → H' o = none → E (.ref CB) (some o) (upd H' o (.xd [("part", .str "rules")]))) ∧
  (inT deedsT d = false → ∀ o H', Ex H H' → H' o = none → E (.ref CD) (some o) (upd H' o (.xd [("value", y)])))
section
variable {K : PySem.W.Frag} {σ : L2.St} {H : Hp} {te : TE} {tz : TS} {D : Ends} {vs : List (Key × V)}
/-- name = a value, inside a lock -/
theorem q_lockAsg {d : Addr} {P : PV} {i : Nat} (hd : H d = some (.dK vs)) (un : ∀ (x : V) (H2 : Hp) (od : Obj), Ex (lk H d od vs) H2 → P x H2 → P x (upd H2 d (.dK vs))) (h : ∀ od, EvP te σ (lk H d od vs) P) (k : ∀ x H1, Ex H H1 → P x H1 → tz D (σ.set i (some x)) H1) : tSeq (tLock (tAsg te (gName i))) tz D σ H :=
  ⟨d, .dK vs, hd, trivial, fun od => h od _ (Ex.refl _) _ fun x H2 e2 p => ⟨e2 _ _ upd_same, k x _ (EqD.ex_lock hd e2) (un x H2 od e2 p)⟩⟩
theorem ItemsV.put {C : Addr} {kvs : Its'} {ws : List (Key × V)} {D : Addr} {ks ls : List (Key × V)} (h : ItemsV K C kvs ws H) (hd : H D = some (.dK ks)) : ItemsV K C kvs ws (upd H D (.dK ls)) := ⟨h.len, fun i k t hi => let ⟨v, h1, h2⟩ := h.at_ i k t hi; ⟨v, h1, dw_itm (K := K) _ _ _ _ _ hd h2⟩⟩
theorem ItemsV.snoc {C : Addr} {kvs : Its'} {ws : List (Key × V)} {k : Key} {t : Itm} {v : V} (h : ItemsV K C kvs ws H) (hv : ItmV K C t v H) : ItemsV K C (kvs ++ [(k, t)]) (ws ++ [(k, v)]) H := ⟨by simp [h.len], fun i k2 t2 hi => by
  rcases Nat.lt_or_ge i kvs.length with c | c
  · rw [List.getElem?_append_left c] at hi
    obtain ⟨u, h1, h2⟩ := h.at_ i k2 t2 hi
    exact ⟨u, by rw [List.getElem?_append_left (by rw [h.len]; exact c)]; exact h1, h2⟩
  · rw [List.getElem?_append_right c] at hi
    have e : i - kvs.length = 0 := by
      have := (List.getElem?_eq_some_iff.mp hi).1
      simp at this
      omega
    rw [e] at hi
    cases hi
    exact ⟨v, by rw [List.getElem?_append_right (by rw [h.len]; exact c), h.len, e]; rfl, hv⟩⟩
/-- a write to a list's dict that was made on the way leaves an end -/
theorem qe_unlock {d : Addr} {od : Obj} {x : V} {e : PyData} (hd : H d = some (.frz od (.dK vs))) (h : Dq H x e) : Dq (upd H d (.dK vs)) x e :=
  Lw.dq_by (fun b _ h => by rw [upd_ne (fun z => by rw [z, hd] at h; cases h)]; exact h) (fun b _ h => by rw [upd_ne (fun z => by rw [z, hd] at h; cases h)]; exact h) h
end
section
variable {K : PySem.W.Frag} {C CE CD : Addr} {rs : Its'} {σ : L2.St} {H : Hp} {te ty : TE} {E : XK} {s : Str}
theorem p_pairsM (h : EvP te σ H (RulV K C CE rs)) (hd : Ev ty σ H (.str s)) (hs : s ∈ deedsT) (nr : (rs.map (·.1)).Nodup) (okr : ∀ p ∈ rs, OkRul p) : EvP (tMeth CE "pairs" (spPairs K C CE CD) [] E te (tCons ty tNil)) σ H (fun z H' => PairsV H (pairsOf rs s) z H') := fun H1 e1 Q q =>
  h H1 e1 _ fun x H2 e2 ⟨a, ex, at_⟩ => by
    obtain ⟨dx, fs, d3, v3, h0, _, _, _, n1, _⟩ := at_.ex
    refine ⟨a, dx, fs, ex, h0, n1, hd H2 (e1.trans e2) _ fun H3 e3 => ⟨rfl, x, .str s, .str s, rs, rfl, ⟨a, ex, at_.up e3⟩, nr, okr, .str s, fun t et _ z H4 e4 p => q z H4 (e2.trans (e3.trans e4)) ?_, fun c => by rw [deed_in hs] at c; cases c⟩⟩
    cases et
    cases e : pairsOf rs s with
    | none => rw [e] at p; exact p
    | some ks =>
      rw [e] at p
      obtain ⟨⟨r, er, nr⟩, p2⟩ := p
      exact ⟨⟨r, er, fresh_back (e1.trans (e2.trans e3)) nr⟩, p2⟩
theorem args_no {p : Key × Itm} (h : p ∈ argsI rs s) : p.1 ≠ .inr s := by
  obtain ⟨q, hq, rfl⟩ := List.mem_map.mp h
  have := (List.mem_filter.mp hq).2
  unfold isDeed at this
  simpa using this
theorem keys_none {kvs : Its'} {ws : List (Key × V)} {k : Key} (h : ItemsV K C kvs ws H) (no : ∀ p ∈ kvs, p.1 ≠ k) : valV ws k = none := by
  cases ev : valV ws k with
  | none => rfl
  | some v =>
    exfalso
    have a : (ws.any fun kv => decide (kv.1 = k)) = true := by rw [valV_any, ev]; rfl
    obtain ⟨p, hp, ek⟩ := List.any_eq_true.mp a
    obtain ⟨i, hi, rfl⟩ := List.getElem_of_mem hp
    obtain ⟨t, ht, _⟩ := h.from (show ws[i]? = some (ws[i].1, ws[i].2) from List.getElem?_eq_getElem hi)
    exact no _ (List.mem_of_getElem? ht) (of_decide_eq_true ek)
theorem newI_some {d : PyData} (h : d ≠ .none) : newI s d = [(.inr s, .d d)] := by
  cases d with
  | none => exact absurd rfl h
  | _ => rfl
end
section
variable {P : Program} {w : World} {K : PySem.W.Frag} {mg : Str → Option Value} {base : Heap} {C CE CD CB fD f : Addr} {fd : FuncData}
end
end Chk
set_option maxHeartbeats 4000000
/-! == of ends. -/
namespace Chk
open PySem PySem.Spec PyProof.Rows L2 Evl Pd Gd Us Wlk EqE
def eqItm : Itm → Itm → Bool
  | .set g, .set h => eqS g h
  | .dt ks, .dt ls => eqK ks ls
  | .d (.str a), .d (.str b) => a == b
  | _, _ => false
/-- may stand beside each other -/
inductive Alike : Itm → Itm → Prop
  | set (g h : Stg) : Alike (.set g) (.set h)
  | dt (ks ls : List (List Key)) : Alike (.dt ks) (.dt ls)
  | str (a b : Str) : Alike (.d (.str a)) (.d (.str b))
def eqI (ks ls : Its') : Bool := ks.length == ls.length && ks.all fun p => (ls.any fun q => decide (q.1 = p.1)) && eqItm p.2 (itemAt ls p.1)
def eqE (e e' : Eg) : Bool := eqI e.own e'.own && (eqI e.uses e'.uses && (eqI e.rules e'.rules && decide (e.most = e'.most)))
section
variable {K : PySem.W.Frag} {C : Addr} {σ : L2.St} {H : Hp} {ta tb : TE} {k1 k2 : Its'} {v1 v2 : List (Key × V)} {d1 d2 : Addr}
theorem same_items (i1 : ItemsV K C k1 v1 H) (i2 : ItemsV K C k2 v2 H) (n1 : (k1.map (·.1)).Nodup) : EqD.sameV (fun k => eqItm (itemAt k1 k) (itemAt k2 k)) v1 v2 = eqI k1 k2 := by
  unfold EqD.sameV eqI EqD.allV
  rw [i1.len, i2.len]
  congr 1
  have e1 : (v1.all fun p => (valV v2 p.1).elim false fun _ => eqItm (itemAt k1 p.1) (itemAt k2 p.1)) = (v1.map (·.1)).all fun k => (valV v2 k).elim false fun _ => eqItm (itemAt k1 k) (itemAt k2 k) := by rw [List.all_map]; rfl
  rw [e1, i1.keys, List.all_map]
  rw [Bool.eq_iff_iff, List.all_eq_true, List.all_eq_true]
  have step : ∀ p ∈ k1, ((valV v2 p.1).elim false fun _ => eqItm (itemAt k1 p.1) (itemAt k2 p.1)) = ((k2.any fun q => decide (q.1 = p.1)) && eqItm p.2 (itemAt k2 p.1)) := fun p hp => by
    obtain ⟨i, hi, rfl⟩ := List.getElem_of_mem hp
    have e2 : itemAt k1 k1[i].1 = k1[i].2 := item_at n1 (show k1[i]? = some (k1[i].1, k1[i].2) from List.getElem?_eq_getElem hi)
    have e3 : (k2.any fun q => decide (q.1 = k1[i].1)) = (valV v2 k1[i].1).isSome := by
      rw [← valV_any]
      have a : (v2.any fun kv => decide (kv.1 = k1[i].1)) = (v2.map (·.1)).any fun k => decide (k = k1[i].1) := by rw [List.any_map]; rfl
      have b : (k2.any fun kv => decide (kv.1 = k1[i].1)) = (k2.map (·.1)).any fun k => decide (k = k1[i].1) := by rw [List.any_map]; rfl
      rw [a, b, i2.keys]
    rw [e2, e3]
    cases valV v2 k1[i].1 <;> rfl
  exact ⟨fun h p hp => by rw [← step p hp]; exact h p hp, fun h p hp => by show (((valV v2 p.1).elim false fun _ => eqItm (itemAt k1 p.1) (itemAt k2 p.1)) : Bool) = true; rw [step p hp]; exact h p hp⟩
theorem ok_val {t u : Itm} {x y : V} {H1 : Hp} (al : Alike t u) (h1 : ItmV K C t x H) (h2 : ItmV K C u y H) (hd : H d1 = some (.dK v1)) (st : ∀ c o, c ≠ d1 → H c = some o → H1 c = some o) : OkVal C x y (eqItm t u) H1 := by
  have at_ : ∀ {b : Addr} {o : HO}, H b = some o → (∀ l, o ≠ .dK l) → H1 b = some o := fun {b o} hb ne => st b o (ne_other hd hb (ne _)) hb
  have sv : ∀ {g : Stg} {x : V}, SetV C g x H → SetV C g x H1 := fun {g x} ⟨a, ex, dx, e, fs, p1, p2, p3⟩ => ⟨a, ex, dx, e, fs, at_ p1 (fun _ z => nomatch z), at_ p2 (fun _ z => nomatch z), p3⟩
  cases al with
  | set g h => exact .inr (.inl ⟨g, h, sv h1, sv h2, rfl⟩)
  | dt ks ls =>
    obtain ⟨p, rfl, hp⟩ := h1
    obtain ⟨q, rfl, hq⟩ := h2
    exact .inr (.inr ⟨p, q, ks, ls, rfl, rfl, at_ hp (fun _ z => nomatch z), at_ hq (fun _ z => nomatch z), rfl⟩)
  | str a b =>
    cases h1
    cases h2
    exact .inl ⟨a, b, rfl, rfl, rfl⟩
theorem ev_eqI (h1 : Ev ta σ H (.ref d1)) (h2 : Ev tb σ H (.ref d2)) (hd1 : H d1 = some (.dK v1)) (hd2 : H d2 = some (.dK v2)) (i1 : ItemsV K C k1 v1 H) (i2 : ItemsV K C k2 v2 H) (n1 : (k1.map (·.1)).Nodup) (n2 : (k2.map (·.1)).Nodup)
    (al : ∀ p ∈ k1, ∀ q ∈ k2, Alike p.2 q.2) : Ev (tOp (EqD.rEqD (OkVal C)) ta tb) σ H (.bl (eqI k1 k2)) :=
  ev_op h1 h2 fun H1 e1 Q q => ⟨d1, d2, v1, v2, fun k => eqItm (itemAt k1 k) (itemAt k2 k), rfl, rfl, e1 _ _ hd1, e1 _ _ hd2, fun p hp z hz H2 st => by
    obtain ⟨i, hi, rfl⟩ := List.getElem_of_mem hp
    have j1 := i1.up e1
    obtain ⟨t, ht, pt⟩ := j1.from (show v1[i]? = some (v1[i].1, v1[i].2) from List.getElem?_eq_getElem hi)
    rcases (i2.up e1).get n2 v1[i].1 with ⟨no, _⟩ | ⟨v, u, ev, fu, pu⟩
    · rw [no] at hz
      cases hz
    · rw [ev] at hz
      cases hz
      have eu : itemAt k2 v1[i].1 = u := by unfold itemAt; rw [fu]; rfl
      show OkVal C v1[i].2 _ (eqItm (itemAt k1 v1[i].1) (itemAt k2 v1[i].1)) H2
      rw [item_at n1 ht, eu]
      exact ok_val (K := K) (al _ (List.mem_of_getElem? ht) _ (List.mem_of_find?_eq_some fu)) pt pu (e1 _ _ hd1) st, fun H2 e2 => by
    rw [same_items i1 i2 n1]
    exact q H2 e2⟩
end
theorem Neat.sets {e : Eg} (N : Neat e) : ∀ p ∈ e.own, ∃ g, p.2 = .set g := by
  obtain ⟨ks, ek, _, _, h⟩ := sets_dct N.own
  injection ek with ek
  rw [ek]
  exact h
theorem Neat.strs {e : Eg} (N : Neat e) : ∀ p ∈ e.uses, ∃ s : Str, p.2 = .d (.str s) ∧ s ∈ usesT := fun p hp => by
  obtain ⟨ks, ek, _, _, h⟩ := uses_dct N.uses
  injection ek with ek
  have := h p (by rw [← ek]; exact hp)
  obtain ⟨d, ed⟩ := N.pu p hp
  rw [ed] at this
  cases d with
  | str s => exact ⟨s, ed, inT_mem this⟩
  | _ => cases this
def spEqE (K : PySem.W.Frag) (C CE : Addr) : Sp := fun vs H Q _ => vs.length = 2 ∧ ∃ a e y, vs = [.ref a, y] ∧ EndAt K C CE e a H ∧ Neat e ∧ ((∃ b e', y = .ref b ∧ EndAt K C CE e' b H ∧ Neat e' ∧ ∀ H', Ex H H' → Q (.bl (eqE e e')) H') ∨
  ∃ t, (∀ H1, Ex H H1 → TyX K H1 y t) ∧ PySem.W.kitOne K t (.ref CE) = some false ∧ ∀ H', Ex H H' → Q (.bl false) H')
section
variable {P : Program} {w : World} {K : PySem.W.Frag} {mg : Str → Option Value} {base : Heap} {C CE CS f : Addr} {fd : FuncData}
end
end Chk
set_option maxHeartbeats 4000000
/-! The class End for those that call it. -/
namespace Chk
open PySem PySem.Spec PyProof.Rows L2 Evl Pd Gd Us Wlk
structure EndC (P : Program) (w : World) (K : PySem.W.Frag) (mg : Str → Option Value) (base : Heap) (C CE CD CB : Addr) : Prop where
  mE : mg "End" = some (.ref CE)
  T : ClsE K CE
  make : ∃ fI fd, Mk K CE fI ∧ L2.Binds K fd psInitE [] ∧ FnOk P w K mg base (L2.CX P w) 7 fI fd psInitE (spInitE K C CE CB)
  words : ∃ f fd, Meth K CE "words" f ∧ L2.Binds K fd ["self"] [] ∧ FnOk P w K mg base CX0 1 f fd ["self"] (spWords K C CE)
  pairs : ∃ f fd, Meth K CE "pairs" f ∧ L2.Binds K fd ["self", "deed"] [] ∧ FnG P w K mg base (L2.CX P w) 3 f fd ["self", "deed"] (spPairs K C CE CD)
  eq : ∃ f fd, OwnNe.EqC K CE f ∧ L2.Binds K fd ["self", "other"] [] ∧ FnOk P w K mg base CX0 3 f fd ["self", "other"] (spEqE K C CE)
  nl : PySem.W.notFirst K CE (.type "list") = true
  most : ∃ p g fd, PropOf K CE "most" p g ∧ L2.Binds K fd ["self"] [] ∧ FnOk P w K mg base CX0 1 g fd ["self"] (getSp CE "_most")
section
variable {X : Cx} {C CE CD CB : Addr} {e o : Expr} {es : List Expr} {p pos apos : Pos} {ta tb : TE} {t : TA} {j : Nat} {E : XK}
theorem pe_end (S : EndC X.prog X.w X.K X.mg X.base C CE CD CB) (hr : Room j X.A) (hk : 8 ≤ j) (hg : Gl X "End") (hx : Passes (L2.CX X.prog X.w) X E) (ha : PA X (e :: es) t)
    (he : starEach (e :: es) X.env = (false, eval e X.env) :: starEach es X.env := by rfl) (hpl : (backTo pos (starEach es X.env)).any (·.1) = false := by rfl) :
    PE X (.Call (.Name "End" p) (e :: es) [] pos) (tMake CE (spInitE X.K C CE CB) [] E t) := by
  obtain ⟨fI, fd, M, b, F⟩ := S.make
  exact pe_make M F (hr.mono hk) hg S.mE b .nil hx ha (by decide) he hpl
theorem pe_wordsE {pl : Sem Bool} (S : EndC X.prog X.w X.K X.mg X.base C CE CD CB) (hr : Room j X.A) (hk : 1 ≤ j) (ho : PE X o ta)
    (ht : eval (.Call (.Attribute o "words" apos) [] [] pos) X.env = (do
      let ov ← eval o X.env
      standAt apos.atName
      let (f, first) ← holding [ov] (getMethod ov "words" pl)
      callWith pos f first (backTo pos (starEach [] X.env)) (backToKw pos (keywordEach [] X.env))) := by rfl) :
    PE X (.Call (.Attribute o "words" apos) [] [] pos) (tMeth CE "words" (spWords X.K C CE) [] (fun _ _ _ => False) ta tNil) := by
  obtain ⟨f, fd, M, b, F⟩ := S.words
  exact pe_meth0 ho S.T.cl M F (hr.mono hk) b .nil pass0 ht
theorem pe_mostP (S : EndC X.prog X.w X.K X.mg X.base C CE CD CB) (hr : Room j X.A) (hk : 2 ≤ j) (ho : PE X o ta) (hab : attributeBase o "most" X.env (eval o X.env) = eval o X.env := by rfl) : PE X (.Attribute o "most" pos) (tProp CE (getSp CE "_most") [] (fun _ _ _ => False) ta) := by
  obtain ⟨pp, g, fd, M, b, F⟩ := S.most
  exact pe_prop ho S.T.cl M F (hr.mono hk) b .nil pass0 hab
theorem pe_pairsE {pl : Sem Bool} (S : EndC X.prog X.w X.K X.mg X.base C CE CD CB) (hr : Room j X.A) (hk : 3 ≤ j) (hg : X.A.guards = some []) (hx : Passes (L2.CX X.prog X.w) X E) (ho : PE X o ta) (ha : PA X (e :: es) t)
    (hst : starEach (e :: es) X.env = (false, eval e X.env) :: starEach es X.env := by rfl) (hpl : (backTo pos (starEach es X.env)).any (·.1) = false := by rfl)
    (ht : eval (.Call (.Attribute o "pairs" apos) (e :: es) [] pos) X.env = (do
      let ov ← eval o X.env
      standAt apos.atName
      let (f, first) ← holding [ov] (getMethod ov "pairs" pl)
      callWith pos f first (backTo pos (starEach (e :: es) X.env)) (backToKw pos (keywordEach [] X.env))) := by rfl) :
    PE X (.Call (.Attribute o "pairs" apos) (e :: es) [] pos) (tMeth CE "pairs" (spPairs X.K C CE CD) [] E ta t) := by
  obtain ⟨f, fd, M, b, F⟩ := S.pairs
  exact pe_methG ho S.T.cl M F (hr.mono hk) hg b hx ha hst hpl ht
theorem op_eqEnd (S : EndC X.prog X.w X.K X.mg X.base C CE CD CB) (hr : Room j X.A) (hk : 3 ≤ j) : OpR X (compareOp .Eq) (OwnNe.rOwn CE (spEqE X.K C CE) false) := by
  obtain ⟨f, fd, M, b, F⟩ := S.eq
  exact OwnNe.op_eqOwn F M b (hr.mono hk) S.nl
theorem op_neEnd (S : EndC X.prog X.w X.K X.mg X.base C CE CD CB) (hr : Room j X.A) (hk : 4 ≤ j) : OpR X (compareOp .NotEq) (OwnNe.rOwn CE (spEqE X.K C CE) true) := by
  obtain ⟨f, fd, M, b, F⟩ := S.eq
  exact OwnNe.op_neOwn F M b (hr.mono hk) S.nl
end
section
variable {K : PySem.W.Frag} {C CE CD CB : Addr} {σ : L2.St} {H : Hp} {te ty tz ta tb : TE} {e e' : Eg} {s : Str} {dp : PyData} {E : XK}
theorem end_rul {x : V} (h : EndV K C CE e x H) : RulV K C CE e.rules x H := let ⟨a, h1, h2⟩ := h; ⟨a, h1, h2.rul⟩
theorem p_wordsE (h : EvP te σ H (EndV K C CE e)) (sm : Small e.own) : EvP (tMeth CE "words" (spWords K C CE) [] E te tNil) σ H (Qe (.list (e.own.map fun p => keyD p.1))) := fun H1 e1 Q q =>
  h H1 e1 _ fun x H2 e2 ⟨a, ex, at_⟩ => by
    obtain ⟨dx, fs, d1, d2, d3, v1, v2, v3, h0, _, _, _, _, _, _, _, _, _, _, fm⟩ := at_.ex
    exact ⟨a, dx, fs, ex, h0, fm _ (by decide), rfl, a, e, by rw [ex]; rfl, at_, sm, fun y H3 e3 _ p => q y H3 (e2.trans e3) p⟩
theorem ev_mostE (h : EvP te σ H (EndV K C CE e)) : Ev (tProp CE (getSp CE "_most") [] E te) σ H (.int e.most) := fun H1 e1 Q q =>
  h H1 e1 _ fun x H2 e2 ⟨a, ex, at_⟩ => by
    obtain ⟨dx, fs, d1, d2, d3, v1, v2, v3, h0, _, _, _, _, _, _, _, _, _, f4, fm⟩ := at_.ex
    exact ⟨a, dx, fs, ex, h0, a, dx, fs, _, rfl, h0, f4, q H2 e2⟩
theorem p_pairsE (h : EvP te σ H (EndV K C CE e)) (N : Neat e) (hd : Ev ty σ H (.str s)) (hs : s ∈ deedsT) : EvP (tMeth CE "pairs" (spPairs K C CE CD) [] E te (tCons ty tNil)) σ H (fun z H' => PairsV H (pairsOf e.rules s) z H') :=
  p_pairsM (h.imp fun _ _ _ p => end_rul p) hd hs N.nr N.rules
theorem p_withE (h : EvP te σ H (EndV K C CE e)) (N : Neat e) (hd : Ev ty σ H (.str s)) (hs : s ∈ deedsT) (hp : EvP tz σ H (Qe dp)) (few : Few dp) (sh : Short dp) (ok : okD dp = true) : EvP (tMeth CE "with_pairs" (spWith K C CE CD CB) [] E te (tCons ty (tCons tz tNil))) σ H (EndV K C CE (withE e s dp)) := fun H1 e1 Q q =>
  h H1 e1 _ fun x H2 e2 ⟨a, ex, at_⟩ => by
    obtain ⟨dx, fs, d1, d2, d3, v1, v2, v3, h0, _, _, _, _, _, _, _, _, _, _, fm⟩ := at_.ex
    refine ⟨a, dx, fs, ex, h0, fm _ (by decide), hd H2 (e1.trans e2) _ fun H3 e3 => hp H3 (e1.trans (e2.trans e3)) _ fun z H4 e4 pz => ⟨rfl, x, .str s, z, .str s, dp, e, rfl, ⟨a, ex, at_.up (e3.trans e4)⟩, N, .str s, pz, few, sh, fun t et _ _ r H5 e5 p => ?_, fun t et _ c => (by rw [ok] at c; cases c), fun c => (by rw [deed_in hs] at c; cases c)⟩⟩
    cases et
    exact q r H5 (e2.trans (e3.trans (e4.trans e5))) p
/-- with_pairs of a deed or of pairs that are none -/
theorem with_bad {Q : VK} {d : PyData} (h : EvP te σ H (EndV K C CE e)) (N : Neat e) (hd : EvP ty σ H (Qe d)) (hp : EvP tz σ H (Qe dp)) (few : Few dp) (sh : Short dp) (bad : inT deedsT d = false ∨ okD dp = false)
    (hE1 : inT deedsT d = false → ∀ y o H', Ex H H' → H' o = none → Dq H' y d → E (.ref CD) (some o) (upd H' o (.xd [("value", y)])))
    (hE2 : inT deedsT d = true → ∀ o H', Ex H H' → H' o = none → E (.ref CB) (some o) (upd H' o (.xd [("part", .str "rules")]))) : tMeth CE "with_pairs" (spWith K C CE CD CB) [] E te (tCons ty (tCons tz tNil)) σ H Q :=
  h H (Ex.refl H) _ fun x H2 e2 ⟨a, ex, at_⟩ => by
    obtain ⟨dx, fs, d1, d2, d3, v1, v2, v3, h0, _, _, _, _, _, _, _, _, _, _, fm⟩ := at_.ex
    refine ⟨a, dx, fs, ex, h0, fm _ (by decide), hd H2 e2 _ fun y H3 e3 py => hp H3 (e2.trans e3) _ fun z H4 e4 pz => ⟨rfl, x, y, z, d, dp, e, rfl, ⟨a, ex, at_.up (e3.trans e4)⟩, N, mo_qe _ _ _ e4 py, pz, few, sh, fun t et ht ok => ?_, fun t et ht _ o H5 e5 ho => hE2 (by rw [et]; exact deed_in ht) o H5 (e2.trans (e3.trans (e4.trans e5))) ho, fun c o H5 e5 ho => hE1 c y o H5 (e2.trans (e3.trans (e4.trans e5))) ho (mo_qe _ _ _ (e4.trans e5) py)⟩⟩
    rcases bad with c | c
    · rw [et, deed_in ht] at c
      cases c
    · rw [ok] at c
      cases c
/-- two ends, == and != -/
theorem ev_ownE {neg : Bool} (h1 : EvP ta σ H (EndV K C CE e)) (h2 : EvP tb σ H (EndV K C CE e')) (N : Neat e) (N' : Neat e') : Ev (tOp (OwnNe.rOwn CE (spEqE K C CE) neg) ta tb) σ H (.bl (if neg then !eqE e e' else eqE e e')) := fun H1 x Q q =>
  h1 H1 x _ fun y H2 e2 p1 => h2 H2 (x.trans e2) _ fun z H3 e3 ⟨b, eb, at2⟩ => by
    obtain ⟨a, rfl, at1⟩ := mo_end _ _ _ e3 p1
    subst eb
    obtain ⟨dx, fs, d1, d2, d3, v1, v2, v3, h0, _⟩ := id at1.ex
    obtain ⟨dy, gs, c1, c2, c3, w1, w2, w3, g0, _⟩ := id at2.ex
    exact ⟨a, dx, fs, rfl, h0, .inl ⟨b, dy, gs, rfl, g0⟩, rfl, a, e, .ref b, rfl, at1, N, .inl ⟨b, e', rfl, at2, N', fun H4 e4 => ⟨_, rfl, q H4 (e2.trans (e3.trans e4))⟩⟩⟩
end
end Chk
set_option maxHeartbeats 4000000
/-! A lambda that is handed to a def and called there, where no repr is under way. -/
namespace LamG
open PySem PySem.Spec PyProof.Rows L2 Evl LamX
section
variable {X : Cx} {pins : List (Addr × Obj)} {σ : L2.St} {H : Hp} {s : Shared}
/-- the call of the lambda by the def that got it -/
theorem act {CY : CXT} {EY : XK} {Ny : List Str} {qy : Str} {sy : Scope} {g f lc : Addr} {gv pm ctv : Value} {ps : Arguments} {bd : Expr} {scope : Scope} {k i : Nat} {a : Str} {pn : List (Addr × Obj)} {xe : Value → Shared → Prop} {W : WX} {E : XK} {tb : TE} {p1 p2 : Pos}
    (I : Inv X pins σ H s) (L : LamS X.env.scope scope) (hf : s.heap.get? f = some (PySem.W.kla_obj "<lambda>" (X.env.qual ++ "<lambda>") ps bd scope (cloFrom X.env.cells scope.names []) pm lc ctv)) (nf : H f = none) (ff : f ∉ frs X.stack)
    (bind0 : bindArgs (PySem.W.kla_fn "<lambda>" (X.env.qual ++ "<lambda>") ps bd scope (cloFrom X.env.cells scope.names []) pm (.ref lc) ctv) ⟨[], []⟩ = pure [])
    (tk : Takes ((cxOf CY X.prog X.w X.K X.mg X.base Ny qy sy g gv X.A X.stack s H EY).tr pn xe) W) (hW : ∀ cls d σ' H', E cls d H' → W cls d σ' H') (hr : Room (k + 1) (X.A.deeper (envOfC qy sy s.heap.objs.size g gv))) (hg : X.A.guards = some [])
    (body : ∀ (A : Around) (outer : List Env) (s : Shared) (H : Hp), Room k (A.deeper (lamEnv X scope s.heap.objs.size f lc)) → (A.deeper (lamEnv X scope s.heap.objs.size f lc)).guards = some [] → PE (lamCx X A outer s H E scope f lc) bd tb)
    (at_ : Ny[i]? = some a) (vis : Vis sy a) (d1 : (a == ("__debug__" : Str)) = false := by decide) (d2 : (a == ("__classdict__" : Str)) = false := by decide) :
    PE ((cxOf CY X.prog X.w X.K X.mg X.base Ny qy sy g gv X.A X.stack s H EY).tr pn xe) (.Call (.Name a p1) [] [] p2) (fun τ G Q => τ[i]? = some (some (.ref f)) ∧ G lc = some (CodeO lc (X.env.qual ++ "<lambda>")) ∧ tb σ G Q) := by
  refine ⟨fun pz sz τ G Q J ⟨h1, h2, h3⟩ => ?_⟩
  have look := (pe_var (X := (cxOf CY X.prog X.w X.K X.mg X.base Ny qy sy g gv X.A X.stack s H EY).tr pn xe) (pos := p1) (i := i) at_ vis d1 d2).run pz sz τ G (fun v G' => v = .ref f ∧ G' = G) J ⟨.ref f, h1, rfl, rfl⟩
  refine wpAny_Call_Name_kw (thn look fun u s1 ⟨v, G1, J1, rv, ev, eG⟩ => ?_)
  subst ev eG
  obtain rfl : u = Value.ref f := rv
  have fn1 := J1.base.keep f _ hf nf ff (fun z => nomatch (show f ∈ ([] : List Addr) from z))
  refine PySem.W.callWith_F0 ⟨_, _, _, _, fn1⟩ ?_
  have grown : Un (frs X.stack) [] H G1 s.heap s1.heap := J1.base
  obtain ⟨⟨oc, vs, t, c1, c2, c3⟩, _, _⟩ := J1.hok lc _ h2
  have run : codeAny (model X.prog X.w) (X.A.deeper (envOfC qy sy s.heap.objs.size g gv)) (.call (.ref f) ⟨[], []⟩) (CR (L2.CX X.prog X.w) (envOfC qy sy s.heap.objs.size g gv :: X.stack) X.prog X.w G1 s1 Q E) s1 := by
    refine PySem.W.kla_callFunE hr.depth fn1 rfl L.co L.gen rfl ⟨lc, oc, vs, t, rfl, c1, c2, c3⟩ ?_
    rw [bind0]
    refine wpAny_pure (wpAny_newFunctionEnv (fun y hy => (L.own y hy).2) (fun y hy => absurd hy (by simp)) (fun hp hns hsb => ⟨J1.nolimit.fresh _ hsb, ?_⟩) L.kind)
    have kept : ∀ b o, s1.heap.get? b = some o → hp.get? b = some o := fun b o e => hsb.extBut b o (Nat.ne_of_lt (Heap.lt_size e)) (Heap.get?_push_of_some _ e)
    have J2 := lam_start2 (E := E) (tk := s1.toks + ([] : List (Str × Value)).length) (f := f) (c' := lc) I L J1.env0 hr.hd grown hns kept
    refine PySem.W.kla_codeExpr (wpAny_mono ((body _ _ s1 G1 (hr.deeper _) hg).run [] _ _ G1 Q J2 h3) (fun v s' ⟨w', H', J', rv, q⟩ => ⟨w', H', J'.os, J'.bare, J'.base, J'.hok, rv, q⟩) fun e s' hq => hq)
  have out : Passes (L2.CX X.prog X.w) ((cxOf CY X.prog X.w X.K X.mg X.base Ny qy sy g gv X.A X.stack s H EY).tr pn xe) E := passes_call tk hW
  refine wpAny_call (codeAny_mono run fun r s' hq => ?_)
  match r, hq with
  | .error e, hq => exact out pz τ G1 s1 e s' J1 hq
  | .ok (.ret u), hq => exact J1.after hq
  | .ok .next, hq => exact False.elim hq
  | .ok .brk, hq => exact False.elim hq
  | .ok .cont, hq => exact False.elim hq
end
section
variable {X : Cx}
/-- g(lambda: body) -/
theorem pe_lamG {T : List (Addr × Str)} {TT : (XK → Hp → VK → Prop) → Hp → VK → Prop} {x a : Str} {g c P : Addr} {k : Nat} {pg ps : Arguments} {bg : List Stmt} {sg scope : Scope} {dV kV doc pm cdv ct oc : Value} {an od : Option Addr} {osl : Array (Option Value)} {Ng : List Str} {bd : Expr} {t : XK → TE} {p lpos pos : Pos}
    (gl : Gl X x) (m : X.mg x = some (.ref g)) (kp : PySem.W.keepIn X.K (.ref g) = true) (lk : X.K.lookup g = some ⟨oc, od, .func (PySem.W.fnOf x x pg bg sg dV kV doc pm an cdv ct), osl⟩) (hcg : PySem.W.codeIn X.K cdv x = true)
    (hb : L2.Binds X.K (PySem.W.fnOf x x pg bg sg dV kV doc pm an cdv ct) [a] []) (Sg : FnScope Ng [a] sg) (n0 : Ng[0]? = some a) (va : Vis sg a) (gives : GivesTo X Ng x sg g cdv bg a (X.env.qual ++ "<lambda>") TT)
    (TB : TabB X.base X.mg c P) (code : X.env.code = .ref c) (mT : (P, X.env.qual ++ "<lambda>") ∈ T) (uT : ∀ p ∈ T, p.1 = P → p.2 = X.env.qual ++ "<lambda>") (hr : Room (k + 2) X.A) (hg : X.A.guards = some []) (L : LamS X.env.scope scope) (hdef : defaultsOf ps X.env = ([], []))
    (bind0 : ∀ (q : Str) (cl : List (Str × Addr)) (pm cv ctv : Value), bindArgs (PySem.W.kla_fn "<lambda>" q ps bd scope cl pm cv ctv) ⟨[], []⟩ = pure [])
    (body : ∀ (A : Around) (outer : List Env) (s : Shared) (H : Hp) (E : XK) (f lc : Addr), Room k (A.deeper (lamEnv X scope s.heap.objs.size f lc)) → (A.deeper (lamEnv X scope s.heap.objs.size f lc)).guards = some [] → PE (lamCx X A outer s H E scope f lc) bd (t E))
    (e1 : (x == ("__debug__" : Str)) = false := by decide) (e2 : (a == ("__debug__" : Str)) = false := by decide) (e3 : (a == ("__classdict__" : Str)) = false := by decide) : PE X (.Call (.Name x p) [.Lambda ps bd scope lpos] [] pos) (tLam T TT t) := by
  refine ⟨fun pins s σ H Q I ⟨hT, h⟩ => ?_⟩
  refine wpAny_Call_Name_kw (ld_glob I gl m ?_ e1)
  refine PySem.W.callWith_K (h₀ := X.base) I.ok.mod.kin kp ?_ (by rfl) (by rfl)
  show wpAny _ _ (spliced ((false, eval (.Lambda ps bd scope lpos) X.env) :: backTo pos (starEach [] X.env))) _ _ s
  refine Calls.spliced_cons (lam_make2 I TB code mT uT hT hdef (L.has I.ok) fun f lc pm' ctv H1 s' J eN T1 o1 o2 o3 o4 => Calls.spliced_nil ⟨J.kIn, ?_⟩)
  refine wpAny_call (codeAny_mono (run_ofS (CX := C8.CX0) (Q := Q) (E := C8.E0) (N := Ng) (ps := [a]) (us := [.ref f]) (vs := [.ref f]) lk hcg Sg hr J.env0 (hb s' [.ref f] J.kIn rfl) (.cons rfl .nil) rfl fun hr' => ?_) fun r s2 hq => ?_)
  · obtain ⟨t', ht', hq'⟩ := gives f lc s' H1 Q (fun E H' Q' => t E σ H' Q') (fun W pn xe E p1 p2 tk hW => act (i := 0) J L o1 o2 o3 (bind0 _ _ _ _ _) tk hW hr' hg (fun A outer s H hr2 hg2 => body A outer s H E f lc hr2 hg2) n0 va e2 e3) o4 (h H1 eN T1)
    exact ⟨t', ht'.nox, hq'⟩
  · match r, hq with
    | .error e, hq => exact (show False from hq).elim
    | .ok (.ret u), hq => exact J.after hq
    | .ok .next, hq => exact False.elim hq
    | .ok .brk, hq => exact False.elim hq
    | .ok .cont, hq => exact False.elim hq
end
end LamG
set_option maxHeartbeats 4000000
/-! _law_bad: what a call raises, told as a list. -/
namespace Lw
open PySem PySem.Spec PyProof.Rows L2 Evl Pd Gd Us Chk LamX LamK TryAs
/-- an error that is told: its class, its label, its field, whether its field is told by repr -/
structure Er where
  C : Addr
  lab : Str
  fd : Str
  rep : Bool
def TellsOf (K : PySem.W.Frag) (r : Er) (v w : V) (H : Hp) : Prop := if r.rep then ∃ dt, Dp K H v dt ∧ Repable dt ∧ w = .str dt.shown else w = v
def TBad (K : PySem.W.Frag) (l : List Er) : (XK → Hp → VK → Prop) → Hp → VK → Prop := fun tl H Q =>
  tl (fun k d H' => ∃ l1 r l2 dd v w, l = l1 ++ r :: l2 ∧ k = .ref r.C ∧ d = some dd ∧ H' dd = some (.xd [(r.fd, v)]) ∧ TellsOf K r v w H' ∧ ∀ p, H' p = none → Q (.ref p) (upd H' p (.lst [.str r.lab, w]))) H fun _ H' => Q .non H'
def tTell (K : PySem.W.Frag) (r : Er) (a : Addr) (k : Value) (d : Option Addr) : TE := if r.rep then tCB (rReprD K) (tCons (tXf a k d r.C r.fd (tVar 1)) tNil) else tXf a k d r.C r.fd (tVar 1)
def clOf (K : PySem.W.Frag) (r : Er) : Cl := ⟨.ref r.C, some 1, fun a k d => tRet (tLst (tCons (tC (.str r.lab)) (tCons (tTell K r a k d) tNil)))⟩
theorem lk1 {f : Str} {v : V} : List.lookup f [(f, v)] = some v := by simp [List.lookup]
theorem wish_at {K : PySem.W.Frag} {W : WX} {D : Ends} {k : Value} {d : Option Addr} {σ : L2.St} {H : Hp} : ∀ {l1 : List Cl} {c : Cl} {l2 : List Cl}, (∀ b ∈ l1, PySem.W.exmOne K k b.cls = some false) → PySem.W.exmOne K k c.cls = some true → (∀ a, H a = none → runs c a k d D σ H) → wish K W D (l1 ++ c :: l2) k d σ H
  | [], c, l2, _, h2, h3 => ⟨true, h2, fun _ => h3, fun z => nomatch z⟩
  | b :: l1, c, l2, h1, h2, h3 => ⟨false, h1 b List.mem_cons_self, fun z => (nomatch z), fun _ => wish_at (fun b hb => h1 b (List.mem_cons_of_mem _ hb)) h2 h3⟩
/-- the errors' classes -/
def errs (a0 a1 a2 a3 a4 a5 a6 a7 a8 a9 : Addr) : List Er := [⟨a0, "setting", "part", false⟩, ⟨a1, "end", "part", false⟩, ⟨a2, "pact", "part", false⟩, ⟨a3, "name", "value", true⟩, ⟨a4, "deed", "value", true⟩, ⟨a5, "argument", "value", true⟩, ⟨a6, "state", "value", true⟩, ⟨a7, "move", "value", true⟩, ⟨a8, "script", "at", false⟩, ⟨a9, "claim", "value", true⟩]
structure Errs (K : PySem.W.Frag) (mg : Str → Option Value) (a0 a1 a2 a3 a4 a5 a6 a7 a8 a9 aX : Addr) : Prop where
  m0 : mg "BadSetting" = some (.ref a0)
  m1 : mg "BadEnd" = some (.ref a1)
  m2 : mg "BadPact" = some (.ref a2)
  m3 : mg "BadName" = some (.ref a3)
  m4 : mg "BadDeed" = some (.ref a4)
  m5 : mg "BadArgument" = some (.ref a5)
  m6 : mg "BadState" = some (.ref a6)
  m7 : mg "BadMove" = some (.ref a7)
  m8 : mg "BadScript" = some (.ref a8)
  m9 : mg "BadClaim" = some (.ref a9)
  mX : mg "PactError" = some (.ref aX)
  xf : ∀ r ∈ errs a0 a1 a2 a3 a4 a5 a6 a7 a8 a9, XfC K r.C ∧ PySem.W.findIn K (.ref r.C) r.fd = some none
  ex : ∀ l1 r l2, errs a0 a1 a2 a3 a4 a5 a6 a7 a8 a9 = l1 ++ r :: l2 → (∀ c ∈ l1, PySem.W.exmOne K (.ref r.C) (.ref c.C) = some false) ∧ PySem.W.exmOne K (.ref r.C) (.ref r.C) = some true
  repr : mg "repr" = none
theorem takes_len {X : Cx} {W : WX} (t : Takes X W) : Takes X (fun cls d σ H => σ.length = X.N.length → W cls d σ H) := fun u s' x => by
  obtain ⟨a, B, sI, pins, σ, H, cls, d, e, I, nb, up, sky, na, os, ag, w⟩ := x
  exact t u s' ⟨a, B, sI, pins, σ, H, cls, d, e, I, nb, up, sky, na, os, ag, w I.len⟩
end Lw
set_option maxHeartbeats 4000000
/-! The law's own call where defs make lambdas (tables of code objects) and no repr is under way. -/
namespace Gd
open PySem PySem.Spec PyProof.Rows L2 Evl Pd LamX
abbrev tabObj : Obj := { cls := .none, data := .fields #[] }
abbrev scrObj (vs : List Value) : Obj := { cls := .type "list", data := .seq vs.toArray }
/-- what the call sees: the tables, empty, and the script where it is not of the fragment -/
structure SeesT (K : PySem.W.Frag) (cs : List (Addr × Addr)) (a : Addr) (vs : List Value) (ns : List Int) (H : Hp) : Prop where
  tab : ∀ p ∈ cs, H p.2 = some (.tbl #[])
  off : ∀ b, (∀ p ∈ cs, b ≠ p.2) → H b = none ∨ (b = a ∧ K.lookup a = none ∧ H b = some (.frz (scrObj vs) (.lst (ns.map V.int))))
  scr : (∀ p ∈ cs, a ≠ p.2) → K.lookup a = none → H a = some (.frz (scrObj vs) (.lst (ns.map V.int)))
open Classical in
theorem seesT_ex (K : PySem.W.Frag) (cs : List (Addr × Addr)) (a : Addr) (vs : List Value) (ns : List Int) : ∃ H, SeesT K cs a vs ns H := by
  refine ⟨fun b => if ∃ p ∈ cs, b = p.2 then some (.tbl #[]) else if b = a ∧ K.lookup a = none then some (.frz (scrObj vs) (.lst (ns.map V.int))) else none, fun p hp => if_pos ⟨p, hp, rfl⟩, fun b nb => ?_, fun na nk => ?_⟩
  · have n1 : ¬ ∃ p ∈ cs, b = p.2 := fun ⟨p, hp, e⟩ => nb p hp e
    by_cases c : b = a ∧ K.lookup a = none
    · exact .inr ⟨c.1, c.2, by rw [if_neg n1, if_pos c]⟩
    · exact .inl (by rw [if_neg n1, if_neg c])
  · have n1 : ¬ ∃ p ∈ cs, a = p.2 := fun ⟨p, hp, e⟩ => na p hp e
    show (if _ then _ else _) = _
    rw [if_neg n1, if_pos ⟨rfl, nk⟩]
section
variable {P : Program} {w : World} {K : PySem.W.Frag} {mg mb : Str → Option Value} {k : Nat} {fa a : Addr} {fd : FuncData} {x : Str} {sp : Sp} {s1 : Shared} {vs : List Value} {ns : List Int} {cs : List (Addr × Addr)} {H : Hp}
theorem SeesT.kind (S : SeesT K cs a vs ns H) (hT : ∀ p ∈ cs, s1.heap.get? p.2 = some tabObj) (ha : s1.heap.get? a = some (scrObj vs)) {b : Addr} {o : Obj} (e : s1.heap.get? b = some o) : H b = none ∨ o = tabObj ∨ o = scrObj vs := by
  by_cases c : ∃ p ∈ cs, b = p.2
  · obtain ⟨p, hp, rfl⟩ := c
    exact .inr (.inl (Option.some.inj (e.symm.trans (hT p hp))))
  · rcases S.off b (fun p hp z => c ⟨p, hp, z⟩) with z | ⟨rfl, _, _⟩
    · exact .inl z
    · exact .inr (.inr (Option.some.inj (e.symm.trans ha)))
theorem SeesT.dict (S : SeesT K cs a vs ns H) (hT : ∀ p ∈ cs, s1.heap.get? p.2 = some tabObj) (ha : s1.heap.get? a = some (scrObj vs)) {b : Addr} {o : Obj} {es : Array DictEntry} {ep : Nat} (e : s1.heap.get? b = some o) (d : o.data = .dict es ep) : H b = none := by
  rcases S.kind hT ha e with z | rfl | rfl
  · exact z
  · cases d
  · cases d
theorem SeesT.frag (S : SeesT K cs a vs ns H) (nT : ∀ p ∈ cs, K.lookup p.2 = none) {b : Addr} {o : Obj} (e : K.lookup b = some o) : H b = none := by
  by_cases c : ∃ p ∈ cs, b = p.2
  · obtain ⟨p, hp, rfl⟩ := c
    rw [nT p hp] at e
    cases e
  · rcases S.off b (fun p hp z => c ⟨p, hp, z⟩) with z | ⟨rfl, n, _⟩
    · exact z
    · rw [n] at e
      cases e
theorem law_callTG (KX : K.In s1.heap) (hns : s1.heap.Ns mainGlobals mg) (hb : s1.heap.Ns builtinsNs mb) (hbb : ∀ x : Str, x ≠ "__name__" → mb x = bootBuiltins x) (lim : s1.heap.NoLimit) (hg : s1.gens = #[]) (hT : ∀ p ∈ cs, s1.heap.get? p.2 = some tabObj) (nT : ∀ p ∈ cs, K.lookup p.2 = none)
    (C : ∀ p ∈ cs, PySem.W.CodeHd s1.heap p.1 p.2) (hbm : ∃ (bm : Addr) (ob : Obj), mg "__builtins__" = some (.ref bm) ∧ bm ≠ builtinsNs ∧ s1.heap.get? bm = some ob ∧ ob.cls = .type "module" ∧ ob.dict = some builtinsNs ∧ ob.data = .plain) (ha : s1.heap.get? a = some (scrObj vs))
    (hi : IntsAre vs ns) (hl : ns.length ≤ sizeLine) (hr : Room k callerA) (F : ∀ base : Heap, K.In base → base.Ns mainGlobals mg → (∀ p ∈ cs, TabB base mg p.1 p.2) → FnG P w K mg base CX0 k fa fd [x] sp) (hbind : ∀ (s : Shared) (u : Value), BindsTo s fd ⟨[u], []⟩ [(x, u)])
    (hsp : ∀ H : Hp, (∀ p ∈ cs, H p.2 = some (.tbl #[])) → SqL K H a (ns.map V.int) → sp [.ref a] H (fun v _ => v = .bl true) fun _ _ _ => False) :
    codeAny (model P w) callerA (.call (.ref fa) ⟨[.ref a], []⟩) (fun r s' => r = .ok (.ret (.bool true)) ∧ OldK s1.heap s'.heap ∧ s'.os = s1.os ∧ AllBare s'.gens) s1 := by
  have rv := vals_ints hi
  obtain ⟨H, S⟩ := seesT_ex K cs a vs ns
  have na : ∀ p ∈ cs, a ≠ p.2 := fun p hp z => by
    have e := hT p hp
    rw [← z, ha] at e
    cases e
  have hS : SqL K H a (ns.map V.int) := by
    cases hk : K.lookup a with
    | none => exact .inl (.inr ⟨_, S.scr na hk⟩)
    | some o =>
      have e := KX a o hk
      rw [ha] at e
      cases e
      exact .inr ⟨_, vs.toArray, _, hk, rfl, rfl, rfl, by rw [List.size_toArray, hi.length]; exact hl, by simpa using rv⟩
  have ok : HOk P w H s1.heap := fun b u e => by
    by_cases c : ∃ p ∈ cs, b = p.2
    · obtain ⟨p, hp, rfl⟩ := c
      rw [S.tab p hp] at e
      cases e
      exact hT p hp
    · rcases S.off b (fun p hp z => c ⟨p, hp, z⟩) with z | ⟨rfl, _, z⟩
      · rw [z] at e
        cases e
      · rw [z] at e
        cases e
        exact ⟨ha, by rw [List.length_map]; exact hl, vs, _, rv, ha⟩
  have nsB : ∀ {b : Addr} {m : Str → Option Value}, s1.heap.Ns b m → (hidT s1.heap H).Ns b m := fun ⟨o, es, ep, e, d, r⟩ => ⟨o, es, ep, hidT_get e (S.dict hT ha e d), d, r⟩
  have KB : K.In (hidT s1.heap H) := fun b o e => hidT_get (KX b o e) (S.frag nT e)
  have M : Mod K mg (hidT s1.heap H) := ⟨KB, nsB hns, ⟨mb, nsB hb, hbb⟩, let ⟨mc, h1, h2⟩ := lim; ⟨mc, nsB h1, h2⟩⟩
  have gT : ∀ p ∈ cs, mainGlobals ≠ p.2 := fun p hp z => by
    obtain ⟨o, es, ep, e, hd, _⟩ := hns
    rw [z, hT p hp] at e
    cases e
    cases hd
  have TB : ∀ p ∈ cs, TabB (hidT s1.heap H) mg p.1 p.2 := fun p hp => by
    refine ⟨?_, ?_, gT p hp⟩
    · obtain ⟨o, us, file, tf, flags, tg, inF, text, tt, e1, r1, r2, r3, rest⟩ := C p hp
      refine ⟨o, us, file, tf, flags, tg, inF, text, tt, hidT_get e1 ?_, r1, r2, r3, rest⟩
      rcases S.kind hT ha e1 with z | rfl | rfl
      · exact z
      · cases r1
      · injection (show Value.type "list" = Value.type "code" from r1) with z
        exact absurd z (by decide)
    · obtain ⟨bm, ob, b1, b2, b3, b4, b5, b6⟩ := hbm
      refine ⟨bm, ob, b1, b2, fun q => ?_, fun q => ?_, hidT_get b3 ?_, b4, b5, b6⟩
      · obtain ⟨o, es, ep, e, hd, _⟩ := hns
        rw [q, e] at b3
        cases b3
        rw [hd] at b6
        cases b6
      · rw [q, hT p hp] at b3
        cases b3
        cases b4
      · rcases S.kind hT ha b3 with z | rfl | rfl
        · exact z
        · cases b4
        · injection (show Value.type "list" = Value.type "module" from b4) with z
          exact absurd z (by decide)
  have e0 : Env0 P w K mg (hidT s1.heap H) callerA [] s1 H := ⟨rfl, M, fun b o e => of_hidT e, Nat.le_of_eq (hidT_size _ _), trivial, fun b hb => (nomatch hb), ok, .of_eq hg⟩
  refine codeAny_mono ((F _ KB (nsB hns) TB).run callerA [] s1 H ⟨[.ref a], []⟩ [.ref a] [.ref a] _ _ hr rfl e0 (hbind s1 (.ref a)) (.cons rfl .nil) (hsp H S.tab hS)) fun r s' h => ?_
  cases r with
  | error e => exact h.elim
  | ok fl =>
    cases fl with
    | next => exact h.elim
    | brk => exact h.elim
    | cont => exact h.elim
    | ret u =>
      obtain ⟨v, H', os, bare, un, ok', r', q⟩ := h
      cases (show v = .bl true from q)
      cases (show u = Value.bool true from r')
      have stays : ∀ b o, s1.heap.get? b = some o → s'.heap.get? b = some o ∨ ∃ p ∈ cs, b = p.2 ∧ o = tabObj ∧ ∃ more : Array Value, s'.heap.get? b = some { cls := .none, data := .fields more } := fun b o e => by
        by_cases c : ∃ p ∈ cs, b = p.2
        · obtain ⟨p, hp, rfl⟩ := c
          obtain ⟨more, z⟩ := un.tbls p.2 #[] (S.tab p hp)
          exact .inr ⟨p, hp, rfl, Option.some.inj (e.symm.trans (hT p hp)), _, ok' p.2 _ z⟩
        · refine .inl ?_
          rcases S.off b (fun p hp z => c ⟨p, hp, z⟩) with z | ⟨rfl, _, z⟩
          · exact un.keep b o e z (fun m => nomatch (show b ∈ ([] : List Addr) from m)) (fun m => nomatch m)
          · have g2 := (ok' b _ (un.frzs b _ _ z)).1
            rw [ha] at e
            cases e
            exact g2
      refine ⟨rfl, ⟨fun b o e => ?_, fun b o e => ?_⟩, os, bare⟩
      · rcases stays b o e with z | ⟨p, hp, rfl, rfl, more, z⟩
        · exact .inl z
        · exact .inr (.inl ⟨((C p hp).tab (hT p hp)).isCodeTable, rfl, #[], more, rfl, by rw [Array.empty_append]; exact z⟩)
      · rcases stays b o e with z | ⟨p, hp, rfl, rfl, more, z⟩
        · exact ⟨o, z⟩
        · exact ⟨_, z⟩
end
/-- the law's promise at the head's heap -/
structure LawG (l : PySem.W.OpenLaw) (w : World) (K : PySem.W.Frag) (k n : Nat) (x : Str) (mg : Str → Option Value) (fa : Addr) (h : Heap) : Prop where
  ex : ∃ (fd : FuncData) (cs : List (Addr × Addr)) (sp : Sp), (∀ p ∈ cs, h.get? p.2 = some tabObj) ∧ (∀ p ∈ cs, K.lookup p.2 = none) ∧ (∀ p ∈ cs, PySem.W.CodeHd h p.1 p.2) ∧ (∀ (s : Shared) (u : Value), BindsTo s fd ⟨[u], []⟩ [(x, u)]) ∧
    (∀ (H : Hp) (a : Addr) (ns : List Int), ns.length ≤ n → (∀ p ∈ cs, H p.2 = some (.tbl #[])) → SqL K H a (ns.map V.int) → sp [.ref a] H (fun v _ => v = .bl true) fun _ _ _ => False) ∧ ∀ base : Heap, K.In base → base.Ns mainGlobals mg → (∀ p ∈ cs, TabB base mg p.1 p.2) → FnG l.prog w K mg base CX0 k fa fd [x] sp
theorem walk_ofTG {l : PySem.W.OpenLaw} {n k : Nat} {q : Program} {loose : List Str} {XP : (Str → Option Value) → Heap → Prop} {YP : World → Heap → Prop} {d : DefRec} {K : Params → PySem.W.Frag} {x : Str} (hn : l.most = some n) (hn2 : n ≤ sizeLine) (hdf : d.params.defaults = []) (hr : Room k callerA)
    (hY : ∀ (w : World) (h : Heap), YP w h → (K w.params).In h) (F : ∀ (w : World) (mg : Str → Option Value) (fa : Addr) (h : Heap), YP w h → (K w.params).In h → h.Ns mainGlobals mg → mg d.name = some (.ref fa) → LawG l w (K w.params) k n x mg fa h) :
    PySem.W.WalkO q loose XP YP l.row.toRowW d [] (fun f vs => PySem.call f vs) := by
  refine Att.attach_callB hn hdf fun w s0 s1 mg mb fa o pm cd doc a vs ns G Y ho hd hcd hmg hobj hints hlen _ hg => ?_
  obtain ⟨fd, cs, sp, h1, h2, h3, h4, h5, h6⟩ := (F w mg fa _ Y (hY w _ Y) G.T.g hmg).ex
  exact law_callTG (hY w _ Y) G.T.g G.T.b G.T.builtins G.T.nolimit hg h1 h2 h3 G.T.bmain hobj hints (Nat.le_trans hlen hn2) hr h6 h4 fun H e1 e2 => h5 H a ns hlen e1 e2
end Gd
set_option maxHeartbeats 1000000
/-! What a top has left, as facts of the written part. -/
namespace Lw
open PySem PySem.Spec PyProof.Rows L2 Evl Pd Gd Us Chk Wlk LamX LamK
/-- the def that gets a lambda -/
structure FunB (K : PySem.W.Frag) (mg : Str → Option Value) (x : Str) (st : Stmt) (g : Addr) : Prop where
  mg : mg x = some (.ref g)
  kp : PySem.W.keepIn K (.ref g) = true
  ex : ∃ (oc : Value) (od : Option Addr) (kV doc pm : Value) (an : Option Addr) (cd ct : Value) (osl : Array (Option Value)), K.lookup g = some ⟨oc, od, .func (PySem.W.fnOf x x (defArgs st) (defBody st) (defScope st) .none kV doc pm an cd ct), osl⟩ ∧ PySem.W.codeIn K cd x = true
section
variable {K : PySem.W.Frag} {h : Heap} {mg : Str → Option Value} {f : Addr} {x y qual : Str} {st : Stmt} {od an : Option Addr} {sl : Array (Option Value)} {oc kV dc pm cd ct : Value}
theorem dnU (X : K.In h) (G : h.Ns mainGlobals mg) (a : PySem.W.nsIn K mainGlobals x = some (some (.ref f))) (l : K.lookup f = some ⟨oc, od, .func (PySem.W.fnOf x x (defArgs st) (defBody st) (defScope st) .none kV dc pm an cd ct), sl⟩)
    (c : PySem.W.codeIn K cd x = true) (k : PySem.W.keepIn K (.ref f) = true) : Us.Dn K mg x st := ⟨f, _, PySem.W.mg_of X G a, k, fun_mk l c k⟩
theorem dnYU (X : K.In h) (G : h.Ns mainGlobals mg) (a : PySem.W.nsIn K mainGlobals x = some (some (.ref f))) (l : K.lookup f = some ⟨oc, od, .func (PySem.W.fnOf y y (defArgs st) (defBody st) (defScope st) .none kV dc pm an cd ct), sl⟩)
    (c : PySem.W.codeIn K cd y = true) (k : PySem.W.keepIn K (.ref f) = true) : Us.DnY K mg x y st := ⟨f, _, PySem.W.mg_of X G a, k, fun_mk l c k⟩
theorem funC {c : Addr} (l : K.lookup f = some ⟨oc, od, .func (PySem.W.fnOf x x (defArgs st) (defBody st) (defScope st) .none kV dc pm an (.ref c) ct), sl⟩) (hc : PySem.W.codeIn K (.ref c) x = true) : FunC K x x st f (PySem.W.fnOf x x (defArgs st) (defBody st) (defScope st) .none kV dc pm an (.ref c) ct) c :=
  ⟨oc, od, kV, dc, pm, an, ct, sl, rfl, l, hc⟩
theorem funB (X : K.In h) (G : h.Ns mainGlobals mg) (a : PySem.W.nsIn K mainGlobals x = some (some (.ref f))) (l : K.lookup f = some ⟨oc, od, .func (PySem.W.fnOf x x (defArgs st) (defBody st) (defScope st) .none kV dc pm an cd ct), sl⟩)
    (c : PySem.W.codeIn K cd x = true) (k : PySem.W.keepIn K (.ref f) = true) : FunB K mg x st f := ⟨PySem.W.mg_of X G a, k, oc, od, kV, dc, pm, an, cd, ct, sl, l, c⟩
theorem errU {C CP fI N : Addr} {g qn nm q : Str} {bs : List Value} {sn : List Str} {sub : List Value} {ab : Bool} {col : Option Bool} {dd : Option Addr} {m0 m1 m2 m3 m5 : Option Value} {p1 p2 q1 q2 q3 q4 : Pos}
    (b : K.lookup C = some (excClassObj nm q C N bs [.ref CP, .type "Exception", .type "BaseException", .type "object"] true sn sub ab col dd m0 m1 m2 m3 m5 "Exception.__new__"))
    (sa : PySem.W.findIn K (.ref C) "__setattr__" = some (some (.builtin "object.__setattr__"))) (ga : PySem.W.findIn K (.ref C) "__getattribute__" = some (some (.builtin "BaseException.__getattribute__"))) (gg : PySem.W.findIn K (.ref C) "__getattr__" = some none) (nf : PySem.W.findIn K (.ref C) g = some none)
    (i : PySem.W.findIn K (.ref C) "__init__" = some (some (.ref fI))) (t : PySem.W.typeIn K (.ref fI) = some (.type "function")) (l : K.lookup fI = some ⟨oc, od, .func (PySem.W.fnOf "__init__" qn (Err.iA g p1 p2) (Err.iB g q1 q2 q3 q4) (Err.iS g) .none .none dc pm an cd ct), sl⟩) (c : PySem.W.codeIn K cd qn = true)
    (kC : PySem.W.keepIn K (.ref C) = true) (eC : PySem.W.subIn K (.ref C) (.type "BaseException") = some true) (tC : PySem.W.typeIn K (.ref C) = some (.type "type")) (hC : PySem.W.hasDictIn K C = true) : Err.ErrC K C fI g :=
  ⟨⟨nm, q, N, bs, _, sn, sub, ab, col, dd, m0, m1, m2, m3, m5, b, .cons CP .base⟩, sa, ga, gg, nf, i, t, kC, eC, tC, hC, ⟨qn, oc, od, dc, pm, an, cd, ct, sl, p1, p2, q1, q2, q3, q4, l, c⟩⟩
theorem txgU {p : Addr} {od : Option Addr} {n : Nat} {xs : List Str} {its : Array Value} (X : K.In h) (G : h.Ns mainGlobals mg) (a : PySem.W.nsIn K mainGlobals x = some (some (.ref p))) (l : K.lookup p = some ⟨.type "tuple", od, .seq its n, sl⟩) (z : its.size ≤ sizeLine) (v : Vals (xs.map V.str) its.toList) : TxG K mg x xs :=
  ⟨p, PySem.W.mg_of X G a, fun H => .inr ⟨_, its, n, l, rfl, rfl, z, v⟩⟩
theorem stgU {s : Str} {u : Value} (X : K.In h) (G : h.Ns mainGlobals mg) (a : PySem.W.nsIn K mainGlobals x = some (some u)) (r : RelV (.str s) u) : StG mg x s := ⟨u, PySem.W.mg_of X G a, r⟩
theorem intgU {i : Int} {u : Value} (X : K.In h) (G : h.Ns mainGlobals mg) (a : PySem.W.nsIn K mainGlobals x = some (some u)) (r : RelV (.int i) u) : IntG mg x i := ⟨u, PySem.W.mg_of X G a, r⟩
theorem FunC.binds {x : Str} {st : Stmt} {f c : Addr} {fd : FuncData} {ps : List Str} (F : FunC K x x st f fd c) (k : PySem.W.keepIn K (.ref f) = true) (h : ∀ {fd : FuncData}, Fun K x x st f fd → L2.Binds K fd ps []) : L2.Binds K fd ps [] := by
  obtain ⟨oc, od, kV, doc, pm, an, ct, osl, rfl, l, hc⟩ := F.ex
  exact h (fun_mk l hc k)
theorem propU {C p g : Addr} {q : Str} {rest : List Value} (a : PySem.W.findIn K (.ref C) x = some (some (.ref p))) (b : PySem.W.specialIn K (.ref p) "__get__" = some (some (.builtin "property.__get__"))) (t : PySem.W.takesIn K (.ref p) = some true)
    (r : PySem.W.recIn K p "property" = some (.ref g :: rest)) (l : K.lookup g = some ⟨oc, od, .func (PySem.W.fnOf x q (defArgs st) (defBody st) (defScope st) .none kV dc pm an cd ct), sl⟩) (c : PySem.W.codeIn K cd q = true) (k : PySem.W.keepIn K (.ref g) = true) : ∃ p g fd, PropOf K C x p g ∧ Fun K x q st g fd :=
  ⟨p, g, _, ⟨a, b, t, ⟨rest, r⟩⟩, fun_mk l c k⟩
/-- the law where it makes lambdas of its own -/
theorem lawC {c fa : Addr} (X : K.In h) (G : h.Ns mainGlobals mg) (hm : mg "law" = some (.ref fa)) (a : PySem.W.nsIn K mainGlobals "law" = some (some (.ref f)))
    (l : K.lookup f = some ⟨oc, od, .func (PySem.W.fnOf "law" "law" (defArgs st) (defBody st) (defScope st) .none kV dc pm an (.ref c) ct), sl⟩) (hc : PySem.W.codeIn K (.ref c) "law" = true) : ∃ fd, mg "law" = some (.ref fa) ∧ FunC K "law" "law" st fa fd c := by
  have e := hm.symm.trans (PySem.W.mg_of X G a)
  cases e
  exact ⟨_, hm, funC l hc⟩
/-! ### the errors' table -/
def xfAll (K : PySem.W.Frag) (l : List Er) : Bool := l.all fun r => xfB K r.C && decide (PySem.W.findIn K (.ref r.C) r.fd = some none)
def exB (K : PySem.W.Frag) : List Er → List Er → Bool
  | _, [] => true
  | seen, r :: rest => (seen.all fun c => decide (PySem.W.exmOne K (.ref r.C) (.ref c.C) = some false)) && (decide (PySem.W.exmOne K (.ref r.C) (.ref r.C) = some true) && exB K (seen ++ [r]) rest)
theorem xf_of {l : List Er} (h : xfAll K l = true) : ∀ r ∈ l, XfC K r.C ∧ PySem.W.findIn K (.ref r.C) r.fd = some none := fun r hr => by
  have := (List.all_eq_true.mp h) r hr
  rw [Bool.and_eq_true] at this
  exact ⟨xfB_ok this.1, of_decide_eq_true this.2⟩
theorem ex_of : ∀ {l seen : List Er}, exB K seen l = true → ∀ l1 r l2, l = l1 ++ r :: l2 → (∀ c ∈ seen ++ l1, PySem.W.exmOne K (.ref r.C) (.ref c.C) = some false) ∧ PySem.W.exmOne K (.ref r.C) (.ref r.C) = some true
  | [], _, _, l1, r, l2, e => by cases l1 <;> cases e
  | q :: l, seen, h, [], r, l2, e => by
    cases e
    have h : ((seen.all fun c => decide (PySem.W.exmOne K (.ref q.C) (.ref c.C) = some false)) && (decide (PySem.W.exmOne K (.ref q.C) (.ref q.C) = some true) && exB K (seen ++ [q]) l)) = true := h
    simp only [Bool.and_eq_true] at h
    refine ⟨fun c hc => ?_, of_decide_eq_true h.2.1⟩
    rw [List.append_nil] at hc
    exact of_decide_eq_true ((List.all_eq_true.mp h.1) c hc)
  | q :: l, seen, h, p :: l1, r, l2, e => by
    injection e with e1 e2
    subst e1
    have h : ((seen.all fun c => decide (PySem.W.exmOne K (.ref q.C) (.ref c.C) = some false)) && (decide (PySem.W.exmOne K (.ref q.C) (.ref q.C) = some true) && exB K (seen ++ [q]) l)) = true := h
    simp only [Bool.and_eq_true] at h
    have := ex_of h.2.2 l1 r l2 e2
    rw [List.append_assoc] at this
    exact this
end
end Lw
set_option maxHeartbeats 1000000
/-! More of an end's methods: used_words, setting, use. -/
namespace Chk
open PySem PySem.Spec PyProof.Rows L2 Evl Pd Gd Us Wlk
def hasW (kvs : Its') : PyData → Bool
  | .str s => kvs.any fun p => decide (p.1 = .inr s)
  | _ => false
/-- is_one_of(value, a dict) -/
def rOneOfD (K : PySem.W.Frag) : List V → Hp → Bool → Prop := fun vs H b => ∃ x d a ws kvs, vs = [x, .ref a] ∧ Dp K H x d ∧ Rd H a (.dK ws) ∧ ws.map (·.1) = kvs.map (·.1) ∧ b = hasW kvs d
def getK (kvs : Its') (s : Str) : Itm := itemAt kvs (.inr s)
/-- what stands under a field of an end, also while it is walked -/
structure FldAt (K : PySem.W.Frag) (C CE : Addr) (fn : Str) (its : Its') (a : Addr) (H : Hp) : Prop where
  ex : ∃ (dx : Addr) (fs : List (Str × V)) (d : Addr) (ws : List (Key × V)), H a = some (.ins CE dx fs) ∧ Rd H d (.dK ws) ∧ ItemsV K C its ws H ∧ fs.lookup fn = some (.ref d) ∧ ∀ m ∈ methodsE, fs.lookup m = none
def FldV (K : PySem.W.Frag) (C CE : Addr) (fn : Str) (its : Its') : PV := fun x H => ∃ a, x = .ref a ∧ FldAt K C CE fn its a H
theorem FldAt.up {K : PySem.W.Frag} {C CE : Addr} {fn : Str} {its : Its'} {a : Addr} {H H' : Hp} (h : FldAt K C CE fn its a H) (x : Ex H H') : FldAt K C CE fn its a H' := by
  obtain ⟨dx, fs, d, ws, h0, h3, i3, r⟩ := h.ex
  exact ⟨dx, fs, d, ws, x _ _ h0, ex_rd x h3, i3.up x, r⟩
theorem mo_fld {K : PySem.W.Frag} {C CE : Addr} {fn : Str} {its : Its'} : Mo (FldV K C CE fn its) := fun _ _ _ x ⟨a, h1, h2⟩ => ⟨a, h1, h2.up x⟩
theorem lk_fld {K : PySem.W.Frag} {C CE : Addr} {fn : Str} {its : Its'} : Lk (FldV K C CE fn its) := fun x H d kvs od hd ⟨a, ex, h⟩ => by
  obtain ⟨dx, fs, d3, v3, h0, h3, i3, r⟩ := h.ex
  exact ⟨a, ex, dx, fs, d3, v3, at_lock hd h0 (fun _ z => nomatch z), rd_lock hd h3 (fun _ _ z => nomatch z), i3.lock hd, r⟩
theorem end_own {K : PySem.W.Frag} {C CE : Addr} {e : Eg} {x : V} {H : Hp} (h : EndV K C CE e x H) : FldV K C CE "_settings" e.own x H := by
  obtain ⟨a, ex, at_⟩ := h
  obtain ⟨dx, fs, d1, d2, d3, v1, v2, v3, h0, h1, h2, h3, i1, i2, i3, f1, f2, f3, f4, fm⟩ := at_.ex
  exact ⟨a, ex, dx, fs, d1, v1, h0, .inl h1, i1, f1, fm⟩
theorem end_uses {K : PySem.W.Frag} {C CE : Addr} {e : Eg} {x : V} {H : Hp} (h : EndV K C CE e x H) : FldV K C CE "_uses" e.uses x H := by
  obtain ⟨a, ex, at_⟩ := h
  obtain ⟨dx, fs, d1, d2, d3, v1, v2, v3, h0, h1, h2, h3, i1, i2, i3, f1, f2, f3, f4, fm⟩ := at_.ex
  exact ⟨a, ex, dx, fs, d2, v2, h0, .inl h2, i2, f2, fm⟩
/-- setting(word), use(word) -/
def spAt (K : PySem.W.Frag) (C CE CN : Addr) (fn : Str) : Sp := fun vs H Q E => vs.length = 2 ∧ ∃ x y d its, vs = [x, y] ∧ FldV K C CE fn its x H ∧ (its.map (·.1)).Nodup ∧ Dq H y d ∧
  (∀ s, d = .str s → hasW its d = true → ∀ v H', Ex H H' → ItmV K C (getK its s) v H' → Q v H') ∧ (hasW its d = false → ∀ o H', Ex H H' → H' o = none → E (.ref CN) (some o) (upd H' o (.xd [("value", y)])))
def spUsedW (K : PySem.W.Frag) (C CE : Addr) : Sp := fun vs H Q _ => vs.length = 1 ∧ ∃ a e, vs = [.ref a] ∧ EndAt K C CE e a H ∧ Small e.uses ∧ ∀ y H', Ex H H' → (∃ r, y = .ref r ∧ H r = none) → Qe (.list (e.uses.map fun p => keyD p.1)) y H' → Q y H'
theorem keys_dq {kvs : Its'} {H : Hp} : ∀ l : Its', DqAll H (l.map fun p => kV p.1) (l.map fun p => keyD p.1) := fun l => by
  induction l with
  | nil => exact .nil
  | cons p r ih =>
    refine .cons ?_ ih
    show Dq _ (kV p.1) (keyD p.1)
    cases p.1 with
    | inl i => exact .int i
    | inr s => exact .str s
theorem has_val {kvs : Its'} {ws : List (Key × V)} (h : ws.map (·.1) = kvs.map (·.1)) (s : Str) : (valV ws (.inr s)).isSome = hasW kvs (.str s) := by
  have e : ∀ (l : List (Key × V)) , (valV l (.inr s)).isSome = (l.map (·.1)).any fun k => decide (k = .inr s) := fun l => by
    rw [List.any_map]
    exact (valV_any (.inr s) l).symm
  rw [e, h, List.any_map]
  rfl
section
variable {P : Program} {w : World} {K : PySem.W.Frag} {mg : Str → Option Value} {base : Heap} {C CE CN fN f : Addr} {fd : FuncData}
theorem at_run {kvs : Its'} {ws : List (Key × V)} {H : Hp} {dd : Addr} {s : Str} (hi : ItemsV K C kvs ws H) (nd : (kvs.map (·.1)).Nodup) (h : hasW kvs (.str s) = true) : ∃ v, valV ws (.inr s) = some v ∧ ItmV K C (getK kvs s) v H := by
  obtain ⟨p, hp, ep⟩ := List.any_eq_true.mp (show (kvs.any fun p => decide (p.1 = .inr s)) = true from h)
  have ep : p.1 = .inr s := of_decide_eq_true ep
  obtain ⟨i, hil, rfl⟩ := List.getElem_of_mem hp
  have hk : kvs[i]? = some (.inr s, kvs[i].2) := by rw [List.getElem?_eq_getElem hil, ← ep]
  obtain ⟨v, h1, h2⟩ := hi.at_ i _ _ hk
  refine ⟨v, valV_at (by rw [hi.keys]; exact nd) h1, ?_⟩
  show ItmV K C (itemAt kvs (.inr s)) v H
  rw [item_at nd hk]
  exact h2
end
end Chk
set_option maxHeartbeats 1000000
/-! An end's lets. -/
namespace Chk
open PySem PySem.Spec PyProof.Rows L2 Evl Pd Gd Us Wlk
def hasP (ks : List (List Key)) : PyData → PyData → Bool
  | .int i, .int j => ks.any fun k => decide (k = [.inl i, .inl j])
  | _, _ => false
def letsE (rs : Its') (s : Str) (a b : PyData) : Bool := (betw 0 3 a && betw 0 3 b) && match pairsOf rs s with
  | none => true
  | some ks => hasP ks a b
def spLetsE (K : PySem.W.Frag) (C CE CD : Addr) : Sp := fun vs H Q E => vs.length = 4 ∧ ∃ x y z u d a b rs, vs = [x, y, z, u] ∧ RulV K C CE rs x H ∧ (rs.map (·.1)).Nodup ∧ (∀ p ∈ rs, OkRul p) ∧ Dq H y d ∧ Dp K H z a ∧ Dp K H u b ∧
  (∀ s, d = .str s → inT deedsT d = true → ∀ H', Ex H H' → Q (.bl (letsE rs s a b)) H') ∧ (inT deedsT d = false → ∀ e H', Ex H H' → H' e = none → E (.ref CD) (some e) (upd H' e (.xd [("value", y)])))
abbrev nLetsE : List Str := ["self", "deed", "opened", "owed"]
theorem betwInt {lo hi : Int} {d : PyData} (h : betw lo hi d = true) : ∃ i : Int, d = .int i := by
  cases d with
  | int i => exact ⟨i, rfl⟩
  | _ => cases h
section
variable {P : Program} {w : World} {K : PySem.W.Frag} {mg : Str → Option Value} {base : Heap} {C CE CD f : Addr} {fd : FuncData}
end
end Chk
set_option maxHeartbeats 1000000
/-! setting, use, lets for those that call them. -/
namespace Chk
open PySem PySem.Spec PyProof.Rows L2 Evl Pd Gd Us Wlk
structure EndM (P : Program) (w : World) (K : PySem.W.Frag) (mg : Str → Option Value) (base : Heap) (C CE CD CN : Addr) : Prop where
  cl : Cls K CE
  setting : ∃ f fd, Meth K CE "setting" f ∧ L2.Binds K fd ["self", "word"] [] ∧ FnOk P w K mg base (L2.CX P w) 2 f fd ["self", "word"] (spAt K C CE CN "_settings")
  use : ∃ f fd, Meth K CE "use" f ∧ L2.Binds K fd ["self", "word"] [] ∧ FnOk P w K mg base (L2.CX P w) 2 f fd ["self", "word"] (spAt K C CE CN "_uses")
  lets : ∃ f fd, Meth K CE "lets" f ∧ L2.Binds K fd nLetsE [] ∧ FnOk P w K mg base (L2.CX P w) 3 f fd nLetsE (spLetsE K C CE CD)
section
variable {X : Cx} {C CE CD CN : Addr} {e o : Expr} {es : List Expr} {pos apos : Pos} {ta : TE} {t : TA} {j : Nat} {E : XK}
theorem pe_settingM {pl : Sem Bool} (S : EndM X.prog X.w X.K X.mg X.base C CE CD CN) (hr : Room j X.A) (hk : 2 ≤ j) (hx : Passes (L2.CX X.prog X.w) X E) (ho : PE X o ta) (ha : PA X (e :: es) t)
    (hst : starEach (e :: es) X.env = (false, eval e X.env) :: starEach es X.env := by rfl) (hpl : (backTo pos (starEach es X.env)).any (·.1) = false := by rfl)
    (ht : eval (.Call (.Attribute o "setting" apos) (e :: es) [] pos) X.env = (do
      let ov ← eval o X.env
      standAt apos.atName
      let (f, first) ← holding [ov] (getMethod ov "setting" pl)
      callWith pos f first (backTo pos (starEach (e :: es) X.env)) (backToKw pos (keywordEach [] X.env))) := by rfl) :
    PE X (.Call (.Attribute o "setting" apos) (e :: es) [] pos) (tMeth CE "setting" (spAt X.K C CE CN "_settings") [] E ta t) := by
  obtain ⟨f, fd, M, b, F⟩ := S.setting
  exact pe_meth ho S.cl M F (hr.mono hk) b .nil hx ha hst hpl ht
theorem pe_useM {pl : Sem Bool} (S : EndM X.prog X.w X.K X.mg X.base C CE CD CN) (hr : Room j X.A) (hk : 2 ≤ j) (hx : Passes (L2.CX X.prog X.w) X E) (ho : PE X o ta) (ha : PA X (e :: es) t)
    (hst : starEach (e :: es) X.env = (false, eval e X.env) :: starEach es X.env := by rfl) (hpl : (backTo pos (starEach es X.env)).any (·.1) = false := by rfl)
    (ht : eval (.Call (.Attribute o "use" apos) (e :: es) [] pos) X.env = (do
      let ov ← eval o X.env
      standAt apos.atName
      let (f, first) ← holding [ov] (getMethod ov "use" pl)
      callWith pos f first (backTo pos (starEach (e :: es) X.env)) (backToKw pos (keywordEach [] X.env))) := by rfl) :
    PE X (.Call (.Attribute o "use" apos) (e :: es) [] pos) (tMeth CE "use" (spAt X.K C CE CN "_uses") [] E ta t) := by
  obtain ⟨f, fd, M, b, F⟩ := S.use
  exact pe_meth ho S.cl M F (hr.mono hk) b .nil hx ha hst hpl ht
theorem pe_letsEM {pl : Sem Bool} (S : EndM X.prog X.w X.K X.mg X.base C CE CD CN) (hr : Room j X.A) (hk : 3 ≤ j) (hx : Passes (L2.CX X.prog X.w) X E) (ho : PE X o ta) (ha : PA X (e :: es) t)
    (hst : starEach (e :: es) X.env = (false, eval e X.env) :: starEach es X.env := by rfl) (hpl : (backTo pos (starEach es X.env)).any (·.1) = false := by rfl)
    (ht : eval (.Call (.Attribute o "lets" apos) (e :: es) [] pos) X.env = (do
      let ov ← eval o X.env
      standAt apos.atName
      let (f, first) ← holding [ov] (getMethod ov "lets" pl)
      callWith pos f first (backTo pos (starEach (e :: es) X.env)) (backToKw pos (keywordEach [] X.env))) := by rfl) :
    PE X (.Call (.Attribute o "lets" apos) (e :: es) [] pos) (tMeth CE "lets" (spLetsE X.K C CE CD) [] E ta t) := by
  obtain ⟨f, fd, M, b, F⟩ := S.lets
  exact pe_meth ho S.cl M F (hr.mono hk) b .nil hx ha hst hpl ht
end
section
variable {K : PySem.W.Frag} {C CE CD CN : Addr} {σ : L2.St} {H : Hp} {te ty tz tu : TE} {e : Eg} {s : Str} {d a b : PyData} {E : XK} {Q : VK}
theorem p_settingM {its : Its'} (h : EvP te σ H (FldV K C CE "_settings" its)) (nd : (its.map (·.1)).Nodup) (hd : Ev ty σ H (.str s)) (hs : hasW its (.str s) = true) : EvP (tMeth CE "setting" (spAt K C CE CN "_settings") [] E te (tCons ty tNil)) σ H (ItmV K C (getK its s)) := fun H1 e1 Q q =>
  h H1 e1 _ fun x H2 e2 ⟨a, ex, at_⟩ => by
    obtain ⟨dx, fs, dd, ws, h0, _, _, _, fm⟩ := at_.ex
    exact ⟨a, dx, fs, ex, h0, fm _ (by decide), hd H2 (e1.trans e2) _ fun H3 e3 => ⟨rfl, x, .str s, .str s, its, rfl, ⟨a, ex, at_.up e3⟩, nd, .str s, fun s2 es _ v H4 e4 p => (by cases es; exact q v H4 (e2.trans (e3.trans e4)) p), fun c => (by rw [hs] at c; cases c)⟩⟩
theorem setting_bad (h : EvP te σ H (EndV K C CE e)) (nd : (e.own.map (·.1)).Nodup) (hd : EvP ty σ H (Qe d)) (hs : hasW e.own d = false) (hE : ∀ y o H', Ex H H' → H' o = none → Dq H' y d → E (.ref CN) (some o) (upd H' o (.xd [("value", y)]))) :
    tMeth CE "setting" (spAt K C CE CN "_settings") [] E te (tCons ty tNil) σ H Q := h H (Ex.refl _) _ fun x H2 e2 hx => by
  obtain ⟨a, ex, at_⟩ := end_own hx
  obtain ⟨dx, fs, dd, ws, h0, _, _, _, fm⟩ := at_.ex
  exact ⟨a, dx, fs, ex, h0, fm _ (by decide), hd H2 e2 _ fun y H3 e3 py => ⟨rfl, x, y, d, e.own, rfl, ⟨a, ex, at_.up e3⟩, nd, py, fun s2 es c => (by rw [hs] at c; cases c), fun _ o H4 e4 ho => hE y o H4 (e2.trans (e3.trans e4)) ho (mo_qe _ _ _ e4 py)⟩⟩
theorem p_useM {its : Its'} (h : EvP te σ H (FldV K C CE "_uses" its)) (nd : (its.map (·.1)).Nodup) (hd : Ev ty σ H (.str s)) (hs : hasW its (.str s) = true) : EvP (tMeth CE "use" (spAt K C CE CN "_uses") [] E te (tCons ty tNil)) σ H (ItmV K C (getK its s)) := fun H1 e1 Q q =>
  h H1 e1 _ fun x H2 e2 ⟨a, ex, at_⟩ => by
    obtain ⟨dx, fs, dd, ws, h0, _, _, _, fm⟩ := at_.ex
    exact ⟨a, dx, fs, ex, h0, fm _ (by decide), hd H2 (e1.trans e2) _ fun H3 e3 => ⟨rfl, x, .str s, .str s, its, rfl, ⟨a, ex, at_.up e3⟩, nd, .str s, fun s2 es _ v H4 e4 p => (by cases es; exact q v H4 (e2.trans (e3.trans e4)) p), fun c => (by rw [hs] at c; cases c)⟩⟩
theorem use_bad (h : EvP te σ H (EndV K C CE e)) (nd : (e.uses.map (·.1)).Nodup) (hd : EvP ty σ H (Qe d)) (hs : hasW e.uses d = false) (hE : ∀ y o H', Ex H H' → H' o = none → Dq H' y d → E (.ref CN) (some o) (upd H' o (.xd [("value", y)]))) :
    tMeth CE "use" (spAt K C CE CN "_uses") [] E te (tCons ty tNil) σ H Q := h H (Ex.refl _) _ fun x H2 e2 hx => by
  obtain ⟨a, ex, at_⟩ := end_uses hx
  obtain ⟨dx, fs, dd, ws, h0, _, _, _, fm⟩ := at_.ex
  exact ⟨a, dx, fs, ex, h0, fm _ (by decide), hd H2 e2 _ fun y H3 e3 py => ⟨rfl, x, y, d, e.uses, rfl, ⟨a, ex, at_.up e3⟩, nd, py, fun s2 es c => (by rw [hs] at c; cases c), fun _ o H4 e4 ho => hE y o H4 (e2.trans (e3.trans e4)) ho (mo_qe _ _ _ e4 py)⟩⟩
theorem ev_letsE (h : EvP te σ H (EndV K C CE e)) (N : Neat e) (hd : Ev ty σ H (.str s)) (hs : s ∈ deedsT) (ha : EvP tz σ H (De K a)) (hb : EvP tu σ H (De K b)) : Ev (tMeth CE "lets" (spLetsE K C CE CD) [] E te (tCons ty (tCons tz (tCons tu tNil)))) σ H (.bl (letsE e.rules s a b)) := fun H1 e1 Q q =>
  h H1 e1 _ fun x H2 e2 ⟨ad, ex, at_⟩ => by
    obtain ⟨dx, fs, d1, d2, d3, v1, v2, v3, h0, _, _, _, _, _, _, _, _, _, _, fm⟩ := at_.ex
    refine ⟨ad, dx, fs, ex, h0, fm _ (by decide), hd H2 (e1.trans e2) _ fun H3 e3 => ha H3 (e1.trans (e2.trans e3)) _ fun z H4 e4 pz => hb H4 (e1.trans (e2.trans (e3.trans e4))) _ fun u H5 e5 pu => ⟨rfl, x, .str s, z, u, .str s, a, b, e.rules, rfl, ⟨ad, ex, (at_.up (e3.trans (e4.trans e5))).rul⟩, N.nr, N.rules, .str s, dp_up e5 pz, pu, fun s2 es _ H6 e6 => ?_, fun c => (by rw [deed_in hs] at c; cases c)⟩⟩
    cases es
    exact q H6 (e2.trans (e3.trans (e4.trans (e5.trans e6))))
theorem lets_bad (h : EvP te σ H (EndV K C CE e)) (N : Neat e) (hd : EvP ty σ H (Qe d)) (hs : inT deedsT d = false) (ha : EvP tz σ H (De K a)) (hb : EvP tu σ H (De K b)) (hE : ∀ y o H', Ex H H' → H' o = none → Dq H' y d → E (.ref CD) (some o) (upd H' o (.xd [("value", y)]))) :
    tMeth CE "lets" (spLetsE K C CE CD) [] E te (tCons ty (tCons tz (tCons tu tNil))) σ H Q := h H (Ex.refl _) _ fun x H2 e2 ⟨ad, ex, at_⟩ => by
  obtain ⟨dx, fs, d1, d2, d3, v1, v2, v3, h0, _, _, _, _, _, _, _, _, _, _, fm⟩ := at_.ex
  exact ⟨ad, dx, fs, ex, h0, fm _ (by decide), hd H2 e2 _ fun y H3 e3 py => ha H3 (e2.trans e3) _ fun z H4 e4 pz => hb H4 (e2.trans (e3.trans e4)) _ fun u H5 e5 pu => ⟨rfl, x, y, z, u, d, a, b, e.rules, rfl, ⟨ad, ex, (at_.up (e3.trans (e4.trans e5))).rul⟩, N.nr, N.rules, mo_qe _ _ _ (e4.trans e5) py, dp_up e5 pz, pu, fun s2 es c => (by rw [hs] at c; cases c), fun _ o H6 e6 ho => hE y o H6 (e2.trans (e3.trans (e4.trans (e5.trans e6)))) ho (mo_qe _ _ _ (e4.trans (e5.trans e6)) py)⟩⟩
end
end Chk
set_option maxHeartbeats 2000000
/-! used_words for those that call it. -/
namespace Chk
open PySem PySem.Spec PyProof.Rows L2 Evl Pd Gd Us Wlk
def UsedM (P : Program) (w : World) (K : PySem.W.Frag) (mg : Str → Option Value) (base : Heap) (C CE : Addr) : Prop := ∃ f fd, Meth K CE "used_words" f ∧ L2.Binds K fd ["self"] [] ∧ FnOk P w K mg base CX0 1 f fd ["self"] (spUsedW K C CE)
theorem pe_usedW {X : Cx} {C CE : Addr} {o : Expr} {pos apos : Pos} {ta : TE} {j : Nat} {pl : Sem Bool} (S : UsedM X.prog X.w X.K X.mg X.base C CE) (cl : Cls X.K CE) (hr : Room j X.A) (hk : 1 ≤ j) (ho : PE X o ta)
    (ht : eval (.Call (.Attribute o "used_words" apos) [] [] pos) X.env = (do
      let ov ← eval o X.env
      standAt apos.atName
      let (f, first) ← holding [ov] (getMethod ov "used_words" pl)
      callWith pos f first (backTo pos (starEach [] X.env)) (backToKw pos (keywordEach [] X.env))) := by rfl) :
    PE X (.Call (.Attribute o "used_words" apos) [] [] pos) (tMeth CE "used_words" (spUsedW X.K C CE) [] (fun _ _ _ => False) ta tNil) := by
  obtain ⟨f, fd, M, b, F⟩ := S
  exact pe_meth0 ho cl M F (hr.mono hk) b .nil pass0 ht
theorem p_usedW {K : PySem.W.Frag} {C CE : Addr} {σ : L2.St} {H : Hp} {te : TE} {e : Eg} {E : XK} (h : EvP te σ H (EndV K C CE e)) (sm : Small e.uses) : EvP (tMeth CE "used_words" (spUsedW K C CE) [] E te tNil) σ H (Qe (.list (e.uses.map fun p => keyD p.1))) := fun H1 e1 Q q =>
  h H1 e1 _ fun x H2 e2 ⟨a, ex, at_⟩ => by
    obtain ⟨dx, fs, d1, d2, d3, v1, v2, v3, h0, _, _, _, _, _, _, _, _, _, _, fm⟩ := at_.ex
    exact ⟨a, dx, fs, ex, h0, fm _ (by decide), rfl, a, e, by rw [ex]; rfl, at_, sm, fun y H3 e3 _ p => q y H3 (e2.trans e3) p⟩
theorem ord_get {kvs : Its'} (hn : (kvs.map (·.1)).Nodup) (hr : AllR kvs) {w : Str} {t : Itm} (h : ((.inr w : Key), t) ∈ kvs) : getK (ordI kvs) w = t ∧ hasW (ordI kvs) (.str w) = true := by
  obtain ⟨i, hi, e⟩ := List.getElem_of_mem h
  have e1 : itemAt kvs (.inr w) = t := item_at hn (i := i) (by rw [List.getElem?_eq_getElem hi, e])
  have m : ((.inr w : Key), t) ∈ ordI kvs := (ord_perm hn hr).mem_iff.mpr h
  have n2 : ((ordI kvs).map (·.1)).Nodup := (((ord_perm hn hr).map (·.1)).nodup_iff).mpr hn
  obtain ⟨j, hj, ej⟩ := List.getElem_of_mem m
  refine ⟨item_at n2 (i := j) (by rw [List.getElem?_eq_getElem hj, ej]), ?_⟩
  exact List.any_eq_true.mpr ⟨_, m, by simp⟩
end Chk
set_option maxHeartbeats 4000000
/-! Drawn pairs of numbers. -/
namespace Lw
open PySem PySem.Spec PyProof.Rows L2 Evl Pd Gd Us Chk Wlk
def prI (p : Int × Int) : PyData := pr p.1 p.2
/-- a new pair of numbers -/
def PrV (R : Int → Int → Prop) : PV := fun v H => ∃ (i j : Int) (b : Addr), v = .ref b ∧ H b = some (.tup [.int i, .int j]) ∧ R i j
/-- a list of such pairs -/
def PrsL (n : Nat) (R : Int → Int → Prop) : PV := fun x H => ∃ es : List (Int × Int), (∀ p ∈ es, R p.1 p.2) ∧ es.length ≤ n ∧ Qe (.list (es.map prI)) x H
theorem mo_prsL {n : Nat} {R : Int → Int → Prop} : Mo (PrsL n R) := fun _ _ _ e ⟨es, h1, h2, h3⟩ => ⟨es, h1, h2, mo_qe _ _ _ e h3⟩
/-- .., each once -/
def PrsN (n : Nat) (R : Int → Int → Prop) : PV := fun x H => ∃ es : List (Int × Int), (∀ p ∈ es, R p.1 p.2) ∧ (es.length ≤ n ∧ es.Nodup) ∧ Qe (.list (es.map prI)) x H
theorem mo_prsN {n : Nat} {R : Int → Int → Prop} : Mo (PrsN n R) := fun _ _ _ e ⟨es, h1, h2, h3⟩ => ⟨es, h1, h2, mo_qe _ _ _ e h3⟩
/-- the pairs that stand in a list that is written -/
def PrAll (H : Hp) : List V → List (Int × Int) → Prop
  | [], [] => True
  | v :: vs, p :: ps => (∃ b, v = .ref b ∧ H b = some (.tup [.int p.1, .int p.2])) ∧ PrAll H vs ps
  | _, _ => False
theorem PrAll.dq {H : Hp} : ∀ {vs : List V} {ps : List (Int × Int)}, PrAll H vs ps → DqAll H vs (ps.map prI)
  | [], [], _ => .nil
  | v :: vs, p :: ps, ⟨⟨b, e, h⟩, r⟩ => by
    subst e
    exact .cons (.tup h (.cons (.int _) (.cons (.int _) .nil))) r.dq
theorem PrAll.up {H H' : Hp} (e : ∀ b xs, H b = some (.tup xs) → H' b = some (.tup xs)) : ∀ {vs : List V} {ps : List (Int × Int)}, PrAll H vs ps → PrAll H' vs ps
  | [], [], _ => trivial
  | v :: vs, p :: ps, ⟨⟨b, eb, h⟩, r⟩ => ⟨⟨b, eb, e _ _ h⟩, r.up e⟩
theorem PrAll.snoc {H : Hp} {b : Addr} {i j : Int} (hb : H b = some (.tup [.int i, .int j])) : ∀ {vs : List V} {ps : List (Int × Int)}, PrAll H vs ps → PrAll H (vs ++ [.ref b]) (ps ++ [(i, j)])
  | [], [], _ => ⟨⟨b, rfl, hb⟩, trivial⟩
  | v :: vs, p :: ps, ⟨h, r⟩ => ⟨h, r.snoc hb⟩
theorem PrAll.len {H : Hp} : ∀ {vs : List V} {ps : List (Int × Int)}, PrAll H vs ps → vs.length = ps.length
  | [], [], _ => rfl
  | v :: vs, p :: ps, ⟨_, r⟩ => congrArg Nat.succ r.len
section
variable {K : PySem.W.Frag} {σ : L2.St} {H : Hp} {te : TE} {t : TT}
/-- [(i, j) for target in a walk if ..], whatever the test says -/
theorem p_lcPr {wi : TI} {J : It} {n : Nat} {G : Hp → Prop} {Y : Nat → Hp → V → Hp → Prop} {g : TG} {vs : List Nat} {R : Int → Int → Prop} (w : Walk J n G Y) (hn : n ≤ 40000)
    (hwi : ∀ H1, Ex H H1 → ∀ R : It → Hp → Prop, (∀ H2, Ex H1 H2 → R J H2) → wi σ H1 R) (hG : ∀ H1, Ex H H1 → G H1)
    (step : ∀ (i : Nat) (x : V) (H1 H2 : Hp), i < n → Ex H H1 → Y i H1 x H2 → Ex H1 H2 ∧ ∃ σ2, (∀ k : L2.St → Hp → Prop, k σ2 H2 → g x (wipe σ vs) H2 k) ∧ wipe σ2 vs = wipe σ vs ∧ (∀ Q : Bool → Hp → Prop, (∀ b H3, Ex H2 H3 → Q b H3) → t σ2 H2 Q) ∧ EvP te σ2 H2 (PrV R)) :
    EvP (tLc wi g t te vs) σ H (PrsL n R) := fun H0 e Q q => hwi H0 e _ fun H1 e1 D hD => by
  refine lc_it w (fun i H' => Ex H1 H' ∧ ∃ ys ps, H' D = some (.lst ys) ∧ PrAll H' ys ps ∧ (∀ p ∈ ps, R p.1 p.2) ∧ ps.length ≤ i) ⟨Ex.new hD, [], [], upd_same, trivial, (fun _ h => nomatch h), Nat.le_refl _⟩ (fun i H' _ p => hG H' ((e.trans e1).trans p.1)) (fun i x H2 H3 hi p y => ?_) fun H' p => ?_
  · obtain ⟨ex, ys, ps, hy, al, hr, hl⟩ := p
    obtain ⟨e3, σ2, gk, hw, ht, he⟩ := step i x H2 H3 hi ((e.trans e1).trans ex) y
    refine gk _ ⟨hw, ht _ fun b H4 e4 => ?_⟩
    cases b with
    | false =>
      simp only [Bool.false_eq_true, if_false]
      exact ⟨ex.trans (e3.trans e4), ys, ps, (e3.trans e4) _ _ hy, al.up fun b xs h => (e3.trans e4) _ _ h, hr, by omega⟩
    | true =>
      simp only [if_true]
      refine he H4 e4 _ fun v H5 e5 ⟨a, c, b, ev, hb, hrab⟩ => ?_
      subst ev
      have e35 := e3.trans (e4.trans e5)
      have hy5 := e35 _ _ hy
      have nb : ∀ {z : Addr} {xs : List V}, H5 z = some (.tup xs) → (upd H5 D (.lst (ys ++ [.ref b]))) z = some (.tup xs) := fun {z xs} h => by
        rw [upd_ne (fun q => by rw [q, hy5] at h; cases h)]
        exact h
      refine ⟨ys, hy5, sz_lt (by rw [al.len]; omega), (ex.trans e35).mut hD, ys ++ [.ref b], ps ++ [(a, c)], upd_same, ((al.up fun b xs h => e35 _ _ h).up fun z xs h => nb h).snoc (nb hb), fun p hp => ?_, by simp; omega⟩
      rcases List.mem_append.mp hp with h | h
      · exact hr p h
      · rw [List.mem_singleton.mp h]
        exact hrab
  · obtain ⟨ex, ys, ps, hy, al, hr, hl⟩ := p
    exact q (.ref D) H' (e1.trans ex) ⟨ps, hr, hl, .lst (by rw [al.len]; omega) hy al.dq⟩
/-- [p(i) for i in a walk if ..], whatever the test says -/
theorem p_lcPx {wi : TI} {J : It} {n : Nat} {G : Hp → Prop} {Y : Nat → Hp → V → Hp → Prop} {g : TG} {vs : List Nat} {R : Int → Int → Prop} (p0 : Nat → Int × Int) (inj : ∀ i j, i < n → j < n → p0 i = p0 j → i = j) (hR : ∀ i, i < n → R (p0 i).1 (p0 i).2) (w : Walk J n G Y) (hn : n ≤ 40000)
    (hwi : ∀ H1, Ex H H1 → ∀ R : It → Hp → Prop, (∀ H2, Ex H1 H2 → R J H2) → wi σ H1 R) (hG : ∀ H1, Ex H H1 → G H1)
    (step : ∀ (i : Nat) (x : V) (H1 H2 : Hp), i < n → Ex H H1 → Y i H1 x H2 → Ex H1 H2 ∧ ∃ σ2, (∀ k : L2.St → Hp → Prop, k σ2 H2 → g x (wipe σ vs) H2 k) ∧ wipe σ2 vs = wipe σ vs ∧ (∀ Q : Bool → Hp → Prop, (∀ b H3, Ex H2 H3 → Q b H3) → t σ2 H2 Q) ∧ EvP te σ2 H2 (PrV fun a c => (a, c) = p0 i)) :
    EvP (tLc wi g t te vs) σ H (PrsN n R) := fun H0 e Q q => hwi H0 e _ fun H1 e1 D hD => by
  refine lc_it w (fun i H' => Ex H1 H' ∧ ∃ ys ps, H' D = some (.lst ys) ∧ PrAll H' ys ps ∧ ps.Sublist ((List.range i).map p0)) ⟨Ex.new hD, [], [], upd_same, trivial, List.Sublist.refl _⟩ (fun i H' _ p => hG H' ((e.trans e1).trans p.1)) (fun i x H2 H3 hi p y => ?_) fun H' p => ?_
  · obtain ⟨ex, ys, ps, hy, al, hr⟩ := p
    have hl : ps.length ≤ i := by
      have := hr.length_le
      rwa [List.length_map, List.length_range] at this
    have sp : (List.range (i + 1)).map p0 = (List.range i).map p0 ++ [p0 i] := by rw [List.range_succ, List.map_append]; rfl
    obtain ⟨e3, σ2, gk, hw, ht, he⟩ := step i x H2 H3 hi ((e.trans e1).trans ex) y
    refine gk _ ⟨hw, ht _ fun b H4 e4 => ?_⟩
    cases b with
    | false =>
      simp only [Bool.false_eq_true, if_false]
      exact ⟨ex.trans (e3.trans e4), ys, ps, (e3.trans e4) _ _ hy, al.up fun b xs h => (e3.trans e4) _ _ h, by rw [sp]; exact hr.trans (List.sublist_append_left _ _)⟩
    | true =>
      simp only [if_true]
      refine he H4 e4 _ fun v H5 e5 ⟨a, c, b, ev, hb, hrab⟩ => ?_
      subst ev
      have e35 := e3.trans (e4.trans e5)
      have hy5 := e35 _ _ hy
      have nb : ∀ {z : Addr} {xs : List V}, H5 z = some (.tup xs) → (upd H5 D (.lst (ys ++ [.ref b]))) z = some (.tup xs) := fun {z xs} h => by
        rw [upd_ne (fun q => by rw [q, hy5] at h; cases h)]
        exact h
      refine ⟨ys, hy5, sz_lt (by rw [al.len]; omega), (ex.trans e35).mut hD, ys ++ [.ref b], ps ++ [(a, c)], upd_same, ((al.up fun b xs h => e35 _ _ h).up fun z xs h => nb h).snoc (nb hb), ?_⟩
      rw [sp, ← hrab]
      exact hr.append (List.Sublist.refl _)
  · obtain ⟨ex, ys, ps, hy, al, hr⟩ := p
    have hl : ps.length ≤ n := by
      have := hr.length_le
      rwa [List.length_map, List.length_range] at this
    refine q (.ref D) H' (e1.trans ex) ⟨ps, fun p hp => ?_, ⟨hl, ?_⟩, .lst (by rw [al.len]; omega) hy al.dq⟩
    · obtain ⟨i, hi, rfl⟩ := List.mem_map.mp (hr.subset hp)
      exact hR i (List.mem_range.mp hi)
    · refine List.Nodup.sublist hr ?_
      refine List.pairwise_map.mpr (List.Pairwise.imp_of_mem (R := fun a b => a < b) (fun {a b} ha hb hab z => ?_) List.pairwise_lt_range)
      have := inj a b (List.mem_range.mp ha) (List.mem_range.mp hb) z
      omega
/-- (i, j) -/
theorem p_pr {ta tb : TE} {P1 P2 : Int → Prop} (h1 : EvP ta σ H (fun x _ => ∃ i, x = .int i ∧ P1 i)) (h2 : EvP tb σ H (fun x _ => ∃ i, x = .int i ∧ P2 i)) : EvP (tTup (tCons ta (tCons tb tNil))) σ H (PrV fun i j => P1 i ∧ P2 j) := fun H1 e Q q =>
  h1 H1 e _ fun x H2 e2 ⟨i, ei, p1⟩ => h2 H2 (e.trans e2) _ fun y H3 e3 ⟨j, ej, p2⟩ => ⟨show 2 ≤ sizeLine from by decide, fun p hp => q _ _ (e2.trans (e3.trans (Ex.new hp))) ⟨i, j, p, rfl, by rw [upd_same, ei, ej], p1, p2⟩⟩
/-- draw > 0: any answer -/
theorem t_draw {ta tb : TE} {m : Int} {E : XK} (h1 : EvP ta σ H (PoolV K)) (h2 : Ev tb σ H (.int m)) (hm : 0 < m) (Q : Bool → Hp → Prop) (q : ∀ b H3, Ex H H3 → Q b H3) : tTest (tOp (rI0 fun i j => .bl (decide (i > j))) (tCall (spDraw K) [] E (tCons ta (tCons tb tNil))) (tC (.int 0))) σ H Q :=
  p_draw h1 h2 hm H (Ex.refl _) _ fun u H3 e3 ⟨n, hn, _⟩ => ⟨n, 0, hn, rfl, _, rfl, q _ H3 e3⟩
end
def spSome (K : PySem.W.Frag) : Sp := fun vs H Q _ => vs.length = 1 ∧ ∃ x, vs = [x] ∧ PoolV K x H ∧ ∀ y H', Ex H H' → PrsN 9 (fun i j => (0 ≤ i ∧ i ≤ 2) ∧ 0 ≤ j ∧ j ≤ 2) y H' → Q y H'
theorem rng_wi {σ : L2.St} {H : Hp} {ta : TA} {n : Int} (h : EvA ta σ H [.int n]) (h0 : 0 ≤ n ∧ n ≤ 40000) : ∀ H1, Ex H H1 → ∀ R : It → Hp → Prop, (∀ H2, Ex H1 H2 → R (Itr 0 n.toNat) H2) → iRng1 ta σ H1 R := fun H1 e R r => h H1 e _ fun H2 e2 => ⟨n, rfl, by omega, by omega, r H2 e2⟩
section
variable {P : Program} {w : World} {K : PySem.W.Frag} {mg : Str → Option Value} {base : Heap}
end
end Lw
set_option maxHeartbeats 4000000
/-! A drawn end, as the law writes it down. -/
namespace Lw
open PySem PySem.Spec PyProof.Rows L2 Evl Pd Gd Us Chk Wlk
structure Ds where
  so : Str
  n : Int
  k : Int
  es : List PyData
  h : Str
structure GoodD (d : Ds) : Prop where
  so : d.so ∈ sorts
  n : d.n = 2 ∨ d.n = 3
  k : 0 ≤ d.k ∧ d.k < d.n
  es : d.es.Sublist (chBase d.n)
  h : d.h ∈ holdsOf d.so
def ptsD (d : Ds) : Pts := ⟨.str d.so, .int d.n, .int d.k, .list d.es, .str d.h⟩
def SetSp (at_ : AtP) (d : Ds) : PV := fun x H => ∃ q l, x = .ref q ∧ at_ H q (.dK (drawnK d.so d.n d.k l d.h)) ∧ Dq H l (.list d.es)
/-- .., not one of these -/
def SpF (F : List Addr) (d : Ds) : PV := fun x H => ∃ q l, x = .ref q ∧ q ∉ F ∧ H q = some (.dK (drawnK d.so d.n d.k l d.h)) ∧ Dq H l (.list d.es)
structure Es where
  own : List (Str × Ds)
  uses : List (Str × Str)
  rules : List (Str × List (Int × Int))
  most : Int
def usesIt (u : List (Str × Str)) : Its' := u.map fun p => (.inr p.1, .d (.str p.2))
def rulesIt (r : List (Str × List (Int × Int))) : Its' := r.map fun p => (.inr p.1, .d (.list (p.2.map prI)))
structure SIt (Pq : Ds → PV) (own : List (Str × Ds)) (vs : List (Key × V)) (H : Hp) : Prop where
  len : vs.length = own.length
  at_ : ∀ (i : Nat) (w : Str) (d : Ds), own[i]? = some (w, d) → ∃ v, vs[i]? = some (.inr w, v) ∧ Pq d v H
theorem SIt.imp {Pq Pq' : Ds → PV} {own : List (Str × Ds)} {vs : List (Key × V)} {H H' : Hp} (h : SIt Pq own vs H) (k : ∀ d v, Pq d v H → Pq' d v H') : SIt Pq' own vs H' := ⟨h.len, fun i w d hi => let ⟨v, h1, h2⟩ := h.at_ i w d hi; ⟨v, h1, k d v h2⟩⟩
def endKs (ds du dr : Addr) (m : Int) : List (Key × V) := [(.inr "settings", .ref ds), (.inr "uses", .ref du), (.inr "rules", .ref dr), (.inr "most", .int m)]
/-- an end that is written down -/
structure EndAtS (at_ : AtP) (K : PySem.W.Frag) (s : Es) (p ds du dr : Addr) (H : Hp) : Prop where
  ex : ∃ vs us rs, at_ H p (.dK (endKs ds du dr s.most)) ∧ at_ H ds (.dK vs) ∧ at_ H du (.dK us) ∧ at_ H dr (.dK rs) ∧ SIt (SetSp at_) s.own vs H ∧ ItemsV K 0 (usesIt s.uses) us H ∧ ItemsV K 0 (rulesIt s.rules) rs H
def EndSp (at_ : AtP) (K : PySem.W.Frag) (s : Es) : PV := fun x H => ∃ p ds du dr, x = .ref p ∧ EndAtS at_ K s p ds du dr H
/-- .., made behind H0 -/
def EndSpN (K : PySem.W.Frag) (H0 : Hp) (s : Es) : PV := fun x H => ∃ p ds du dr, x = .ref p ∧ EndAtS Sr K s p ds du dr H ∧ H0 ds = none ∧ H0 du = none ∧ H0 dr = none
structure GoodE (ws os : List Str) (s : Es) : Prop where
  own : s.own.map (·.1) = ws
  ds : ∀ p ∈ s.own, GoodD p.2
  room : (s.own.filter fun p => decide (p.2.so = ("room" : Str))).length ≤ 1
  uses : s.uses.map (·.1) = os
  us : ∀ p ∈ s.uses, p.2 ∈ usesT
  deeds : (s.rules.map (·.1)).Sublist deedsT
  rules : ∀ p ∈ s.rules, ∀ q ∈ p.2, (0 ≤ q.1 ∧ q.1 ≤ 3) ∧ 0 ≤ q.2 ∧ q.2 ≤ 3
  few : ∀ p ∈ s.rules, p.2.length ≤ 9 ∧ p.2.Nodup
  most : s.most = 1 ∨ s.most = 2
section
variable {K : PySem.W.Frag} {H H' : Hp} {s : Es} {F : List Addr}
theorem mo_setSp {d : Ds} : Mo (SetSp Sr d) := fun _ _ _ e ⟨q, l, h1, h2, h3⟩ => ⟨q, l, h1, e _ _ h2, dq_up e h3⟩
theorem mo_setSpR {d : Ds} : Mo (SetSp Rd d) := fun _ _ _ e ⟨q, l, h1, h2, h3⟩ => ⟨q, l, h1, ex_rd e h2, dq_up e h3⟩
theorem mo_spF {d : Ds} : Mo (SpF F d) := fun _ _ _ e ⟨q, l, h1, h2, h3, h4⟩ => ⟨q, l, h1, h2, e _ _ h3, dq_up e h4⟩
theorem lk_setSp {d : Ds} : Lk (SetSp Rd d) := fun _ _ _ _ _ hd ⟨q, l, h1, h2, h3⟩ => ⟨q, l, h1, rd_lock hd h2 (fun _ _ z => nomatch z), lk_qe _ _ _ _ _ hd h3⟩
theorem EndAtS.up {p ds du dr : Addr} (h : EndAtS Sr K s p ds du dr H) (e : Ex H H') : EndAtS Sr K s p ds du dr H' := by
  obtain ⟨vs, us, rs, h1, h2, h3, h4, h5, h6, h7⟩ := h.ex
  exact ⟨vs, us, rs, e _ _ h1, e _ _ h2, e _ _ h3, e _ _ h4, h5.imp fun d v z => mo_setSp _ _ _ e z, h6.up e, h7.up e⟩
theorem EndAtS.upR {p ds du dr : Addr} (h : EndAtS Rd K s p ds du dr H) (e : Ex H H') : EndAtS Rd K s p ds du dr H' := by
  obtain ⟨vs, us, rs, h1, h2, h3, h4, h5, h6, h7⟩ := h.ex
  exact ⟨vs, us, rs, ex_rd e h1, ex_rd e h2, ex_rd e h3, ex_rd e h4, h5.imp fun d v z => mo_setSpR _ _ _ e z, h6.up e, h7.up e⟩
theorem EndAtS.rd {p ds du dr : Addr} (h : EndAtS Sr K s p ds du dr H) : EndAtS Rd K s p ds du dr H := by
  obtain ⟨vs, us, rs, h1, h2, h3, h4, h5, h6, h7⟩ := h.ex
  exact ⟨vs, us, rs, .inl h1, .inl h2, .inl h3, .inl h4, h5.imp fun d v ⟨q, l, z1, z2, z3⟩ => ⟨q, l, z1, .inl z2, z3⟩, h6, h7⟩
theorem EndAtS.lock {p ds du dr d : Addr} {kvs : List (Key × V)} {od : Obj} (h : EndAtS Rd K s p ds du dr H) (hd : H d = some (.dK kvs)) : EndAtS Rd K s p ds du dr (lk H d od kvs) := by
  obtain ⟨vs, us, rs, h1, h2, h3, h4, h5, h6, h7⟩ := h.ex
  have nf : ∀ (o' : Obj) (u' : HO), HO.dK kvs ≠ .frz o' u' := fun _ _ z => nomatch z
  exact ⟨vs, us, rs, rd_lock hd h1 nf, rd_lock hd h2 nf, rd_lock hd h3 nf, rd_lock hd h4 nf, h5.imp fun d v z => lk_setSp _ _ _ _ _ hd z, h6.lock hd, h7.lock hd⟩
theorem mo_endSp : Mo (EndSp Sr K s) := fun _ _ _ e ⟨p, ds, du, dr, h1, h2⟩ => ⟨p, ds, du, dr, h1, h2.up e⟩
theorem mo_endSpR : Mo (EndSp Rd K s) := fun _ _ _ e ⟨p, ds, du, dr, h1, h2⟩ => ⟨p, ds, du, dr, h1, h2.upR e⟩
theorem mo_endSpN {H0 : Hp} : Mo (EndSpN K H0 s) := fun _ _ _ e ⟨p, ds, du, dr, h1, h2, h3⟩ => ⟨p, ds, du, dr, h1, h2.up e, h3⟩
end
/-! ### while it is written -/
structure Bld (K : PySem.W.Frag) (p ds du dr : Addr) (m : Int) (own : List (Str × Ds)) (us : List (Str × Str)) (rs : List (Str × List (Int × Int))) (H : Hp) : Prop where
  ex : ∃ v1 v2 v3, H p = some (.dK (endKs ds du dr m)) ∧ H ds = some (.dK v1) ∧ H du = some (.dK v2) ∧ H dr = some (.dK v3) ∧ SIt (SpF [p, ds, du, dr]) own v1 H ∧ ItemsV K 0 (usesIt us) v2 H ∧ ItemsV K 0 (rulesIt rs) v3 H
  ne : ds ≠ p ∧ du ≠ p ∧ dr ≠ p ∧ du ≠ ds ∧ dr ≠ ds ∧ dr ≠ du
section
variable {K : PySem.W.Frag} {H H' : Hp} {p ds du dr : Addr} {m : Int} {own : List (Str × Ds)} {us : List (Str × Str)} {rs : List (Str × List (Int × Int))}
theorem Bld.up (h : Bld K p ds du dr m own us rs H) (e : Ex H H') : Bld K p ds du dr m own us rs H' := by
  obtain ⟨v1, v2, v3, h1, h2, h3, h4, h5, h6, h7⟩ := h.ex
  exact ⟨⟨v1, v2, v3, e _ _ h1, e _ _ h2, e _ _ h3, e _ _ h4, h5.imp fun d v z => mo_spF _ _ _ e z, h6.up e, h7.up e⟩, h.ne⟩
theorem spF_put {d : Ds} {v : V} {F : List Addr} {D : Addr} {ks ls : List (Key × V)} (hD : D ∈ F) (hd : H D = some (.dK ks)) (h : SpF F d v H) : SpF F d v (upd H D (.dK ls)) := by
  obtain ⟨q, l, h1, h2, h3, h4⟩ := h
  exact ⟨q, l, h1, h2, by rw [upd_ne (fun z => h2 (by rw [z]; exact hD))]; exact h3, dw_qe (d := .list d.es) _ _ _ _ _ hd h4⟩
theorem SIt.snoc {Pq : Ds → PV} {vs : List (Key × V)} {w : Str} {d : Ds} {v : V} (h : SIt Pq own vs H) (hv : Pq d v H) : SIt Pq (own ++ [(w, d)]) (vs ++ [(.inr w, v)]) H := ⟨by simp [h.len], fun i w2 d2 hi => by
  rcases Nat.lt_or_ge i own.length with c | c
  · rw [List.getElem?_append_left c] at hi
    obtain ⟨u, h1, h2⟩ := h.at_ i w2 d2 hi
    exact ⟨u, by rw [List.getElem?_append_left (by rw [h.len]; exact c)]; exact h1, h2⟩
  · rw [List.getElem?_append_right c] at hi
    have e : i - own.length = 0 := by
      have := (List.getElem?_eq_some_iff.mp hi).1
      simp at this
      omega
    rw [e] at hi
    cases hi
    exact ⟨v, by rw [List.getElem?_append_right (by rw [h.len]; exact c), h.len, e]; rfl, hv⟩⟩
theorem SIt.keys {Pq : Ds → PV} {vs : List (Key × V)} (h : SIt Pq own vs H) : vs.map (·.1) = own.map fun p => (.inr p.1 : Key) := by
  refine List.ext_getElem? fun i => ?_
  rw [List.getElem?_map, List.getElem?_map]
  cases e : own[i]? with
  | some p =>
    obtain ⟨v, h1, _⟩ := h.at_ i p.1 p.2 e
    rw [h1]
    rfl
  | none =>
    have : vs[i]? = none := by
      rw [List.getElem?_eq_none_iff] at e ⊢
      rw [h.len]
      exact e
    rw [this]
    rfl
theorem valV_no {vs : List (Key × V)} {k : Key} (h : k ∉ vs.map (·.1)) : valV vs k = none := by
  cases ev : valV vs k with
  | none => rfl
  | some v =>
    exfalso
    have a : (vs.any fun kv => decide (kv.1 = k)) = true := by rw [valV_any, ev]; rfl
    obtain ⟨q, hq, ek⟩ := List.any_eq_true.mp a
    exact h (List.mem_map.mpr ⟨q, hq, of_decide_eq_true ek⟩)
theorem SIt.from {Pq : Ds → PV} {vs : List (Key × V)} {i : Nat} {k : Key} {v : V} (h : SIt Pq own vs H) (hi : vs[i]? = some (k, v)) : ∃ w d, k = .inr w ∧ own[i]? = some (w, d) ∧ Pq d v H := by
  have lt : i < own.length := by rw [← h.len]; exact (List.getElem?_eq_some_iff.mp hi).1
  obtain ⟨w, d, e⟩ : ∃ w d, own[i] = (w, d) := ⟨_, _, rfl⟩
  have e' : own[i]? = some (w, d) := by rw [List.getElem?_eq_getElem lt, e]
  obtain ⟨v2, h1, h2⟩ := h.at_ i w d e'
  rw [hi] at h1
  cases h1
  exact ⟨w, d, rfl, e', h2⟩
end
theorem ev_subS {σ : L2.St} {H : Hp} {p ds du dr : Addr} {m : Int} (h : σ[3]? = some (some (.ref p))) (hp : Rd H p (.dK (endKs ds du dr m))) : Ev (tDGet (tVar 3) (tC (.str "settings"))) σ H (.ref ds) := (p_dget (k := .inr "settings") (ev_var h) ev_c hp rfl mo_is rfl).ev
theorem ev_subU {σ : L2.St} {H : Hp} {p ds du dr : Addr} {m : Int} (h : σ[3]? = some (some (.ref p))) (hp : Rd H p (.dK (endKs ds du dr m))) : Ev (tDGet (tVar 3) (tC (.str "uses"))) σ H (.ref du) := (p_dget (k := .inr "uses") (ev_var h) ev_c hp rfl mo_is rfl).ev
theorem ev_subR {σ : L2.St} {H : Hp} {p ds du dr : Addr} {m : Int} (h : σ[3]? = some (some (.ref p))) (hp : Rd H p (.dK (endKs ds du dr m))) : Ev (tDGet (tVar 3) (tC (.str "rules"))) σ H (.ref dr) := (p_dget (k := .inr "rules") (ev_var h) ev_c hp rfl mo_is rfl).ev
/-- d[k] = v, k new -/
theorem s_dputNew {σ : L2.St} {H : Hp} {td ty tv : TE} {D : Ends} {P : PV} {d : Addr} {vs : List (Key × V)} {k : Key} (hv : EvP tv σ H P) (hd : Ev td σ H (.ref d)) (hk : Ev ty σ H (kV k)) (h : H d = some (.dK vs)) (lv : vs.length ≤ 1000) (no : k ∉ vs.map (·.1)) (kk : ∀ v H1, Ex H H1 → P v H1 → ∀ H2, Ex H1 H2 → H2 d = some (.dK vs) → D.nx σ (upd H2 d (.dK (vs ++ [(k, v)])))) : sDPut td ty tv D σ H :=
  hv H (Ex.refl _) _ fun v H1 e1 pv => hd H1 e1 _ fun H2 e2 => hk H2 (e1.trans e2) _ fun H3 e3 => ⟨d, _, rfl, DPut.k ((e1.trans (e2.trans e3)) _ _ h) (sz_lt (by omega)), by
    rw [putK_new v (valV_no no)]
    exact kk v H1 e1 pv H3 (e2.trans e3) ((e1.trans (e2.trans e3)) _ _ h)⟩
theorem given_nil {n : Nat} {f : Nat → Bool} {v : Nat → V} (h : given n f v = []) {i : Nat} (hi : i < n) : f i = false := by
  unfold given at h
  have := List.map_eq_nil_iff.mp h
  rw [List.filter_eq_nil_iff] at this
  simpa using this i (List.mem_range.mpr hi)
theorem strs_of {H : Hp} : ∀ {xs : List V} {ws : List Str}, DqAll H xs (ws.map PyData.str) → xs = ws.map V.str
  | [], [], _ => rfl
  | x :: xs, w :: ws, .cons h t => by
    cases h
    rw [strs_of t]
    rfl
  | [], _ :: _, h => by cases h
  | _ :: _, [], h => by cases h
abbrev nEnd : List Str := ["pool", "words", "others", "end", "word", "sort", "other", "deed", "way", "some", "k"]
def spEnd (K : PySem.W.Frag) : Sp := fun vs H Q _ => vs.length = 3 ∧ ∃ x y z ws os, vs = [x, y, z] ∧ PoolV K x H ∧ Dq H y (.list (ws.map PyData.str)) ∧ Dq H z (.list (os.map PyData.str)) ∧ ws.Nodup ∧ os.Nodup ∧ ws.length ≤ 2 ∧ os.length ≤ 2 ∧ ∀ r H' s, Ex H H' → GoodE ws os s → EndSpN K H s r H' → Q r H'
section
variable {P : Program} {w : World} {K : PySem.W.Frag} {mg : Str → Option Value} {base : Heap}
end
end Lw
set_option maxHeartbeats 4000000
/-! A drawn pact, as the law writes it down. -/
namespace Lw
open PySem PySem.Spec PyProof.Rows L2 Evl Pd Gd Us Chk Wlk
def pactKs (a b : Addr) : List (Key × V) := [(.inr "left", .ref a), (.inr "right", .ref b)]
def PactSp (at_ : AtP) (K : PySem.W.Frag) (l r : Es) : PV := fun x H => ∃ p a b, x = .ref p ∧ at_ H p (.dK (pactKs a b)) ∧ EndSp at_ K l (.ref a) H ∧ EndSp at_ K r (.ref b) H
theorem mo_pactSp {K : PySem.W.Frag} {l r : Es} : Mo (PactSp Sr K l r) := fun _ _ _ e ⟨p, a, b, h1, h2, h3, h4⟩ => ⟨p, a, b, h1, e _ _ h2, mo_endSp _ _ _ e h3, mo_endSp _ _ _ e h4⟩
/-- the words of both ends, as they are drawn -/
def wordsT : List (List Str × List Str) := [(["a"], []), (["a"], ["b"]), (["abcdefgh"], []), ([], ["m"]), (["b", "a"], []), (["x"], ["c"])]
def wordsD : List PyData := wordsT.map fun p => .list [.list (p.1.map PyData.str), .list (p.2.map PyData.str)]
def GoodP (l r : Es) : Prop := ∃ p ∈ wordsT, GoodE p.1 p.2 l ∧ GoodE p.2 p.1 r
def spPact (K : PySem.W.Frag) : Sp := fun vs H Q _ => vs.length = 1 ∧ ∃ x, vs = [x] ∧ PoolV K x H ∧ ∀ r H' l r', Ex H H' → GoodP l r' → PactSp Sr K l r' r H' → Q r H'
theorem p_strs {σ : L2.St} {H : Hp} : EvP (tLst tNil) σ H (Qe (.list [])) := q_lst (ds := []) ps_nil
theorem p_str1 {σ : L2.St} {H : Hp} {a : Str} : EvP (tLst (tCons (tC (.str a)) tNil)) σ H (Qe (.list [.str a])) := q_lst (ds := [.str a]) (ps_cons mo_qe q_str ps_nil)
theorem p_str2 {σ : L2.St} {H : Hp} {a b : Str} : EvP (tLst (tCons (tC (.str a)) (tCons (tC (.str b)) tNil))) σ H (Qe (.list [.str a, .str b])) := q_lst (ds := [.str a, .str b]) (ps_cons mo_qe q_str (ps_cons mo_qe q_str ps_nil))
theorem p_two {σ : L2.St} {H : Hp} {ta tb : TE} {d e : PyData} (h1 : EvP ta σ H (Qe d)) (h2 : EvP tb σ H (Qe e)) : EvP (tLst (tCons ta (tCons tb tNil))) σ H (Qe (.list [d, e])) := q_lst (ds := [d, e]) (ps_cons mo_qe h1 (ps_cons mo_qe h2 ps_nil))
/-- a dict that is written leaves an end that was made behind it -/
theorem endN_put {K : PySem.W.Frag} {H0 H : Hp} {s : Es} {v : V} {D : Addr} {ls : List (Key × V)} (h : EndSpN K H0 s v H) (h0 : H0 D ≠ none) (hd : H D = some (.dK [])) : EndSp Sr K s v (upd H D (.dK ls)) := by
  obtain ⟨p, ds, du, dr, rfl, ⟨vs, us, rs, p1, p2, p3, p4, p5, p6, p7⟩, n1, n2, n3⟩ := h
  have off : ∀ {b : Addr} {kk : List (Key × V)}, H b = some (.dK kk) → 0 < kk.length → b ≠ D := fun {b kk} hb hl z => by
    rw [z, hd] at hb
    injection hb with hb
    injection hb with hb
    rw [← hb] at hl
    exact absurd hl (by decide)
  have offN : ∀ {b : Addr}, H0 b = none → b ≠ D := fun hb z => h0 (by rw [← z]; exact hb)
  refine ⟨p, ds, du, dr, rfl, vs, us, rs, ?_, ?_, ?_, ?_, p5.imp fun d v ⟨q, l, e, z1, z2⟩ => ⟨q, l, e, ?_, dw_qe (d := .list d.es) _ _ _ _ _ hd z2⟩, p6.put hd, p7.put hd⟩
  · show (upd H D (.dK ls)) p = _
    rw [upd_ne (off p1 (by show 0 < 4; decide))]; exact p1
  · show (upd H D (.dK ls)) ds = _
    rw [upd_ne (offN n1)]; exact p2
  · show (upd H D (.dK ls)) du = _
    rw [upd_ne (offN n2)]; exact p3
  · show (upd H D (.dK ls)) dr = _
    rw [upd_ne (offN n3)]; exact p4
  · show (upd H D (.dK ls)) q = _
    rw [upd_ne (off z1 (by show 0 < 5; decide))]; exact z1
section
variable {P : Program} {w : World} {K : PySem.W.Frag} {mg : Str → Option Value} {base : Heap}
theorem p_endSp {σ : L2.St} {H : Hp} {ta tb tc : TE} {ws os : List Str} {E : XK} (h1 : EvP ta σ H (PoolV K)) (h2 : EvP tb σ H (Qe (.list (ws.map PyData.str)))) (h3 : EvP tc σ H (Qe (.list (os.map PyData.str)))) (nw : ws.Nodup) (no : os.Nodup) (lw : ws.length ≤ 2) (lo : os.length ≤ 2) :
    EvP (tCall (spEnd K) [] E (tCons ta (tCons tb (tCons tc tNil)))) σ H (fun r H' => ∃ s, GoodE ws os s ∧ EndSpN K H s r H') := fun H1 e1 Q q =>
  h1 H1 e1 _ fun x H2 e2 px => h2 H2 (e1.trans e2) _ fun y H3 e3 py => h3 H3 (e1.trans (e2.trans e3)) _ fun z H4 e4 pz => ⟨rfl, x, y, z, ws, os, rfl, mo_pool _ _ _ (e3.trans e4) px, mo_qe _ _ _ e4 py, pz, nw, no, lw, lo, fun r H5 s e5 g p => q r H5 (e2.trans (e3.trans (e4.trans e5))) ⟨s, g, by
    obtain ⟨p, ds, du, dr, e, h, n1, n2, n3⟩ := p
    have fb := fun {b : Addr} (hb : H4 b = none) => fresh_back (e1.trans (e2.trans (e3.trans e4))) hb
    exact ⟨p, ds, du, dr, e, h, fb n1, fb n2, fb n3⟩⟩⟩
end
end Lw
set_option maxHeartbeats 4000000
/-! Lists of pairs that become dicts; facts of an end that is written down. -/
namespace Lw
open PySem PySem.Spec PyProof.Rows L2 Evl Pd Gd Us Chk Wlk
abbrev TupAll (H : Hp) : List Addr → List (Key × V) → Prop := Paired fun p kv => H p = some (.tup [kV kv.1, kv.2])
theorem tup_up {H H' : Hp} (e : ∀ b xs, H b = some (.tup xs) → H' b = some (.tup xs)) {ps : List Addr} {kvs : List (Key × V)} (h : TupAll H ps kvs) : TupAll H' ps kvs := by
  induction h with
  | nil => exact .nil
  | cons a t ih => exact .cons (e _ _ a) ih
theorem tup_len {H : Hp} {ps : List Addr} {kvs : List (Key × V)} (h : TupAll H ps kvs) : ps.length = kvs.length := Paired.length h
section
variable {K : PySem.W.Frag} {σ : L2.St} {H : Hp} {te : TE}
/-- [(k, v) for target in a walk] -/
theorem p_lcKV {wi : TI} {J : It} {n : Nat} {G : Hp → Prop} {Y : Nat → Hp → V → Hp → Prop} {g : TG} {vs : List Nat} (kf : Nat → Key) (Pf : Addr → Nat → PV) (hm : ∀ D i, Mo (Pf D i)) (hw : ∀ D i v H ys ys', H D = some (.lst ys) → Pf D i v H → Pf D i v (upd H D (.lst ys'))) (w : Walk J n G Y) (hn : n ≤ 40000)
    (hwi : ∀ H1, Ex H H1 → ∀ R : It → Hp → Prop, (∀ H2, Ex H1 H2 → R J H2) → wi σ H1 R) (hG : ∀ H1, Ex H H1 → G H1)
    (step : ∀ (D : Addr) (i : Nat) (x : V) (H1 H2 : Hp), i < n → Ex H H1 → (∃ ys, H1 D = some (.lst ys)) → Y i H1 x H2 → Ex H1 H2 ∧ ∃ σ2, (∀ k : L2.St → Hp → Prop, k σ2 H2 → g x (wipe σ vs) H2 k) ∧ wipe σ2 vs = wipe σ vs ∧ EvP te σ2 H2 (fun y H3 => ∃ b v, y = .ref b ∧ H3 b = some (.tup [kV (kf i), v]) ∧ Pf D i v H3)) :
    EvP (tLc wi g tYes te vs) σ H (fun x H' => ∃ D ps kvs, x = .ref D ∧ H' D = some (.lst (ps.map V.ref)) ∧ TupAll H' ps kvs ∧ kvs.length = n ∧ ∀ i, i < n → ∃ v, kvs[i]? = some (kf i, v) ∧ Pf D i v H') := fun H0 e Q q => hwi H0 e _ fun H1 e1 D hD => by
  refine lc_it w (fun i H' => Ex H1 H' ∧ ∃ ps kvs, H' D = some (.lst (ps.map V.ref)) ∧ TupAll H' ps kvs ∧ kvs.length = i ∧ ∀ j, j < i → ∃ v, kvs[j]? = some (kf j, v) ∧ Pf D j v H') ⟨Ex.new hD, [], [], upd_same, .nil, rfl, fun j hj => by omega⟩ (fun i H' _ p => hG H' ((e.trans e1).trans p.1)) (fun i x H2 H3 hi p y => ?_) fun H' p => ?_
  · obtain ⟨ex, ps, kvs, hy, al, hl, hf⟩ := p
    obtain ⟨e3, σ2, gk, hwp, he⟩ := step D i x H2 H3 hi ((e.trans e1).trans ex) ⟨_, hy⟩ y
    refine gk _ ⟨hwp, ?_⟩
    unfold tYes
    simp only [if_true]
    refine he H3 (Ex.refl _) _ fun u H4 e4 ⟨b, v, eu, hb, pf⟩ => ?_
    subst eu
    have e34 := e3.trans e4
    have hy4 := e34 _ _ hy
    have nb : ∀ {z : Addr} {xs : List V}, H4 z = some (.tup xs) → (upd H4 D (.lst (ps.map V.ref ++ [.ref b]))) z = some (.tup xs) := fun {z xs} h => by
      rw [upd_ne (fun q => by rw [q, hy4] at h; cases h)]
      exact h
    refine ⟨ps.map V.ref, hy4, sz_lt (by rw [List.length_map, tup_len al]; omega), (ex.trans e34).mut hD, ps ++ [b], kvs ++ [(kf i, v)], by rw [upd_same, List.map_append]; rfl, ?_, by simp [hl], fun j hj => ?_⟩
    · exact Paired.snoc ((tup_up (fun b xs h => e34 _ _ h) al) |> tup_up fun b xs h => nb h) (nb hb)
    · rcases Nat.lt_or_ge j i with c | c
      · obtain ⟨v2, h1, h2⟩ := hf j c
        exact ⟨v2, by rw [List.getElem?_append_left (by rw [hl]; exact c)]; exact h1, hw D j _ _ _ _ hy4 (hm D j _ _ _ e34 h2)⟩
      · have : j = i := by omega
        subst this
        exact ⟨v, by rw [List.getElem?_append_right (by omega), hl, Nat.sub_self]; rfl, hw D j _ _ _ _ hy4 pf⟩
  · obtain ⟨ex, ps, kvs, hy, al, hl, hf⟩ := p
    exact q (.ref D) H' (e1.trans ex) ⟨D, ps, kvs, rfl, hy, al, hl, hf⟩
end
theorem merge_nodup {kvs : List (Key × V)} (h : (kvs.map (·.1)).Nodup) : mergeK [] kvs = kvs := by
  have : ∀ (l acc : List (Key × V)), ((acc ++ l).map (·.1)).Nodup → mergeK acc l = acc ++ l := by
    intro l
    induction l with
    | nil => intro acc _; simp [mergeK]
    | cons p l ih =>
      intro acc h
      have no : valV acc p.1 = none := valV_no fun m => by
        rw [List.map_append, List.nodup_append] at h
        exact h.2.2 _ m p.1 (by simp) rfl
      show mergeK (putK acc p.1 p.2) l = _
      rw [putK_new _ no, ih _ (by simpa using h)]
      simp
  simpa using this kvs [] (by simpa using h)
/-! ### what is written down is right -/
structure WordsOk (ws os : List Str) : Prop where
  nw : ws.Nodup
  no : os.Nodup
  lw : ws.length ≤ 2
  lo : os.length ≤ 2
  w : ∀ x ∈ ws, isWordS x = true ∧ x.length ≤ 8
  o : ∀ x ∈ os, isWordS x = true ∧ x.length ≤ 8
  apart : ∀ x ∈ os, x ∉ ws
theorem words_ok : ∀ p ∈ wordsT, WordsOk p.1 p.2 ∧ WordsOk p.2 p.1 := by
  have : ∀ p ∈ wordsT, (p.1.Nodup ∧ p.2.Nodup ∧ p.1.length ≤ 2 ∧ p.2.length ≤ 2) ∧ ((∀ x ∈ p.1, isWordS x = true ∧ x.length ≤ 8) ∧ (∀ x ∈ p.2, isWordS x = true ∧ x.length ≤ 8)) ∧ (∀ x ∈ p.2, x ∉ p.1) ∧ ∀ x ∈ p.1, x ∉ p.2 := by decide +kernel
  intro p hp
  obtain ⟨⟨a, b, c, d⟩, ⟨e, f⟩, g, h⟩ := this p hp
  exact ⟨⟨a, b, c, d, e, f, g⟩, ⟨b, a, d, c, f, e, h⟩⟩
def ownIt (own : List (Str × Ds)) : Its' := own.map fun p => (.inr p.1, .set (settingOf (ptsD p.2)))
def ptsS (s : Es) : PtsE := ⟨.dct (ownIt s.own), .dct (usesIt s.uses), .dct (rulesIt s.rules), .int s.most⟩
def endS (s : Es) : Eg := endOf (ptsS s)
theorem base6_ok : ∀ e ∈ base6, okCh 3 e = true := by decide +kernel
theorem base2_ok : ∀ e ∈ base6.take 2, okCh 2 e = true := by decide +kernel
theorem rightD {d : Ds} (g : GoodD d) : wrong (ptsD d) = none := by
  have h1 : inT sorts (.str d.so) = true := List.any_eq_true.mpr ⟨d.so, g.so, by simp⟩
  have h2 : betw 2 4 (.int d.n) = true := by rcases g.n with c | c <;> rw [c] <;> decide
  have h3 : betw 0 (d.n - 1) (.int d.k) = true := by
    have := g.k
    simp [betw]
    omega
  have h4 : okChs d.n (.list d.es) = true := by
    refine List.all_eq_true.mpr fun e he => ?_
    have := g.es.subset he
    rcases g.n with c | c
    · rw [c] at this ⊢
      exact base2_ok e (by unfold chBase at this; rwa [if_pos rfl] at this)
    · rw [c] at this ⊢
      exact base6_ok e (by unfold chBase at this; rwa [if_neg (by decide)] at this)
  have h5 : isHold d.so (.str d.h) = true := by
    have := g.h
    unfold holdsOf at this
    unfold isHold
    by_cases c : d.so = ("table" : Str)
    · rw [if_pos c] at this ⊢
      refine List.any_eq_true.mpr ⟨d.h, ?_, by simp⟩
      simp only [List.mem_cons, List.not_mem_nil, or_false] at this
      rcases this with e | e | e <;> rw [e] <;> decide
    · rw [if_neg c] at this ⊢
      exact List.any_eq_true.mpr ⟨d.h, this, by simp⟩
  unfold wrong ptsD
  simp only [Chk.intOf, Chk.strOf, h1, h2, h3, h4, h5]
  rfl
theorem short_es {d : Ds} (g : GoodD d) : Short (.list d.es) := fun ds e => by
  cases e
  have := g.es.length_le
  have : (chBase d.n).length ≤ 6 := by unfold chBase; split <;> decide
  omega
section
variable {s : Es} {ws os : List Str}
theorem pairs_prI {es : List (Int × Int)} (h : ∀ q ∈ es, (0 ≤ q.1 ∧ q.1 ≤ 3) ∧ 0 ≤ q.2 ∧ q.2 ≤ 3) : okPairs (.list (es.map prI)) = true := by
  refine List.all_eq_true.mpr fun d hd => ?_
  obtain ⟨q, hq, rfl⟩ := List.mem_map.mp hd
  have := h q hq
  show (betw 0 3 (.int q.1) && betw 0 3 (.int q.2)) = true
  simp [betw]
  omega
theorem plainU (s : Es) : PlainA (.dct (usesIt s.uses)) := fun p hp => by
  obtain ⟨q, _, rfl⟩ := List.mem_map.mp hp
  exact ⟨_, rfl⟩
theorem plainR (s : Es) : PlainA (.dct (rulesIt s.rules)) := fun p hp => by
  obtain ⟨q, _, rfl⟩ := List.mem_map.mp hp
  exact ⟨_, rfl⟩
theorem nodup_inr {l : List Str} (h : l.Nodup) : (l.map (Sum.inr : Str → Key)).Nodup := List.pairwise_map.mpr (h.imp fun h z => h (by injection z))
theorem own_keys (own : List (Str × Ds)) : (ownIt own).map (·.1) = (own.map (·.1)).map Sum.inr := by
  unfold ownIt
  rw [List.map_map, List.map_map]
  rfl
theorem uses_keys (u : List (Str × Str)) : (usesIt u).map (·.1) = (u.map (·.1)).map Sum.inr := by
  unfold usesIt
  rw [List.map_map, List.map_map]
  rfl
theorem rules_keys (u : List (Str × List (Int × Int))) : (rulesIt u).map (·.1) = (u.map (·.1)).map Sum.inr := by
  unfold rulesIt
  rw [List.map_map, List.map_map]
  rfl
theorem smallO (g : GoodE ws os s) (k : WordsOk ws os) : Small (ownIt s.own) := by
  refine ⟨?_, fun p hp => ?_, ?_⟩
  · have := congrArg List.length g.own
    rw [List.length_map] at this
    unfold ownIt
    rw [List.length_map, this]
    have := k.lw
    omega
  · obtain ⟨q, hq, rfl⟩ := List.mem_map.mp hp
    have := (k.w q.1 (by rw [← g.own]; exact List.mem_map.mpr ⟨q, hq, rfl⟩)).2
    exact ⟨by show q.1.length ≤ 10000; omega, trivial⟩
  · rw [own_keys, g.own]
    exact nodup_inr k.nw
theorem smallU (g : GoodE ws os s) (k : WordsOk ws os) : Small (usesIt s.uses) := by
  refine ⟨?_, fun p hp => ?_, ?_⟩
  · have := congrArg List.length g.uses
    rw [List.length_map] at this
    unfold usesIt
    rw [List.length_map, this]
    have := k.lo
    omega
  · obtain ⟨q, hq, rfl⟩ := List.mem_map.mp hp
    have := (k.o q.1 (by rw [← g.uses]; exact List.mem_map.mpr ⟨q, hq, rfl⟩)).2
    have hu := g.us q hq
    refine ⟨by show q.1.length ≤ 10000; omega, fun t et => ?_, fun ds e => by cases e⟩
    cases et
    unfold usesT at hu
    simp only [List.mem_cons, List.not_mem_nil, or_false] at hu
    rcases hu with e | e <;> rw [e] <;> decide +kernel
  · rw [uses_keys, g.uses]
    exact nodup_inr k.no
theorem smallR (g : GoodE ws os s) : Small (rulesIt s.rules) := by
  have sub := g.deeds
  refine ⟨?_, fun p hp => ?_, ?_⟩
  · have := sub.length_le
    rw [List.length_map] at this
    unfold rulesIt
    rw [List.length_map]
    have : deedsT.length = 5 := rfl
    omega
  · obtain ⟨q, hq, rfl⟩ := List.mem_map.mp hp
    have hd : q.1 ∈ deedsT := sub.subset (List.mem_map.mpr ⟨q, hq, rfl⟩)
    refine ⟨deed_few hd, fun t et => (by cases et), fun ds e => ?_⟩
    cases e
    rw [List.length_map]
    have := (g.few q hq).1
    omega
  · rw [rules_keys]
    exact nodup_inr (List.Nodup.sublist sub (by decide))
theorem rightS (g : GoodE ws os s) (k : WordsOk ws os) : wrongE (ptsS s) = none := by
  have h1 : okSets (.dct (ownIt s.own)) = true := by
    rw [okSets_dct, rooms_filter]
    have a : (ownIt s.own).length ≤ 2 := by
      have := congrArg List.length g.own
      rw [List.length_map] at this
      unfold ownIt
      rw [List.length_map, this]
      exact k.lw
    have b : (ownIt s.own).all okItem = true := List.all_eq_true.mpr fun p hp => by
      obtain ⟨q, hq, rfl⟩ := List.mem_map.mp hp
      show (isWordS q.1 && true) = true
      rw [(k.w q.1 (by rw [← g.own]; exact List.mem_map.mpr ⟨q, hq, rfl⟩)).1]
      rfl
    have c : ((ownIt s.own).filter fun p => roomI p.2).length ≤ 1 := by
      unfold ownIt
      rw [List.filter_map, List.length_map]
      exact g.room
    rw [decide_eq_true a, b, decide_eq_true c]
    rfl
  have h2 : okUses (keysA (.dct (ownIt s.own))) (.dct (usesIt s.uses)) = true := by
    rw [okUses_dct]
    have a : (usesIt s.uses).length ≤ 2 := by
      have := congrArg List.length g.uses
      rw [List.length_map] at this
      unfold usesIt
      rw [List.length_map, this]
      exact k.lo
    have b : (usesIt s.uses).all (okUse (keysA (.dct (ownIt s.own)))) = true := List.all_eq_true.mpr fun p hp => by
      obtain ⟨q, hq, rfl⟩ := List.mem_map.mp hp
      have m : q.1 ∈ os := by rw [← g.uses]; exact List.mem_map.mpr ⟨q, hq, rfl⟩
      have e1 : ((keysA (.dct (ownIt s.own))).any fun k => decide (k = (.inr q.1 : Key))) = false := by
        show (((ownIt s.own).map (·.1)).any fun k => decide (k = (.inr q.1 : Key))) = false
        rw [own_keys, g.own, List.any_eq_false]
        intro x hx
        obtain ⟨t, ht, rfl⟩ := List.mem_map.mp hx
        have := k.apart q.1 m
        simp only [decide_eq_true_eq]
        intro z
        injection z with z
        exact this (by rw [← z]; exact ht)
      show (isWordS q.1 && (!_ && inT usesT (.str q.2))) = true
      rw [(k.o q.1 m).1, e1]
      exact List.any_eq_true.mpr ⟨q.2, g.us q hq, by simp⟩
    rw [decide_eq_true a, b]
    rfl
  have h3 : okRules (.dct (rulesIt s.rules)) = true := List.all_eq_true.mpr fun p hp => by
    obtain ⟨q, hq, rfl⟩ := List.mem_map.mp hp
    show (inT deedsT (.str q.1) && okPairs (.list (q.2.map prI))) = true
    rw [deed_in (g.deeds.subset (List.mem_map.mpr ⟨q, hq, rfl⟩)), pairs_prI (g.rules q hq)]
    rfl
  have h4 : betw 1 3 (.int s.most) = true := by rcases g.most with c | c <;> rw [c] <;> decide
  unfold wrongE ptsS
  simp only [h1, h2, h3, h4]
  rfl
theorem neatS (g : GoodE ws os s) (k : WordsOk ws os) : Neat (endS s) := neat_of (p := ptsS s) (rightS g k) (plainU s) (plainR s) (smallO g k) (smallU g k) (smallR g)
end
end Lw
set_option maxHeartbeats 4000000
/-! _law_made_end: the end that was written down is made. -/
namespace Lw
open PySem PySem.Spec PyProof.Rows L2 Evl Pd Gd Us Chk Wlk
abbrev nMadeE : List Str := ["end", "settings", "word", "one", "rules", "deed"]
def spMadeE (K : PySem.W.Frag) (C CE : Addr) : Sp := fun vs H Q _ => vs.length = 1 ∧ ∃ x s ws os, vs = [x] ∧ EndSp Sr K s x H ∧ GoodE ws os s ∧ WordsOk ws os ∧ ∀ r H', Ex H H' → EndV K C CE (endS s) r H' → Q r H'
theorem ev_sub {σ : L2.St} {H : Hp} {i : Nat} {p ds du dr : Addr} {m : Int} {key : Str} {v : V} (h : σ[i]? = some (some (.ref p))) (hp : Rd H p (.dK (endKs ds du dr m))) (e : valV (endKs ds du dr m) (.inr key) = some v) : Ev (tDGet (tVar i) (tC (.str key))) σ H v := (p_dget (k := .inr key) (ev_var h) ev_c hp e mo_is rfl).ev
theorem itm_unlock {K : PySem.W.Frag} {C : Addr} {t : Itm} {v : V} {H : Hp} {d : Addr} {od : Obj} {vs : List (Key × V)} (hd : H d = some (.frz od (.dK vs))) (h : ItmV K C t v H) : ItmV K C t v (upd H d (.dK vs)) := by
  have st : ∀ {b : Addr} {o : HO}, H b = some o → (∀ o' u', o ≠ .frz o' u') → (upd H d (.dK vs)) b = some o := fun {b o} hb ne => by
    rw [upd_ne (fun z => by rw [z, hd] at hb; cases hb; exact ne _ _ rfl)]
    exact hb
  cases t with
  | d e => exact qe_unlock hd h
  | set g =>
    obtain ⟨a, ex, dx, e, fs, h1, h2, h3⟩ := h
    exact ⟨a, ex, dx, e, fs, st h1 (fun _ _ z => nomatch z), st h2 (fun _ _ z => nomatch z), h3⟩
  | dt ks =>
    obtain ⟨a, ex, ha⟩ := h
    exact ⟨a, ex, st ha fun _ _ z => nomatch z⟩
/-- list(xs) -/
theorem p_listQ {K : PySem.W.Frag} {σ : L2.St} {H : Hp} {te : TE} {ds : List PyData} (h : EvP te σ H (Qe (.list ds))) : EvP (tCB (rListS K) (tCons te tNil)) σ H (Qe (.list ds)) := fun H1 e Q q =>
  h H1 e _ fun x H2 e2 p => by
    cases p with
    | @lst a xs _ z hl hd => exact ⟨a, xs, rfl, .inl (sq_of hl), fun l hn => q _ _ (e2.trans (Ex.new hn)) (.lst z upd_same (dqAll_up (Ex.new hn) hd))⟩
/-- a list of pairs that is not the list at D -/
def PrD (D : Addr) (es : List (Int × Int)) : PV := fun y H => ∃ l xs, y = .ref l ∧ l ≠ D ∧ H l = some (.lst xs) ∧ PrAll H xs es ∧ xs.length ≤ 100000
theorem mo_prD {D : Addr} {es : List (Int × Int)} : Mo (PrD D es) := fun _ _ _ e ⟨l, xs, h1, h2, h3, h4, h5⟩ => ⟨l, xs, h1, h2, e _ _ h3, h4.up fun b xs h => e _ _ h, h5⟩
theorem prD_put {D : Addr} {es : List (Int × Int)} {v : V} {H : Hp} {ys ys' : List V} (hD : H D = some (.lst ys)) (h : PrD D es v H) : PrD D es v (upd H D (.lst ys')) := by
  obtain ⟨l, xs, h1, h2, h3, h4, h5⟩ := h
  exact ⟨l, xs, h1, h2, by rw [upd_ne h2]; exact h3, h4.up fun b xs h => (by rw [upd_ne (fun z => by rw [z, hD] at h; cases h)]; exact h), h5⟩
theorem dq_prAll {H : Hp} : ∀ {xs : List V} {es : List (Int × Int)}, DqAll H xs (es.map prI) → PrAll H xs es
  | [], [], _ => trivial
  | x :: xs, p :: es, .cons h t => by
    refine ⟨?_, dq_prAll t⟩
    cases h with
    | tup hb a =>
      cases a with
      | cons h1 a =>
        cases a with
        | cons h2 a =>
          cases a
          cases h1
          cases h2
          exact ⟨_, rfl, hb⟩
  | [], _ :: _, h => by cases h
  | _ :: _, [], h => by cases h
section
variable {P : Program} {w : World} {K : PySem.W.Frag} {mg : Str → Option Value} {base : Heap} {C CE CD CB CS : Addr}
end
end Lw
set_option maxHeartbeats 1000000
/-! Ends over a growing table of code objects. -/
namespace Lw
open PySem PySem.Spec PyProof.Rows L2 Evl Pd Gd Us Chk Wlk LamX LamK
section
variable {K : PySem.W.Frag} {C CE : Addr} {H H' : Hp}
theorem st_n {o : HO} (e : ExtN H H') {b : Addr} (h : H b = some o) (n : ∀ ps, o ≠ .tbl ps := by exact fun _ z => nomatch z) : H' b = some o := e b o h n
theorem mon_itm {t : Itm} : MoN (ItmV K C t) := by
  cases t with
  | d d => exact mon_qe
  | set g => exact mon_set
  | dt ks => exact fun _ _ _ e ⟨t, h1, h2⟩ => ⟨t, h1, st_n e h2⟩
theorem items_n {kvs : Its'} {vs : List (Key × V)} (e : ExtN H H') (h : ItemsV K C kvs vs H) : ItemsV K C kvs vs H' := ⟨h.len, fun i k t hi => let ⟨v, h1, h2⟩ := h.at_ i k t hi; ⟨v, h1, mon_itm _ _ _ e h2⟩⟩
theorem mon_end {e : Eg} : MoN (EndV K C CE e) := fun _ _ _ x ⟨a, ex, at_⟩ => by
  obtain ⟨dx, fs, d1, d2, d3, v1, v2, v3, h0, h1, h2, h3, i1, i2, i3, r⟩ := at_.ex
  exact ⟨a, ex, dx, fs, d1, d2, d3, v1, v2, v3, st_n x h0, st_n x h1, st_n x h2, st_n x h3, items_n x i1, items_n x i2, items_n x i3, r⟩
theorem mon_setSp {d : Ds} : MoN (SetSp Sr d) := fun _ _ _ e ⟨q, l, h1, h2, h3⟩ => ⟨q, l, h1, st_n e h2, dq_ext e h3⟩
theorem endAtS_n {s : Es} {p ds du dr : Addr} (e : ExtN H H') (h : EndAtS Sr K s p ds du dr H) : EndAtS Sr K s p ds du dr H' := by
  obtain ⟨vs, us, rs, h1, h2, h3, h4, h5, h6, h7⟩ := h.ex
  exact ⟨vs, us, rs, st_n e h1, st_n e h2, st_n e h3, st_n e h4, h5.imp fun d v z => mon_setSp _ _ _ e z, items_n e h6, items_n e h7⟩
theorem mon_endSp {s : Es} : MoN (EndSp Sr K s) := fun _ _ _ e ⟨p, ds, du, dr, h1, h2⟩ => ⟨p, ds, du, dr, h1, endAtS_n e h2⟩
theorem mon_pactSp {l r : Es} : MoN (PactSp Sr K l r) := fun _ _ _ e ⟨p, a, b, h1, h2, h3, h4⟩ => ⟨p, a, b, h1, st_n e h2, mon_endSp _ _ _ e h3, mon_endSp _ _ _ e h4⟩
end
/-! ### a lambda that calls with_pairs with what is none -/
section
variable {K : PySem.W.Frag} {C CE a0 a1 a2 a3 a4 a5 a6 a7 a8 a9 : Addr} {σ : L2.St} {H : Hp} {T : TabT} {te ty tz : TE} {e : Eg} {d dp : PyData}
abbrev TW (K : PySem.W.Frag) (C CE a1 a4 : Addr) (te ty tz : TE) : XK → TE := fun E => tMeth CE "with_pairs" (spWith K C CE a4 a1) [] E te (tCons ty (tCons tz tNil))
theorem n_badDeed (N : Neat e) (h : ∀ H1, ExtN H H1 → EvP te σ H1 (EndV K C CE e)) (hd : ∀ H1, ExtN H H1 → EvP ty σ H1 (Qe d)) (hp : ∀ H1, ExtN H H1 → EvP tz σ H1 (Qe dp)) (few : Few dp) (sh : Short dp) (no : inT deedsT d = false) (R : Repable d) :
    EN T (tLam T (TBad K (errs a0 a1 a2 a3 a4 a5 a6 a7 a8 a9)) (TW K C CE a1 a4 te ty tz)) σ H (Qe (.list [.str "deed", .str d.shown])) := fun H1 e1 hT Q q => by
  refine ⟨hT, fun H2 e2 T2 => ?_⟩
  refine with_bad (d := d) (dp := dp) (h H2 (e1.trans e2)) N (hd H2 (e1.trans e2)) (hp H2 (e1.trans e2)) few sh (.inl no) (fun _ y o H3 e3 no3 hy => ?_) fun c => by rw [no] at c; cases c
  have x1 : Ex H3 (upd H3 o (.xd [("value", y)])) := Ex.new no3
  refine ⟨[⟨a0, "setting", "part", false⟩, ⟨a1, "end", "part", false⟩, ⟨a2, "pact", "part", false⟩, ⟨a3, "name", "value", true⟩], ⟨a4, "deed", "value", true⟩, _, o, y, .str d.shown, rfl, rfl, rfl, upd_same, ⟨d, dq_dp (dq_up x1 hy), R, rfl⟩, fun p np => ?_⟩
  have x2 := x1.trans (Ex.new (o := .lst [.str "deed", .str d.shown]) np)
  exact q _ _ (e2.trans (ExtN.of (e3.trans x2))) (T2.ext (e3.trans x2)) (.lst (xs := [.str "deed", .str d.shown]) (show 2 ≤ 100000 by decide) upd_same (.cons (.str _) (.cons (.str _) .nil)))
theorem n_badRules (N : Neat e) (h : ∀ H1, ExtN H H1 → EvP te σ H1 (EndV K C CE e)) (hd : ∀ H1, ExtN H H1 → EvP ty σ H1 (Qe d)) (hp : ∀ H1, ExtN H H1 → EvP tz σ H1 (Qe dp)) (few : Few dp) (sh : Short dp) (yes : inT deedsT d = true) (bad : okD dp = false) :
    EN T (tLam T (TBad K (errs a0 a1 a2 a3 a4 a5 a6 a7 a8 a9)) (TW K C CE a1 a4 te ty tz)) σ H (Qe (.list [.str "end", .str "rules"])) := fun H1 e1 hT Q q => by
  refine ⟨hT, fun H2 e2 T2 => ?_⟩
  refine with_bad (d := d) (dp := dp) (h H2 (e1.trans e2)) N (hd H2 (e1.trans e2)) (hp H2 (e1.trans e2)) few sh (.inr bad) (fun c => by rw [yes] at c; cases c) fun _ o H3 e3 no3 => ?_
  have x1 : Ex H3 (upd H3 o (.xd [("part", .str "rules")])) := Ex.new no3
  refine ⟨[⟨a0, "setting", "part", false⟩], ⟨a1, "end", "part", false⟩, _, o, .str "rules", .str "rules", rfl, rfl, rfl, upd_same, rfl, fun p np => ?_⟩
  have x2 := x1.trans (Ex.new (o := .lst [.str "end", .str "rules"]) np)
  exact q _ _ (e2.trans (ExtN.of (e3.trans x2))) (T2.ext (e3.trans x2)) (.lst (xs := [.str "end", .str "rules"]) (show 2 ≤ 100000 by decide) upd_same (.cons (.str _) (.cons (.str _) .nil)))
end
theorem self_eqv {d : PyData} (h : SeqAt.shaped d = true) : PyData.eqv d d = true := PySem.SeqAt.eqv_refl d (SeqAt.canLay_of_shaped h)
section
variable {T : TabT} {K : PySem.W.Frag} {σ : L2.St} {H : Hp} {ta tb : TE} {d : PyData}
theorem n_ne1 (h1 : EN T ta σ H (Qe d)) (h2 : EN T tb σ H (Qe d)) (sd : SeqAt.shaped d = true) : EN T (tOp (rNeD K) ta tb) σ H (Is (.bl false)) := fun H1 a hT Q q =>
  n_ne h1 h2 sd sd H1 a hT Q fun x H2 e2 t2 p => q x H2 e2 t2 (by rw [self_eqv sd] at p; exact p)
end
end Lw
set_option maxHeartbeats 1000000
/-! A dict that a call does not see: what the call makes is not that dict. -/
namespace L2
open PySem PySem.Spec PyProof.Rows
/-- the heap without what stands at R -/
def hid (H : Hp) (R : Addr) : Hp := fun b => if b = R then none else H b
theorem hid_ne {H : Hp} {R b : Addr} (h : b ≠ R) : hid H R b = H b := if_neg h
theorem hid_same {H : Hp} {R : Addr} : hid H R R = none := if_pos rfl
def tHide (i : Nat) (t : TE) : TE := fun σ H Q => ∃ R kvs, σ[i]? = some (some (.ref R)) ∧ H R = some (.dK kvs) ∧ t σ (hid H R) fun x H' => H' R = none → Q x (upd H' R (.dK kvs))
section
variable {X : Cx} {pins : List (Addr × Obj)} {σ : L2.St} {H H' : Hp} {s s' : Shared} {R : Addr} {kvs : List (Key × V)} {o : Obj}
theorem Inv.some_nofs (I : Inv X pins σ H s) {u : HO} (h : H R = some u) : R ∉ X.fs := fun hb => by
  obtain ⟨_, o, e, _⟩ := I.ok.funs.mem hb
  have := I.base.free R o e (I.ok.frf R hb) (fun z => I.ok.exfs R z hb)
  rw [h] at this
  cases this
theorem Inv.hideD (I : Inv X pins σ H s) (h : H R = some (.dK kvs)) : ∃ o, s.heap.get? R = some o ∧ Inv X ((R, o) :: pins) σ (hid H R) s := by
  obtain ⟨z1, z2, vs, z3, o, es, ep, e, c⟩ := I.hok R _ h
  have ne : ∀ {b : Addr} {u : HO}, H b = some u → (∀ ws, u ≠ .dK ws) → hid H R b = some u := fun {b u} hb n => by
    rw [hid_ne (fun z => by rw [z, h] at hb; cases hb; exact n _ rfl)]
    exact hb
  have no : ∀ {b : Addr}, H b = none → hid H R b = none := fun {b} hb => by
    unfold hid
    split
    · rfl
    · exact hb
  refine ⟨o, e, ⟨I.ok, I.os, I.bare, ⟨I.base.keep, I.base.slot, fun b o q n x => no (I.base.free b o q n x), I.base.there, fun b xs q => ne (I.base.tups b xs q) (fun _ z => nomatch z), fun b o u q => ne (I.base.frzs b o u q) (fun _ z => nomatch z), fun b ps q => ?_⟩, I.loc, I.cell, no I.free, fun x c hx => no (I.freeC x c hx), fun p hp => ?_, fun b u hb => ?_, I.len⟩⟩
  · obtain ⟨more, g⟩ := I.base.tbls b ps q
    exact ⟨more, ne g fun _ z => nomatch z⟩
  · have hp' : p = (R, o) ∨ p ∈ X.pn ++ pins := by
      rcases List.mem_append.mp hp with q | q
      · exact .inr (List.mem_append_left _ q)
      · rcases List.mem_cons.mp q with q | q
        · exact .inl q
        · exact .inr (List.mem_append_right _ q)
    rcases hp' with rfl | q
    · refine ⟨e, hid_same, fun z => ?_, I.some_nofs h, fun v z => ?_⟩
      · have := I.free
        rw [← show R = _ from z, h] at this
        cases this
      · have z : o.data = .cell v := z
        rw [c.2.1] at z
        cases z
    · obtain ⟨g1, g2, g3, g4, g5⟩ := I.pin p q
      exact ⟨g1, no g2, g3, g4, g5⟩
  · have nb : b ≠ R := fun z => by
      rw [z, hid_same] at hb
      cases hb
    rw [hid_ne nb] at hb
    refine (I.hok b u hb).stay (fun _ _ _ g => g) (fun d g => ?_) fun d xs g => ne g fun _ z => nomatch z
    exact ne g fun _ z => nomatch z
theorem Inv.unhideD (I : Inv X pins σ H s) (h : H R = some (.dK kvs)) (e : s.heap.get? R = some o) (J : Inv X ((R, o) :: pins) σ H' s') : H' R = none ∧ Inv X pins σ (upd H' R (.dK kvs)) s' := by
  obtain ⟨p1, p2, p3, p4, p5⟩ := J.pin (R, o) (List.mem_append_right _ List.mem_cons_self)
  have p2 : H' R = none := p2
  have st : ∀ {b : Addr} {u : HO}, H' b = some u → (upd H' R (.dK kvs)) b = some u := fun {b u} hb => by
    rw [upd_ne (ne_of_none hb p2)]
    exact hb
  have no : ∀ {b : Addr}, H b = none → H' b = none → (upd H' R (.dK kvs)) b = none := fun {b} h0 h1 => by
    rw [upd_ne (fun z => by rw [z, h] at h0; cases h0)]
    exact h1
  refine ⟨p2, ⟨J.ok, J.os, J.bare, ⟨J.base.keep, J.base.slot, fun b o2 q n x => no (I.base.free b o2 q n x) (J.base.free b o2 q n x), J.base.there, fun b xs q => st (J.base.tups b xs q), fun b o u q => st (J.base.frzs b o u q), fun b ps q => ?_⟩, J.loc, J.cell, no I.free J.free, fun x c hx => no (I.freeC x c hx) (J.freeC x c hx), fun p hp => ?_, fun b u hb => ?_, J.len⟩⟩
  · obtain ⟨more, g⟩ := J.base.tbls b ps q
    exact ⟨more, st g⟩
  · obtain ⟨g1, g2, g3, g4, g5⟩ := J.pin p (by
      rcases List.mem_append.mp hp with q | q
      · exact List.mem_append_left _ q
      · exact List.mem_append_right _ (List.mem_cons_of_mem _ q))
    exact ⟨g1, no (I.pin p hp).2.1 g2, g3, g4, g5⟩
  · by_cases z : b = R
    · subst z
      rw [upd_same] at hb
      cases hb
      obtain ⟨z1, z2, vs, z3, o2, es, ep, e2, c⟩ := I.hok b _ h
      rw [e] at e2
      cases e2
      exact ⟨z1, z2, vs, z3, o, es, ep, p1, c⟩
    · rw [upd_ne z] at hb
      exact (J.hok b u hb).stay (fun _ _ _ g => g) (fun d g => st g) fun d xs g => st g
theorem pe_hide {i : Nat} {e : Expr} {t : TE} (he : PE X e t) : PE X e (tHide i t) := by
  refine ⟨fun pins s σ H Q I ⟨R, kvs, hi, hR, h⟩ => ?_⟩
  obtain ⟨o, ho, I2⟩ := I.hideD hR
  refine wpAny_mono (he.run _ s σ _ _ I2 h) (fun u s' ⟨v, H', J, r, q⟩ => ?_) fun _ _ z => z
  obtain ⟨n, J2⟩ := I.unhideD hR ho J
  exact ⟨v, _, J2, r, q n⟩
end
end L2
set_option maxHeartbeats 1000000
/-! An instance beside a dict; a list that a call does not see. -/
namespace OwnNe
open PySem PySem.Spec PyProof.Rows L2 Evl Pd
def rOwnD (C : Addr) (sp : Sp) : R2 := fun x y H Q => ∃ (a dx : Addr) (fs : List (Str × V)) (b : Addr) (kvs : List (Key × V)), x = .ref a ∧ H a = some (.ins C dx fs) ∧ y = .ref b ∧ H b = some (.dK kvs) ∧ sp [.ref a, y] H (fun v H' => ∃ r, v = .bl r ∧ Q (.bl r) H') (fun _ _ _ => False)
section
variable {X : Cx} {C f : Addr} {fd : FuncData} {ps : List Str} {sp : Sp} {n : Nat}
theorem op_eqOwnD (F : FnOk X.prog X.w X.K X.mg X.base CX0 n f fd ps sp) (T : EqC X.K C f) (hb : L2.Binds X.K fd ps []) (hr : Room n X.A) (nl : PySem.W.notFirst X.K C (.type "dict") = true) : OpR X (compareOp .Eq) (rOwnD C sp) := by
  intro pins s σ H x y v u Q I rx ry h
  obtain ⟨a, dx, fs, b, kvs, rfl, ha, rfl, hy, q⟩ := h
  obtain rfl : v = Value.ref a := rx
  obtain rfl : u = Value.ref b := ry
  obtain ⟨z1, z2, vs, z3, o, es, ep, e, c⟩ := I.hok b _ hy
  have L : PySem.W.Looks (model X.prog X.w) s.heap (typeOf (.ref b)) (.type "dict") := fun A Q E s' kk q => by
    refine wpAny_typeOf_ref (kk _ _ e) ?_
    rw [show o.cls = Value.type "dict" from c.1.1]
    exact q
  obtain ⟨mA, J, _⟩ := ins_get I.hok ha
  obtain ⟨od, J, _⟩ := J.look
  obtain ⟨m, hF⟩ := I.fr
  have hu := hr.un
  refine PySem.W.cmp_K (op := .Eq) (tb := .type "dict") (by omega) hF I.ok.mod.kin J L nl T.eq T.fn ?_
  have r2 : Vals [V.ref a, .ref b] [Value.ref a, .ref b] := .cons rfl (.cons rfl .nil)
  refine wpAny_mono (run_fn F hr hb .nil pass0 I r2 (by rw [List.append_nil]; exact q)) (fun z s1 hz => ?_) fun _ _ e => e
  obtain ⟨v, H1, I1, rz, r, rfl, q1⟩ := hz
  cases rz
  exact ⟨.bl r, H1, I1, rfl, q1⟩
end
end OwnNe
namespace Chk
open PySem PySem.Spec PyProof.Rows L2 Evl Pd Gd Us Wlk
section
variable {X : Cx} {C CE CD CB : Addr} {j : Nat}
theorem op_eqEndD (S : EndC X.prog X.w X.K X.mg X.base C CE CD CB) (hr : Room j X.A) (hk : 3 ≤ j) (nd : PySem.W.notFirst X.K CE (.type "dict") = true) : OpR X (compareOp .Eq) (OwnNe.rOwnD CE (spEqE X.K C CE)) := by
  obtain ⟨f, fd, M, b, F⟩ := S.eq
  exact OwnNe.op_eqOwnD F M b (hr.mono hk) nd
end
/-- an end beside a dict -/
theorem ev_ownD {K : PySem.W.Frag} {C CE b : Addr} {σ : L2.St} {H : Hp} {ta tb : TE} {e : Eg} {kvs : List (Key × V)} (h1 : EvP ta σ H (EndV K C CE e)) (h2 : Ev tb σ H (.ref b)) (hb : H b = some (.dK kvs)) (N : Neat e) (B : NotB K CE) : Ev (tOp (OwnNe.rOwnD CE (spEqE K C CE)) ta tb) σ H (.bl false) := fun H1 x Q q =>
  h1 H1 x _ fun y H2 e2 p1 => h2 H2 (x.trans e2) _ fun H3 e3 => by
    obtain ⟨a, rfl, at1⟩ := mo_end _ _ _ e3 p1
    obtain ⟨dx, fs, d1, d2, d3, v1, v2, v3, h0, _⟩ := id at1.ex
    have hb3 := (x.trans (e2.trans e3)) _ _ hb
    exact ⟨a, dx, fs, b, kvs, rfl, h0, rfl, hb3, rfl, a, e, .ref b, rfl, at1, N, .inr ⟨.type "dict", fun H4 e4 => .base (.dK (e4 _ _ hb3)), B.dict, fun H4 e4 => ⟨_, rfl, q H4 (e2.trans (e3.trans e4))⟩⟩⟩
end Chk
namespace L2
open PySem PySem.Spec PyProof.Rows
def tHideL (i : Nat) (t : TE) : TE := fun σ H Q => ∃ R xs, σ[i]? = some (some (.ref R)) ∧ H R = some (.lst xs) ∧ t σ (hid H R) fun x H' => H' R = none → Q x (upd H' R (.lst xs))
section
variable {X : Cx} {pins : List (Addr × Obj)} {σ : L2.St} {H H' : Hp} {s s' : Shared} {R : Addr} {xs : List V} {o : Obj}
theorem Inv.hideL (I : Inv X pins σ H s) (h : H R = some (.lst xs)) : ∃ o, s.heap.get? R = some o ∧ Inv X ((R, o) :: pins) σ (hid H R) s := by
  obtain ⟨hz, its, n, r, e⟩ := (show ObjOk X.prog X.w H s.heap R (.lst xs) from I.hok R _ h)
  have ne : ∀ {b : Addr} {u : HO}, H b = some u → (∀ ws, u ≠ .lst ws) → hid H R b = some u := fun {b u} hb n => by
    rw [hid_ne (fun z => by rw [z, h] at hb; cases hb; exact n _ rfl)]
    exact hb
  have no : ∀ {b : Addr}, H b = none → hid H R b = none := fun {b} hb => by
    unfold hid
    split
    · rfl
    · exact hb
  refine ⟨_, e, ⟨I.ok, I.os, I.bare, ⟨I.base.keep, I.base.slot, fun b o q n x => no (I.base.free b o q n x), I.base.there, fun b xs q => ne (I.base.tups b xs q) (fun _ z => nomatch z), fun b o u q => ne (I.base.frzs b o u q) (fun _ z => nomatch z), fun b ps q => ?_⟩, I.loc, I.cell, no I.free, fun x c hx => no (I.freeC x c hx), fun p hp => ?_, fun b u hb => ?_, I.len⟩⟩
  · obtain ⟨more, g⟩ := I.base.tbls b ps q
    exact ⟨more, ne g fun _ z => nomatch z⟩
  · have hp' : p = (R, { cls := Value.type "list", data := Data.seq its.toArray n }) ∨ p ∈ X.pn ++ pins := by
      rcases List.mem_append.mp hp with q | q
      · exact .inr (List.mem_append_left _ q)
      · rcases List.mem_cons.mp q with q | q
        · exact .inl q
        · exact .inr (List.mem_append_right _ q)
    rcases hp' with rfl | q
    · refine ⟨e, hid_same, fun z => ?_, I.some_nofs h, fun v z => ?_⟩
      · have := I.free
        rw [← show R = _ from z, h] at this
        cases this
      · cases z
    · obtain ⟨g1, g2, g3, g4, g5⟩ := I.pin p q
      exact ⟨g1, no g2, g3, g4, g5⟩
  · have nb : b ≠ R := fun z => by
      rw [z, hid_same] at hb
      cases hb
    rw [hid_ne nb] at hb
    refine (I.hok b u hb).stay (fun _ _ _ g => g) (fun d g => ?_) fun d xs g => ne g fun _ z => nomatch z
    exact ne g fun _ z => nomatch z
theorem Inv.unhideL (I : Inv X pins σ H s) (h : H R = some (.lst xs)) (e : s.heap.get? R = some o) (J : Inv X ((R, o) :: pins) σ H' s') : H' R = none ∧ Inv X pins σ (upd H' R (.lst xs)) s' := by
  obtain ⟨p1, p2, p3, p4, p5⟩ := J.pin (R, o) (List.mem_append_right _ List.mem_cons_self)
  have p2 : H' R = none := p2
  have st : ∀ {b : Addr} {u : HO}, H' b = some u → (upd H' R (.lst xs)) b = some u := fun {b u} hb => by
    rw [upd_ne (ne_of_none hb p2)]
    exact hb
  have no : ∀ {b : Addr}, H b = none → H' b = none → (upd H' R (.lst xs)) b = none := fun {b} h0 h1 => by
    rw [upd_ne (fun z => by rw [z, h] at h0; cases h0)]
    exact h1
  refine ⟨p2, ⟨J.ok, J.os, J.bare, ⟨J.base.keep, J.base.slot, fun b o2 q n x => no (I.base.free b o2 q n x) (J.base.free b o2 q n x), J.base.there, fun b xs q => st (J.base.tups b xs q), fun b o u q => st (J.base.frzs b o u q), fun b ps q => ?_⟩, J.loc, J.cell, no I.free J.free, fun x c hx => no (I.freeC x c hx) (J.freeC x c hx), fun p hp => ?_, fun b u hb => ?_, J.len⟩⟩
  · obtain ⟨more, g⟩ := J.base.tbls b ps q
    exact ⟨more, st g⟩
  · obtain ⟨g1, g2, g3, g4, g5⟩ := J.pin p (by
      rcases List.mem_append.mp hp with q | q
      · exact List.mem_append_left _ q
      · exact List.mem_append_right _ (List.mem_cons_of_mem _ q))
    exact ⟨g1, no (I.pin p hp).2.1 g2, g3, g4, g5⟩
  · by_cases z : b = R
    · subst z
      rw [upd_same] at hb
      cases hb
      obtain ⟨hz, its, n, r, e2⟩ := (show ObjOk X.prog X.w H s.heap b (.lst xs) from I.hok b _ h)
      rw [e] at e2
      have e2 := Option.some.inj e2
      exact ⟨hz, its, n, r, by rw [← e2]; exact p1⟩
    · rw [upd_ne z] at hb
      exact (J.hok b u hb).stay (fun _ _ _ g => g) (fun d g => st g) fun d xs g => st g
theorem pe_hideL {i : Nat} {e : Expr} {t : TE} (he : PE X e t) : PE X e (tHideL i t) := by
  refine ⟨fun pins s σ H Q I ⟨R, xs, hi, hR, h⟩ => ?_⟩
  obtain ⟨o, ho, I2⟩ := I.hideL hR
  refine wpAny_mono (he.run _ s σ _ _ I2 h) (fun u s' ⟨v, H', J, r, q⟩ => ?_) fun _ _ z => z
  obtain ⟨n, J2⟩ := I.unhideL hR ho J
  exact ⟨v, _, J2, r, q n⟩
end
end L2
set_option maxHeartbeats 4000000
/-! {k: v for target in iter for target in iter}: two clauses, no tests; keys numbers and texts. -/
namespace Dc2
open PySem PySem.Spec PyProof.Rows L2 Evl Pd
/-- the expression -/
abbrev two (kx vx ta ia tb ib : Expr) (scope : Scope) (pos : Pos) : Expr := .DictComp kx vx [⟨ta, ia, [], 0⟩, ⟨tb, ib, [], 0⟩] scope pos
section
variable {prog : Program} {w : World} {A : Around} {R : Result → Shared → Prop} {s : Shared} {kx vx ta ia tb ib : Expr} {scope : Scope} {pos : Pos} {it acc : Value} {D : Addr} {env : Env}
theorem turnA (it acc : Value) (env : Env) : compTurn (two kx vx ta ia tb ib scope pos) 0 it acc env = (standAt ia.pos >>= fun _ => pyNext it >>= fun r => match r with
    | none => pure (.done .next)
    | some v => letOwnedTupleGo ta it v >>= fun _ => assign ta env v >>= fun _ => eval ib env >>= fun x => standAt ib.pos >>= fun _ => foldedSetIterable ib env x >>= fun x => holding [x] (pyIter x) >>= fun itb =>
        runOwn (.compStart (two kx vx ta ia tb ib scope pos) 1 itb acc env) env >>= fun _ => again (.compLoop (two kx vx ta ia tb ib scope pos) 0 it acc env)) := by rfl
/-- how an error is told -/
abbrev Fl (prog : Program) (w : World) (A : Around) (env : Env) (R : Result → Shared → Prop) : Value → Shared → Prop := notedBy (model prog w) A env fun e s' => R (.error e) s'
theorem loopA (hs : ∀ x, foldedSetIterable ib env x = pure x) (I : Nat → Shared → Prop)
    (turn : ∀ n s, I n s → wpAny (model prog w) A (pyNext it) (fun r s1 => match r with
      | none => R (.ok .next) s1
      | some v => wpAny (model prog w) A (letOwnedTupleGo ta it v) (fun _ s2 => wpAny (model prog w) A (assign ta env v) (fun _ s3 => wpAny (model prog w) A (eval ib env) (fun x s4 => wpAny (model prog w) A (pyIter x) (fun itb s5 =>
          codeAny (model prog w) A (.compStart (two kx vx ta ia tb ib scope pos) 1 itb acc env) (fun r s' => match r with
            | .ok _ => ∃ m, m < n ∧ I m s'
            | .error _ => False) s5) (Fl prog w A env R) s4) (Fl prog w A env R) s3) (Fl prog w A env R) s2) (Fl prog w A env R) s1) (Fl prog w A env R) s)
    (n : Nat) (h : I n s) : codeAny (model prog w) A (.compLoop (two kx vx ta ia tb ib scope pos) 0 it acc env) R s := by
  refine codeAny_loop rfl I (fun n s hI => ?_) n h
  show wpAny _ A ((compTurn (two kx vx ta ia tb ib scope pos) 0 it acc env).onRaise (fun x => do noteFrame x env; theTreesLotGoes x)) _ _ s
  refine wpAny_noted ?_
  rw [turnA]
  refine wpAny_bind (wpAny_standAt (wpAny_bind (wpAny_mono (turn n s hI) (fun r s1 h1 => ?_) fun _ _ z => z)))
  cases r with
  | none => exact wpAny_pure h1
  | some v =>
    refine wpAny_bind (wpAny_mono h1 (fun _ s2 h2 => wpAny_bind (wpAny_mono h2 (fun _ s3 h3 => wpAny_bind (wpAny_mono h3 (fun x s4 h4 => ?_) fun _ _ z => z)) fun _ _ z => z)) fun _ _ z => z)
    refine wpAny_bind (wpAny_standAt (wpAny_bind (wpAny_of_eq (hs x) (wpAny_bind (wpAny_holding (wpAny_mono h4 (fun itb s5 h5 => ?_) fun _ _ z => z))))))
    refine wpAny_bind (wpAny_runOwn ?_)
    rw [Around.mark_none]
    refine codeAny_mono h5 fun r s' hr => ?_
    cases r with
    | ok f => exact wpAny_pure ⟨rfl, hr⟩
    | error e => exact hr.elim
theorem turnB (it : Value) (D : Addr) (env : Env) : compTurn (two kx vx ta ia tb ib scope pos) 1 it (.ref D) env = (standAt ib.pos >>= fun _ => pyNext it >>= fun r => match r with
    | none => pure (.done .next)
    | some v => letOwnedTupleGo tb it v >>= fun _ => assign tb env v >>= fun _ => (do
          let kv ← eval kx env
          let vv ← holding [kv] (eval vx env)
          standAt ⟨kx.pos.line, kx.pos.col, vx.pos.endLine, vx.pos.endCol⟩
          holding [kv, vv] (dictSet D kv vv)) >>= fun _ =>
        again (.compLoop (two kx vx ta ia tb ib scope pos) 1 it (.ref D) env)) := by rfl
theorem loopB (I : Nat → Shared → Prop)
    (turn : ∀ n s, I n s → wpAny (model prog w) A (pyNext it) (fun r s1 => match r with
      | none => R (.ok .next) s1
      | some v => wpAny (model prog w) A (letOwnedTupleGo tb it v) (fun _ s2 => wpAny (model prog w) A (assign tb env v) (fun _ s3 => wpAny (model prog w) A (eval kx env) (fun kv s4 => wpAny (model prog w) A (eval vx env) (fun vv s5 =>
          wpAny (model prog w) A (dictSet D kv vv) (fun _ s6 => ∃ m, m < n ∧ I m s6) (Fl prog w A env R) s5) (Fl prog w A env R) s4) (Fl prog w A env R) s3) (Fl prog w A env R) s2) (Fl prog w A env R) s1) (Fl prog w A env R) s)
    (n : Nat) (h : I n s) : codeAny (model prog w) A (.compLoop (two kx vx ta ia tb ib scope pos) 1 it (.ref D) env) R s := by
  refine codeAny_loop rfl I (fun n s hI => ?_) n h
  show wpAny _ A ((compTurn (two kx vx ta ia tb ib scope pos) 1 it (.ref D) env).onRaise (fun x => do noteFrame x env; theTreesLotGoes x)) _ _ s
  refine wpAny_noted ?_
  rw [turnB]
  refine wpAny_bind (wpAny_standAt (wpAny_bind (wpAny_mono (turn n s hI) (fun r s1 h1 => ?_) fun _ _ z => z)))
  cases r with
  | none => exact wpAny_pure h1
  | some v =>
    refine wpAny_bind (wpAny_mono h1 (fun _ s2 h2 => wpAny_bind (wpAny_mono h2 (fun _ s3 h3 => ?_) fun _ _ z => z)) fun _ _ z => z)
    exact wpAny_bind (wpAny_bind (wpAny_mono h3 (fun kv s4 h4 => wpAny_bind (wpAny_holding (wpAny_mono h4 (fun vv s5 h5 => wpAny_bind (wpAny_standAt (wpAny_holding (wpAny_mono h5 (fun _ s6 h6 => wpAny_pure ⟨rfl, h6⟩) fun _ _ z => z)))) fun _ _ z => z))) fun _ _ z => z))
/-- the second clause's start -/
theorem startB (h0 : codeAny (model prog w) A (.compLoop (two kx vx ta ia tb ib scope pos) 1 it acc env) R s)
    (h : wpAny (model prog w) A (pyIter it) (fun it2 s' => codeAny (model prog w) A (.compLoop (two kx vx ta ia tb ib scope pos) 1 it2 acc env) R s') (Fl prog w A env R) s) :
    codeAny (model prog w) A (.compStart (two kx vx ta ia tb ib scope pos) 1 it acc env) R s := by
  refine codeAny_of_tree ?_
  show wpAny _ _ ((compStart (two kx vx ta ia tb ib scope pos) 1 it acc env).onRaise (fun x => do noteFrame x env; standAt theWindowsPlace)) _ _ s
  refine wpAny_notedAt ?_
  unfold compStart
  show wpAny _ _ (ask >>= _) _ _ s
  refine wpAny_bind (wpAny_askSetting (wpAny_ite ?_))
  split
  · first
      | exact wpAny_bind (wpAny_pure (wpAny_pure (And.intro rfl h0)))
      | exact wpAny_pure (And.intro rfl h0)
  · first
      | exact wpAny_bind (wpAny_rule (wpAny_bind (wpAny_standAt (wpAny_bind (wpAny_mono h (fun _ s' z => wpAny_pure (And.intro rfl z)) fun _ _ x => x)))))
      | (refine wpAny_bind (wpAny_rule ?_); show wpAny _ _ (standAt ib.pos >>= _) _ _ s; exact wpAny_bind (wpAny_standAt (wpAny_bind (wpAny_mono h (fun _ s' z => wpAny_pure (And.intro rfl z)) fun _ _ x => x))))
end
end Dc2
set_option maxHeartbeats 4000000
namespace Dc2
open PySem PySem.Spec PyProof.Rows L2 Evl Pd
/-- the reading: D the new dict; the second clause's walk leads to Nx -/
def tDc2 (wi : TI) (g : TG) (wj : TI) (gj : TG) (tk tv : TE) (vs ws : List Nat) : TE := fun σ H Q => wi σ H fun J H1 => ∀ D, H1 D = none → ∃ W : Nat → Nat → Hp → Prop, (∃ m, W 0 m (upd H1 D (.dK []))) ∧ ∀ i m H2, W i m H2 →
  (J.stop i H2 ∧ Q (.ref D) H2) ∨ (J.go i H2 ∧ ∃ Nx : Hp → Prop, (∀ H3, Nx H3 → ∃ m', m' < m ∧ W (i + 1) m' H3) ∧ ∀ x H3, J.yld i H2 x H3 → g x (wipe σ vs) H3 fun σ2 H4 => wipe σ2 vs = wipe σ vs ∧
    wj σ2 H4 fun J1 H5 => ∃ Wj : Nat → Nat → Hp → Prop, (∃ m, Wj 0 m H5) ∧ ∀ j k H6, Wj j k H6 →
      (J1.stop j H6 ∧ Nx H6) ∨ (J1.go j H6 ∧ ∃ Ny : Hp → Prop, (∀ H7, Ny H7 → ∃ k', k' < k ∧ Wj (j + 1) k' H7) ∧ ∀ y H7, J1.yld j H6 y H7 → gj y (wipe σ2 ws) H7 fun σ3 H8 => wipe σ3 ws = wipe σ2 ws ∧
        tk σ3 H8 fun u H9 => tv σ3 H9 fun z HA => ∃ kvs q, u = kV q ∧ HA D = some (.dK kvs) ∧ kvs.length < sizeLine ∧ Ny (upd HA D (.dK (putK kvs q z)))))
section
variable {X : Cx}
theorem pe_dc2 {kx vx ta ia tb ib : Expr} {scope : Scope} {own : List (Str × Nat)} {ws : List Nat} {pos : Pos} {wi wj : TI} {g gj : TG} {tk tv : TE}
    (hc : X.calm = true) (hN : X.N.Nodup) (hi : PI X ta ia wi) (ok : BlkOk X.N X.env.scope scope own) (hv : ∀ i ∈ ws, i ∈ own.map (·.2))
    (hg : ∀ (s : Shared) (H : Hp) (C : Addr) (cl : List (Str × Addr)) (fp : List Addr), PG (X.blk s H scope (compEnvC scope cl C X.env) fp) ta g)
    (hj : ∀ (s : Shared) (H : Hp) (C : Addr) (cl : List (Str × Addr)) (fp : List Addr), PI (X.blk s H scope (compEnvC scope cl C X.env) fp) tb ib wj)
    (hgj : ∀ (s : Shared) (H : Hp) (C : Addr) (cl : List (Str × Addr)) (fp : List Addr), PG (X.blk s H scope (compEnvC scope cl C X.env) fp) tb gj)
    (hk : ∀ (s : Shared) (H : Hp) (C : Addr) (cl : List (Str × Addr)) (fp : List Addr), PE (X.blk s H scope (compEnvC scope cl C X.env) fp) kx tk)
    (he : ∀ (s : Shared) (H : Hp) (C : Addr) (cl : List (Str × Addr)) (fp : List Addr), PE (X.blk s H scope (compEnvC scope cl C X.env) fp) vx tv)
    (hs : ∀ x, foldedSetIterable ia X.env x = pure x := by intro _; rfl) (hsj : ∀ env x, foldedSetIterable ib env x = pure x := by intro _ _; rfl) :
    PE X (two kx vx ta ia tb ib scope pos) (tDc2 wi g wj gj tk tv (own.map (·.2)) ws) := by
  refine ⟨fun pins s σ H Q I h => ?_⟩
  rw [arm_eval_DictComp]
  have clo : ∀ y ∈ scope.names, y.2 = .free → ∃ c, X.env.cells.lookup y.1 = some c := fun y hy e => (ok.free y hy e).elim (fun k => I.ok.has _ (.inl k)) fun k => I.ok.has _ (.inr k)
  refine wpAny_comprehension_free rfl hs (closure_ok clo) ok.kind (fun y hy e => by rw [ok.uniq y hy, e]) (thn (hi.run pins s σ H _ I h) fun _ s1 hx => thn hx fun _ s2 ⟨it, fp, tn, J, Ha, e, I2, T, st2, f2, q⟩ => ?_)
  subst e
  refine wpAny_newObj_type (newEnv_comp ?_)
  obtain ⟨D, hD⟩ : ∃ D, D = s2.heap.objs.size := ⟨_, rfl⟩
  obtain ⟨s3, hs3⟩ : ∃ s3 : Shared, s3 = { s2 with heap := s2.heap.push { cls := .type "dict", data := .dict #[] } } := ⟨_, rfl⟩
  rw [← hs3, ← hD]
  have nD : Ha D = none := I2.hok.fresh (Nat.le_of_eq hD.symm)
  obtain ⟨W, ⟨m0, w0⟩, turn⟩ := q D nD
  have hp3 : s3.heap = s2.heap.push { cls := .type "dict", data := .dict #[] } := by rw [hs3]
  have kept3 : ∀ b o, s2.heap.get? b = some o → s3.heap.get? b = some o := fun b o z => by rw [hp3]; exact Heap.get?_push_of_some _ z
  have I3 : Inv X pins σ (upd Ha D (.dK [])) s3 := by
    have z := I2.laid (a := D) (o := .dK []) (t' := s2.toks) (h' := s2.heap.push { cls := .type "dict", data := .dict #[] }) (fun b o z => Heap.get?_push_of_some _ z) (Nat.le_of_eq hD.symm) (by rw [hD]; exact dk_empty s2.heap I2.big)
    rw [hs3]
    exact z
  have low : ∀ b ∈ fp, b < s2.heap.objs.size := fun b hb => let ⟨_, z, _⟩ := T.obj _ _ st2 b hb; Heap.lt_size z
  have f3 : ∀ b ∈ fp, FpOk X pins (upd Ha D (.dK [])) b ∧ b < s3.heap.objs.size := fun b hb => by
    have l := low b hb
    have ne : b ≠ D := by rw [hD]; exact Nat.ne_of_lt l
    exact ⟨⟨by rw [upd_ne ne]; exact (f2 b hb).1, (f2 b hb).2⟩, by rw [hp3, Heap.size_push]; exact Nat.lt_succ_of_lt l⟩
  have st3 : tn 0 s3.heap := T.keep _ _ _ st2 fun b _ o z => kept3 b o z
  have I4 := block_start I3 ok hN f3
  show codeAny _ _ (.compStart (two kx vx ta ia tb ib scope pos) 0 (.ref it) (.ref D) (compEnvC scope (cellsFrom (s3.heap.objs.size + 1) scope.names (cloFrom X.env.cells scope.names [])) s3.heap.objs.size X.env)) _ _
  generalize hcl : cellsFrom (s3.heap.objs.size + 1) scope.names (cloFrom X.env.cells scope.names []) = cl at I4 ⊢
  have pg := hg s3 (upd Ha D (.dK [])) s3.heap.objs.size cl fp
  have pj := hj s3 (upd Ha D (.dK [])) s3.heap.objs.size cl fp
  have pgj := hgj s3 (upd Ha D (.dK [])) s3.heap.objs.size cl fp
  have pk := hk s3 (upd Ha D (.dK [])) s3.heap.objs.size cl fp
  have pe := he s3 (upd Ha D (.dK [])) s3.heap.objs.size cl fp
  have nfp : ∀ b ∈ fp, (upd Ha D (.dK [])) b = none := fun b hb => (f3 b hb).1.1
  have cL : (compEnvC scope cl s3.heap.objs.size X.env).locals = s3.heap.objs.size := rfl
  generalize compEnvC scope cl s3.heap.objs.size X.env = ce at I4 pg pj pgj pk pe cL ⊢
  generalize hHb : upd Ha D (.dK []) = Hb at I3 I4 pg pj pgj pk pe w0 nfp f3
  generalize hs4 : ({ s3 with heap := pushCells (s3.heap.push { cls := .type "dict", data := .dict #[] }) scope.names } : Shared) = s4 at I4 ⊢
  have st4 : tn 0 s4.heap := T.keep _ _ _ st3 fun b _ o z => by rw [← hs4]; exact pushCells_keeps _ _ _ _ (Heap.get?_push_of_some _ z)
  have stat : ∀ {σ' : L2.St} {H' : Hp} {s' : Shared}, Inv (X.blk s3 Hb scope ce fp) [] σ' H' s' → (∀ b ∈ fp, H' b = none) → ∀ b ∈ fp, FpOk (X.blk s3 Hb scope ce fp) [] H' b := fun {σ' H' s'} J' hn b hb =>
    ⟨hn b hb, (J'.ok.exf b hb).1, J'.ok.exfs b hb, .inl hb, fun x c z => (J'.ok.exf b hb).2 x c z, fun p hp => absurd (show p ∈ ([] : List (Addr × Obj)) ++ [] from hp) (by simp)⟩
  refine codeAny_compStart_dict ?loop (T.self X.A 0 _ _ _ st4 ?loop)
  refine loopA (hsj ce) (fun n s' => ∃ i H', Inv (X.blk s3 Hb scope ce fp) [] (wipe σ (own.map (·.2))) H' s' ∧ tn i s'.heap ∧ (∀ b ∈ fp, H' b = none) ∧ W i n H') (fun n s5 ⟨i, H5, I5, st5, n5, w5⟩ => ?_) m0 ⟨0, Hb, I4, st4, nfp, w0⟩
  rcases turn i n H5 w5 with ⟨stop, qq⟩ | ⟨go, Nx, hNx, step⟩
  · refine thnF (T.done (X.blk s3 Hb scope ce fp) rfl rfl rfl hc i [] s5 _ H5 (fun _ _ => False) I5 (stat I5 n5) st5 stop) fun r s6 ⟨hr, I6⟩ => ?_
    subst hr
    have I7 : Inv X pins σ H5 s6 := I3.call' (ch := fp) I6.os I6.base I6.hok I6.bare fun b hb => ⟨(f3 b hb).1.2.2.2.1, (f3 b hb).1.2.1, (f3 b hb).1.2.2.2.2.1, (f3 b hb).1.2.2.2.2.2⟩
    have nC : H5 s3.heap.objs.size = none := by
      have z : H5 ce.locals = none := I6.free
      rw [cL] at z
      exact z
    obtain ⟨m, hn, _⟩ := I6.loc
    have hn' : s6.heap.Ns s3.heap.objs.size m := by
      have z : s6.heap.Ns ce.locals m := hn
      rw [cL] at z
      exact z
    obtain ⟨g0, g1, g2, g3, g4, g5⟩ := I3.fpOk (b := s3.heap.objs.size) (H' := H5) (Nat.le_refl _) nC
    exact ⟨m, hn', fun h9 sb => ⟨.ref D, H5, I7.turned (t' := s6.toks) (fun b o hb z => (sb.2 b hb).trans z) g0 g1 g3 g4 g5, rfl, qq⟩⟩
  · refine thnF (T.item (X.blk s3 Hb scope ce fp) rfl rfl rfl hc i [] s5 _ H5 (fun _ _ => False) I5 (stat I5 n5) st5 go) fun r s6 ⟨u, hr, h6⟩ => ?_
    subst hr
    refine thnF h6 fun _ s7 ⟨x, H7, I7, r7, y7, st7, n7⟩ => ?_
    have I7' := I7.pinned (stat I7 n7) (T.obj _ _ st7)
    refine thnF (pg.run _ s7 _ H7 x u _ I7' r7 (step x H7 y7)) fun _ s8 ⟨σ8, H8, I8, hw8, q8⟩ => ?_
    -- the end of a turn, from slots that know what the block knew at its start
    have fin : ∀ {σ9 : L2.St} {s' : Shared} {H' : Hp}, Inv (X.blk s3 Hb scope ce fp) ([] ++ pinsAt fp s7.heap) σ9 H' s' → (wipe σ (own.map (·.2))).length = σ9.length → (∀ (j : Nat) v, (wipe σ (own.map (·.2)))[j]? = some (some v) → σ9[j]? = some (some v)) → Nx H' →
        ∃ m, m < n ∧ ∃ i H', Inv (X.blk s3 Hb scope ce fp) [] (wipe σ (own.map (·.2))) H' s' ∧ tn i s'.heap ∧ (∀ b ∈ fp, H' b = none) ∧ W i m H' := fun {σ9 s' H'} J' hl hq nx => by
      obtain ⟨m', hm, w'⟩ := hNx H' nx
      have still : ∀ b ∈ fp, ∀ o, s7.heap.get? b = some o → s'.heap.get? b = some o ∧ H' b = none := fun b hb o z =>
        let y := J'.pin (b, o) (List.mem_append_right _ (List.mem_append_right _ (mem_pinsAt hb z)))
        ⟨y.1, y.2.1⟩
      refine ⟨m', hm, i + 1, H', (J'.unpinned (pins := [])).weak hl hq, T.keep _ _ _ st7 fun b hb o z => (still b hb o z).1, fun b hb => ?_, w'⟩
      obtain ⟨o, z, _⟩ := T.obj _ _ st7 b hb
      exact (still b hb o z).2
    have l8 : (wipe σ (own.map (·.2))).length = σ8.length := by rw [← hw8, wipe_length]
    have k9 : ∀ (j : Nat) v, (wipe σ (own.map (·.2)))[j]? = some (some v) → (wipe σ8 ws)[j]? = some (some v) := fun j v z => by
      rw [← hw8] at z
      obtain ⟨z1, z2⟩ := wipe_some z
      rw [wipe_out fun y => z2 (hv j y)]
      exact z1
    refine thnF (pj.run _ s8 σ8 H8 _ I8 q8) fun _ s9 hy => thnF hy fun _ sA ⟨itb, fpb, tnb, Jb, HA, eb, IA, Tb, stA, fA, Wj, ⟨m1, w1⟩, turnj⟩ => ?_
    subst eb
    have statb : ∀ {H' : Hp}, (∀ b ∈ fpb, H' b = none) → ∀ b ∈ fpb, FpOk (X.blk s3 Hb scope ce fp) ([] ++ pinsAt fp s7.heap) H' b := fun hn b hb => ⟨hn b hb, (fA b hb).2⟩
    have inner : codeAny (model X.prog X.w) X.A (.compLoop (two kx vx ta ia tb ib scope pos) 1 (.ref itb) (.ref D) ce)
        (fun r s' => match r with
          | .ok _ => ∃ m, m < n ∧ ∃ i H', Inv (X.blk s3 Hb scope ce fp) [] (wipe σ (own.map (·.2))) H' s' ∧ tn i s'.heap ∧ (∀ b ∈ fp, H' b = none) ∧ W i m H'
          | .error _ => False) sA := by
      refine loopB (fun k s' => ∃ j H', Inv (X.blk s3 Hb scope ce fp) ([] ++ pinsAt fp s7.heap) (wipe σ8 ws) H' s' ∧ tnb j s'.heap ∧ (∀ b ∈ fpb, H' b = none) ∧ Wj j k H') (fun k sB ⟨j, HB, IB, stB, nB, wB⟩ => ?_) m1 ⟨0, HA, IA.weak (wipe_length _ _) (fun j v z => (wipe_some z).1), stA, fun b hb => (fA b hb).1, w1⟩
      rcases turnj j k HB wB with ⟨stopb, nx⟩ | ⟨gob, Ny, hNy, stepb⟩
      · refine thnF (Tb.done (X.blk s3 Hb scope ce fp) rfl rfl rfl hc j _ sB (wipe σ8 ws) HB (fun _ _ => False) IB (statb nB) stB stopb) fun r sC ⟨hr, IC⟩ => ?_
        subst hr
        exact fin IC (l8.trans (wipe_length σ8 ws).symm) k9 nx
      · refine thnF (Tb.item (X.blk s3 Hb scope ce fp) rfl rfl rfl hc j _ sB (wipe σ8 ws) HB (fun _ _ => False) IB (statb nB) stB gob) fun r sC ⟨u1, hr, hC⟩ => ?_
        subst hr
        refine thnF hC fun _ sE ⟨y, HE, IE, rE, yE, stE, nE⟩ => ?_
        have IE' := IE.pinned (statb nE) (Tb.obj _ _ stE)
        refine thnF (pgj.run _ sE (wipe σ8 ws) HE y u1 _ IE' rE (stepb y HE yE)) fun _ sF ⟨σF, HF, IF, hwF, qF⟩ => ?_
        have finb : ∀ {s' : Shared} {H' : Hp}, Inv (X.blk s3 Hb scope ce fp) (([] ++ pinsAt fp s7.heap) ++ pinsAt fpb sE.heap) σF H' s' → Ny H' → ∃ m, m < k ∧ ∃ j H', Inv (X.blk s3 Hb scope ce fp) ([] ++ pinsAt fp s7.heap) (wipe σ8 ws) H' s' ∧ tnb j s'.heap ∧ (∀ b ∈ fpb, H' b = none) ∧ Wj j m H' := fun {s' H'} J' ny => by
          obtain ⟨m', hm, w'⟩ := hNy H' ny
          have still : ∀ b ∈ fpb, ∀ o, sE.heap.get? b = some o → s'.heap.get? b = some o ∧ H' b = none := fun b hb o z =>
            let y := J'.pin (b, o) (List.mem_append_right _ (List.mem_append_right _ (mem_pinsAt hb z)))
            ⟨y.1, y.2.1⟩
          refine ⟨m', hm, j + 1, H', J'.unpinned.weak (by rw [← hwF, wipe_length]) (fun j v z => by rw [← hwF] at z; exact (wipe_some z).1), Tb.keep _ _ _ stE fun b hb o z => (still b hb o z).1, fun b hb => ?_, w'⟩
          obtain ⟨o, z, _⟩ := Tb.obj _ _ stE b hb
          exact (still b hb o z).2
        refine thnF (pk.run _ sF σF HF _ IF qF) fun _ sG ⟨yk, HG, IG, rG, qG⟩ => thnF (pe.run _ sG σF HG _ IG qG) fun _ sH ⟨yv, HH, IH, rH, kvs, kq, ek, hDH, hz, ny⟩ => ?_
        subst ek
        exact d_dictSet (X := X.blk s3 Hb scope ce fp) IH hDH hz rG rH fun sI II => finb II ny
    exact startB inner (Tb.self X.A 0 _ _ _ stA inner)
end
end Dc2
set_option maxHeartbeats 2000000
/-! Pacts: what may stand in their places; wrong_part, check_name. -/
namespace Chk
open PySem PySem.Spec PyProof.Rows L2 Evl Pd Gd Us Wlk
def namesT : List Str := ["left", "right"]
/-- what stands in a pact's place: an end, or none -/
inductive Any where
  | e (g : Eg)
  | no
/-- a value that is no end -/
def NoE (K : PySem.W.Frag) (CE : Addr) : PV := fun x H => ∃ t, (∀ H1, Ex H H1 → TyX K H1 x t) ∧ PySem.W.kitOne K t (.ref CE) = some false
/-- its words can be laid -/
structure Laid (e : Eg) : Prop where
  own : SeqAt.shaped (.list (e.own.map fun p => keyD p.1)) = true
  uses : SeqAt.shaped (.list (e.uses.map fun p => keyD p.1)) = true
def AnyV (K : PySem.W.Frag) (C CE : Addr) : Any → PV
  | .e g => fun x H => EndV K C CE g x H ∧ Neat g ∧ Laid g
  | .no => NoE K CE
def isE : Any → Bool
  | .e _ => true
  | .no => false
theorem mo_noE {K : PySem.W.Frag} {CE : Addr} : Mo (NoE K CE) := fun _ _ _ e ⟨t, h1, h2⟩ => ⟨t, fun H1 e1 => h1 H1 (e.trans e1), h2⟩
theorem mo_any {K : PySem.W.Frag} {C CE : Addr} {A : Any} : Mo (AnyV K C CE A) := by
  cases A with
  | e g => exact fun _ _ _ e h => ⟨mo_end _ _ _ e h.1, h.2⟩
  | no => exact mo_noE
def wordsD (e : Eg) : PyData := .list (e.own.map fun p => keyD p.1)
def usesD (e : Eg) : PyData := .list (e.uses.map fun p => keyD p.1)
/-- each uses just the words of the other one -/
def fitW (l r : Eg) : Bool := PyData.eqv (usesD l) (wordsD r) && PyData.eqv (usesD r) (wordsD l)
def wrongP : Any → Any → Option Str
  | .no, _ => some "left"
  | .e _, .no => some "right"
  | .e l, .e r => if fitW l r then none else some "words"
theorem wrongP_ee {l r : Eg} : wrongP (.e l) (.e r) = if fitW l r then (none : Option Str) else some ("words" : Str) := rfl
def spWrongP (K : PySem.W.Frag) (C CE : Addr) : Sp := fun vs H Q _ => vs.length = 2 ∧ ∃ x y a b, vs = [x, y] ∧ AnyV K C CE a x H ∧ AnyV K C CE b y H ∧ ∀ H', Ex H H' → Q (strV (wrongP a b)) H'
def spCheckN (CN : Addr) : Sp := fun vs H Q E => vs.length = 1 ∧ ∃ x d, vs = [x] ∧ Dq H x d ∧ (inT namesT d = true → ∀ H', Ex H H' → Q .non H') ∧ (inT namesT d = false → ∀ e H', Ex H H' → H' e = none → E (.ref CN) (some e) (upd H' e (.xd [("value", x)])))
section
variable {K : PySem.W.Frag} {C CE : Addr} {σ : L2.St} {H : Hp} {te : TE} {A : Any}
theorem end_ty {g : Eg} {x : V} (T : ClsE K CE) (I : C8.InsC K CE) (h : EndV K C CE g x H) : ∀ H1, Ex H H1 → TyX K H1 x (.ref CE) := fun H1 ex => by
  obtain ⟨a, rfl, at_⟩ := h
  obtain ⟨dx, fs, d1, d2, d3, v1, v2, v3, h0, _⟩ := at_.ex
  exact .base (.ins (ex _ _ h0) T.cl I.ha I.hn I.htk I.hm)
theorem any_ty {x : V} (T : ClsE K CE) (I : C8.InsC K CE) (h : AnyV K C CE A x H) : ∃ t, (∀ H1, Ex H H1 → TyX K H1 x t) ∧ PySem.W.kitOne K t (.ref CE) = some (isE A) := by
  cases A with
  | e g => exact ⟨.ref CE, end_ty T I h.1, I.me⟩
  | no => exact h
/-- isinstance(x, End) -/
theorem ev_isEnd (T : ClsE K CE) (I : C8.InsC K CE) (h : EvP te σ H (AnyV K C CE A)) : Ev (tCB (rIsi K) (tCons te (tCons (tC (.ref CE)) tNil))) σ H (.bl (isE A)) := fun H1 e Q q =>
  h H1 e _ fun x H2 e2 p => by
    obtain ⟨t, h1, h2⟩ := any_ty T I p
    exact ⟨x, .ref CE, t, .ref CE, isE A, rfl, .own CE, h1 H2 (Ex.refl _), h2, q H2 e2⟩
end
section
variable {P : Program} {w : World} {K : PySem.W.Frag} {mg : Str → Option Value} {base : Heap} {C CE CD CBE CN fN : Addr}
end
end Chk
set_option maxHeartbeats 2000000
/-! The owners of the words of a pact: a dict of two ends' words. -/
namespace Chk
open PySem PySem.Spec PyProof.Rows L2 Evl Pd Gd Us Wlk
def ownI (nm : Str) (e : Eg) : Its' := e.own.map fun p => (p.1, Itm.d (.str nm))
def ownersI (l r : Eg) : Its' := ownI "left" l ++ ownI "right" r
theorem own_keysI {nm : Str} {e : Eg} : (ownI nm e).map (·.1) = e.own.map (·.1) := by
  unfold ownI
  rw [List.map_map]
  rfl
theorem eqv_keys : ∀ {a b : List Key}, (∀ k ∈ a, ∃ s : Str, k = .inr s) → (∀ k ∈ b, ∃ s : Str, k = .inr s) → PyData.eqvAll (a.map keyD) (b.map keyD) = true → a = b
  | [], [], _, _, _ => rfl
  | x :: xs, y :: ys, ha, hb, h => by
    obtain ⟨s, rfl⟩ := ha x List.mem_cons_self
    obtain ⟨t, rfl⟩ := hb y List.mem_cons_self
    have h : ((s == t) && PyData.eqvAll (xs.map keyD) (ys.map keyD)) = true := h
    rw [Bool.and_eq_true] at h
    rw [eqv_keys (fun k hk => ha k (List.mem_cons_of_mem _ hk)) (fun k hk => hb k (List.mem_cons_of_mem _ hk)) h.2, show s = t from by simpa using h.1]
  | [], _ :: _, _, _, h => by cases h
  | _ :: _, [], _, _, h => by cases h
theorem neat_own {e : Eg} (N : Neat e) : AllR e.own := by
  obtain ⟨kvs, h1, _, h3, _⟩ := sets_dct N.own
  cases h1
  exact h3
theorem neat_uses {e : Eg} (N : Neat e) : AllR e.uses := by
  obtain ⟨kvs, h1, _, h3, _⟩ := uses_dct N.uses
  cases h1
  exact h3
theorem two_own {e : Eg} (N : Neat e) : e.own.length ≤ 2 := by
  obtain ⟨kvs, h1, h2, _⟩ := sets_dct N.own
  cases h1
  exact h2
/-- what one uses is not its own -/
theorem uses_apart {e : Eg} (N : Neat e) : ∀ k ∈ e.uses.map (·.1), k ∉ e.own.map (·.1) := fun k hk ho => by
  have h := N.uses
  rw [okUses_dct, Bool.and_eq_true, List.all_eq_true] at h
  obtain ⟨p, hp, rfl⟩ := List.mem_map.mp hk
  have := h.2 p hp
  unfold okUse at this
  rw [Bool.and_eq_true, Bool.and_eq_true] at this
  have a : ((e.own.map (·.1)).any fun k => decide (k = p.1)) = true := List.any_eq_true.mpr ⟨p.1, ho, by simp⟩
  rw [a] at this
  cases this.2.1
theorem fit_keys {l r : Eg} (Nl : Neat l) (Nr : Neat r) (f : fitW l r = true) : l.uses.map (·.1) = r.own.map (·.1) ∧ r.uses.map (·.1) = l.own.map (·.1) := by
  unfold fitW at f
  rw [Bool.and_eq_true] at f
  have go : ∀ {a b : Its'}, AllR a → AllR b → PyData.eqv (.list (a.map fun p => keyD p.1)) (.list (b.map fun p => keyD p.1)) = true → a.map (·.1) = b.map (·.1) := fun {a b} ha hb h => by
    refine eqv_keys (fun k hk => ?_) (fun k hk => ?_) ?_
    · obtain ⟨p, hp, rfl⟩ := List.mem_map.mp hk
      exact ha p hp
    · obtain ⟨p, hp, rfl⟩ := List.mem_map.mp hk
      exact hb p hp
    · rw [List.map_map, List.map_map]
      exact h
  exact ⟨go (neat_uses Nl) (neat_own Nr) f.1, go (neat_uses Nr) (neat_own Nl) f.2⟩
theorem owners_nodup {l r : Eg} (Nl : Neat l) (Nr : Neat r) (f : fitW l r = true) : ((ownersI l r).map (·.1)).Nodup := by
  unfold ownersI
  rw [List.map_append, own_keysI, own_keysI]
  refine List.nodup_append.mpr ⟨Nl.so.2.2, Nr.so.2.2, fun a ha b hb e => ?_⟩
  subst e
  exact uses_apart Nl a (by rw [(fit_keys Nl Nr f).1]; exact hb) ha
section
variable {K : PySem.W.Frag} {C CE : Addr} {σ : L2.St} {H : Hp}
/-- for word in end.words(): put end's words, named nm, behind what stands -/
theorem inner_words {Nx : Hp → Prop} {e : Eg} {x : V} {nm : Str} {D : Addr} {its : Its'} {kvs : List (Key × V)} {H1 H4 : Hp} {E : XK} {iw ie : Nat} {ws : List Nat} {tk tv : TE} (N : Neat e) (he : EndV K C CE e x H4) (hie : σ[ie]? = some (some x)) (ex : Ex H1 H4) (nD : H1 D = none) (hD : H4 D = some (.dK kvs)) (hi : ItemsV K C its kvs H4) (nd : ((its ++ ownI nm e).map (·.1)).Nodup) (li : its.length ≤ 100)
    (hw : ∀ y, wipe ((wipe σ ws).set iw (some y)) ws = wipe σ ws) (hk : ∀ (k : Key) H', Ev tk ((wipe σ ws).set iw (some (kV k))) H' (kV k)) (hv : ∀ (k : Key) H', Ev tv ((wipe σ ws).set iw (some (kV k))) H' (.str nm))
    (nx : ∀ H' kvs', Ex H1 H' → H' D = some (.dK kvs') → ItemsV K C (its ++ ownI nm e) kvs' H' → Nx H') :
    iList K (tMeth CE "words" (spWords K C CE) [] E (tVar ie) tNil) σ H4 fun J1 H5 => ∃ Wj : Nat → Nat → Hp → Prop, (∃ m, Wj 0 m H5) ∧ ∀ j k H6, Wj j k H6 →
      (J1.stop j H6 ∧ Nx H6) ∨ (J1.go j H6 ∧ ∃ Ny : Hp → Prop, (∀ H7, Ny H7 → ∃ k', k' < k ∧ Wj (j + 1) k' H7) ∧ ∀ y H7, J1.yld j H6 y H7 → gName iw y (wipe σ ws) H7 fun σ3 H8 => wipe σ3 ws = wipe σ ws ∧
        tk σ3 H8 fun u H9 => tv σ3 H9 fun z HA => ∃ kvs q, u = kV q ∧ HA D = some (.dK kvs) ∧ kvs.length < sizeLine ∧ Ny (upd HA D (.dK (putK kvs q z)))) := by
  refine p_wordsE (E := E) (te := tVar ie) (p_var hie mo_end he) N.so H4 (Ex.refl _) _ fun lv H5 e5 hl => ?_
  cases hl with
  | @lst L xs _ z hl hd =>
    have exs : xs = e.own.map fun p => kV p.1 := by
      have : ∀ (l : Its') (xs : List V), DqAll H5 xs (l.map fun p => keyD p.1) → xs = l.map fun p => kV p.1 := by
        intro l
        induction l with
        | nil => intro xs h; cases h; rfl
        | cons p r ih =>
          intro xs h
          cases h with
          | cons a t =>
            rw [ih _ t]
            have : ∀ (k : Key) (v : V), Dq H5 v (keyD k) → v = kV k := fun k v h => by
              cases k with
              | inl i => cases h; rfl
              | inr s => cases h; rfl
            rw [this _ _ a]
            rfl
      exact this _ _ hd
    subst exs
    refine ⟨L, rfl, ⟨_, sq_of hl⟩, ?_⟩
    have w := walk_list (K := K) (a := L) (xs := e.own.map fun p => kV p.1)
    have lo := two_own N
    refine ⟨fun j m H' => m = e.own.length - j ∧ j ≤ e.own.length ∧ Ex H1 H' ∧ H' L = some (.lst (e.own.map fun p => kV p.1)) ∧ ∃ kvs', H' D = some (.dK kvs') ∧ ItemsV K C (its ++ (ownI nm e).take j) kvs' H', ⟨e.own.length, by simp, Nat.zero_le _, ex.trans e5, hl, kvs, e5 _ _ hD, by rw [List.take_zero, List.append_nil]; exact hi.up e5⟩, ?_⟩
    rintro j m H' ⟨rfl, hj, exj, hL', kvs', hD', hi'⟩
    by_cases lt : j < e.own.length
    · have lt' : j < (e.own.map fun p => kV p.1).length := by rw [List.length_map]; exact lt
      refine .inr ⟨w.goes j H' lt' (sq_of hL'), fun H3 => Ex H1 H3 ∧ H3 L = some (.lst (e.own.map fun p => kV p.1)) ∧ ∃ kvs', H3 D = some (.dK kvs') ∧ ItemsV K C (its ++ (ownI nm e).take (j + 1)) kvs' H3, fun H3 ⟨a, b, c⟩ => ⟨e.own.length - (j + 1), by omega, rfl, lt, a, b, c⟩, fun y H7 yy => ?_⟩
      obtain ⟨rfl, hy⟩ := w.yields j H' y H7 lt' (sq_of hL') yy
      rw [List.getElem?_map, List.getElem?_eq_getElem lt] at hy
      have hy : some (kV e.own[j].1) = some y := hy
      cases hy
      refine ⟨hw _, hk _ _ _ (Ex.refl _) _ fun H8 e8 => hv _ _ _ (Ex.refl _) _ fun H9 e9 => ?_⟩
      have e79 := e8.trans e9
      have hD9 := e79 _ _ hD'
      have lk : kvs'.length ≤ 200 := by
        rw [hi'.len, List.length_append, List.length_take]
        omega
      have tj : (ownI nm e).take (j + 1) = (ownI nm e).take j ++ [(e.own[j].1, .d (.str nm))] := by
        have : (ownI nm e)[j]? = some (e.own[j].1, .d (.str nm)) := by
          unfold ownI
          rw [List.getElem?_map, List.getElem?_eq_getElem lt]
          rfl
        rw [List.take_succ, this]
        rfl
      have no : valV kvs' e.own[j].1 = none := Lw.valV_no (by
        rw [hi'.keys]
        intro z
        have nd' : ((its ++ (ownI nm e).take (j + 1)).map (·.1)).Nodup := by
          refine List.Nodup.sublist (List.Sublist.map _ ?_) nd
          exact (List.Sublist.refl its).append (List.take_sublist _ _)
        rw [tj, ← List.append_assoc, List.map_append] at nd'
        exact (List.nodup_append.mp nd').2.2 _ z _ (List.mem_cons_self) rfl)
      have LD : L ≠ D := fun z => by rw [z, hD'] at hL'; cases hL'
      refine ⟨kvs', _, rfl, hD9, sz_lt (by omega), (exj.trans e79).mut nD, by rw [upd_ne LD]; exact e79 _ _ hL', _, upd_same, ?_⟩
      rw [putK_new _ no, tj, ← List.append_assoc]
      exact ((hi'.up e79).put hD9).snoc (t := .d (.str nm)) (.str _)
    · have : j = e.own.length := by omega
      subst this
      have st := w.stops H' (sq_of hL')
      rw [List.length_map] at st
      refine .inl ⟨st, nx H' kvs' exj hD' ?_⟩
      have : (ownI nm e).take e.own.length = ownI nm e := List.take_of_length_le (by unfold ownI; rw [List.length_map]; exact Nat.le_refl _)
      rw [this] at hi'
      exact hi'
end
end Chk
set_option maxHeartbeats 2000000
/-! Pact.__init__ -/
namespace Chk
open PySem PySem.Spec PyProof.Rows L2 Evl Pd Gd Us Wlk
def methodsP : List Str := ["end", "other", "words", "owner", "setting", "with_end"]
/-- a pact: two ends, and the owners of their words -/
structure PactAt (K : PySem.W.Frag) (C CE CP : Addr) (l r : Eg) (a : Addr) (H : Hp) : Prop where
  ex : ∃ (dx : Addr) (fs : List (Str × V)) (x y : V) (d : Addr) (vs : List (Key × V)), H a = some (.ins CP dx fs) ∧ EndV K C CE l x H ∧ EndV K C CE r y H ∧ H d = some (.dK vs) ∧ ItemsV K C (ownersI l r) vs H ∧
    fs.lookup ("_left" : Str) = some x ∧ fs.lookup ("_right" : Str) = some y ∧ fs.lookup ("_owners" : Str) = some (.ref d) ∧ ∀ m ∈ methodsP, fs.lookup m = none
def PactV (K : PySem.W.Frag) (C CE CP : Addr) (l r : Eg) : PV := fun x H => ∃ a, x = .ref a ∧ PactAt K C CE CP l r a H
theorem PactAt.up {K : PySem.W.Frag} {C CE CP : Addr} {l r : Eg} {a : Addr} {H H' : Hp} (h : PactAt K C CE CP l r a H) (e : Ex H H') : PactAt K C CE CP l r a H' := by
  obtain ⟨dx, fs, x, y, d, vs, h0, h1, h2, h3, h4, rest⟩ := h.ex
  exact ⟨dx, fs, x, y, d, vs, e _ _ h0, mo_end _ _ _ e h1, mo_end _ _ _ e h2, e _ _ h3, h4.up e, rest⟩
theorem mo_pact {K : PySem.W.Frag} {C CE CP : Addr} {l r : Eg} : Mo (PactV K C CE CP l r) := fun _ _ _ e ⟨a, h1, h2⟩ => ⟨a, h1, h2.up e⟩
structure ClsP (K : PySem.W.Frag) (CP : Addr) : Prop where
  cl : Cls K CP
  left : NoAttr K CP "_left"
  right : NoAttr K CP "_right"
  owners : NoAttr K CP "_owners"
abbrev nInitP : List Str := ["self", "left", "right", "part", "word", "name", "end"]
def spInitP (K : PySem.W.Frag) (C CE CP CB : Addr) : Sp := fun vs H Q E => vs.length = 3 ∧ ∃ (a dx : Addr) (x y : V) (A B : Any), vs = [.ref a, x, y] ∧ H a = some (.ins CP dx []) ∧ AnyV K C CE A x H ∧ AnyV K C CE B y H ∧
  (∀ t, wrongP A B = some t → ∀ d H', Ex H H' → H' d = none → E (.ref CB) (some d) (upd H' d (.xd [("part", V.str t)]))) ∧
  (∀ l r, A = .e l → B = .e r → fitW l r = true → ∀ H', (∀ b o, b ≠ a → H b = some o → H' b = some o) → PactAt K C CE CP l r a H' → Q .non H')
section
variable {K : PySem.W.Frag} {C CE CP : Addr} {H H' : Hp} {l r : Eg}
theorem end_stay {c a dx : Addr} {g : Eg} {x : V} (ha : H a = some (.ins c dx [])) (st : ∀ b o, b ≠ a → H b = some o → H' b = some o) (h : EndV K C CE g x H) : EndV K C CE g x H' := by
  obtain ⟨b, rfl, at_⟩ := h
  obtain ⟨dx', fs, d1, d2, d3, v1, v2, v3, h0, h1, h2, h3, i1, i2, i3, f1, rest⟩ := at_.ex
  have nb : b ≠ a := fun z => by
    rw [z, ha] at h0
    cases h0
    cases f1
  have nd : ∀ {d : Addr} {v : List (Key × V)}, H d = some (.dK v) → d ≠ a := fun {d v} hd z => by
    rw [z, ha] at hd
    cases hd
  exact ⟨b, rfl, dx', fs, d1, d2, d3, v1, v2, v3, st _ _ nb h0, st _ _ (nd h1) h1, st _ _ (nd h2) h2, st _ _ (nd h3) h3, i1.stay ha st, i2.stay ha st, i3.stay ha st, f1, rest⟩
/-- {word: name for name, end in (("left", left), ("right", right)) for word in end.words()} -/
theorem p_owners {s0 s3 : Option V} {x y : V} {E : XK} (Nl : Neat l) (Nr : Neat r) (f : fitW l r = true) (hx : EndV K C CE l x H) (hy : EndV K C CE r y H) :
    EvP (Dc2.tDc2 (iTup K (tTup (tCons (tTup (tCons (tC (.str "left")) (tCons (tVar 1) tNil))) (tCons (tTup (tCons (tC (.str "right")) (tCons (tVar 2) tNil))) tNil)))) (gTup K 2 (gCons (gName 5) (gCons (gName 6) gNil))) (iList K (tMeth CE "words" (spWords K C CE) [] E (tVar 6) tNil)) (gName 4) (tVar 4) (tVar 5) [5, 6, 4] [4]) [s0, some x, some y, s3, none, none, none] H
      (fun v H' => ∃ D ws, v = .ref D ∧ H' D = some (.dK ws) ∧ ItemsV K C (ownersI l r) ws H') := fun H0 e0 Q q => by
  refine ⟨x, rfl, show (2 : Nat) ≤ sizeLine by decide, fun A nA => ⟨y, rfl, show (2 : Nat) ≤ sizeLine by decide, fun B nB => ⟨show (2 : Nat) ≤ sizeLine by decide, fun O nO => ⟨O, rfl, ⟨_, st_of (upd_same (a := O))⟩, fun D nD => ?_⟩⟩⟩⟩
  have x1 : Ex H0 (upd H0 A (.tup [.str "left", x])) := Ex.new nA
  have x2 : Ex (upd H0 A (.tup [.str "left", x])) (upd (upd H0 A (.tup [.str "left", x])) B (.tup [.str "right", y])) := Ex.new nB
  have x3 : Ex (upd (upd H0 A (.tup [.str "left", x])) B (.tup [.str "right", y])) (upd (upd (upd H0 A (.tup [.str "left", x])) B (.tup [.str "right", y])) O (.tup [.ref A, .ref B])) := Ex.new nO
  have hO : (upd (upd (upd H0 A (.tup [.str "left", x])) B (.tup [.str "right", y])) O (.tup [.ref A, .ref B])) O = some (.tup [.ref A, .ref B]) := upd_same
  have hA : (upd (upd (upd H0 A (.tup [.str "left", x])) B (.tup [.str "right", y])) O (.tup [.ref A, .ref B])) A = some (.tup [.str "left", x]) := x3 _ _ (x2 _ _ upd_same)
  have hB : (upd (upd (upd H0 A (.tup [.str "left", x])) B (.tup [.str "right", y])) O (.tup [.ref A, .ref B])) B = some (.tup [.str "right", y]) := x3 _ _ upd_same
  have e1 := x1.trans (x2.trans x3)
  generalize upd (upd (upd H0 A (.tup [.str "left", x])) B (.tup [.str "right", y])) O (.tup [.ref A, .ref B]) = H1 at nD hO hA hB e1 ⊢
  have e01 := e0.trans e1
  have nd := owners_nodup Nl Nr f
  have w := walk_tup (K := K) (a := O) (xs := [.ref A, .ref B])
  have lo := two_own Nl
  refine ⟨fun i m H' => m = 2 - i ∧ i ≤ 2 ∧ Ex H1 H' ∧ ∃ kvs, H' D = some (.dK kvs) ∧ ItemsV K C (if i = 0 then [] else if i = 1 then ownI "left" l else ownersI l r) kvs H', ⟨2, rfl, by decide, Ex.new nD, [], upd_same, ⟨rfl, fun i k t h => by simp at h⟩⟩, ?_⟩
  rintro i m H' ⟨rfl, hi, ex, kvs, hD, it⟩
  have sO : SqT K H' O [.ref A, .ref B] := st_of (ex _ _ hO)
  have hi3 : i = 0 ∨ i = 1 ∨ i = 2 := by omega
  rcases hi3 with rfl | rfl | rfl
  · refine .inr ⟨w.goes 0 H' (by simp) sO, fun H3 => Ex H1 H3 ∧ ∃ kvs, H3 D = some (.dK kvs) ∧ ItemsV K C (ownI "left" l) kvs H3, fun H3 ⟨a, b⟩ => ⟨1, by decide, rfl, by decide, a, b⟩, fun v H7 yy => ?_⟩
    obtain ⟨rfl, hv⟩ := w.yields 0 H' v H7 (by simp) sO yy
    cases hv
    refine two_go (ex _ _ hA) ⟨rfl, ?_⟩
    exact inner_words (its := []) (nm := "left") (iw := 4) (ie := 6) (ws := [4]) Nl (mo_end _ _ _ (e01.trans ex) hx) rfl ex nD hD it (by
      rw [List.nil_append, own_keysI]
      exact Nl.so.2.2) (by simp) (fun _ => rfl) (fun _ _ => ev_var rfl) (fun _ _ => ev_var rfl) fun H8 k8 a b c => ⟨a, k8, b, by rw [List.nil_append] at c; exact c⟩
  · refine .inr ⟨w.goes 1 H' (by simp) sO, fun H3 => Ex H1 H3 ∧ ∃ kvs, H3 D = some (.dK kvs) ∧ ItemsV K C (ownersI l r) kvs H3, fun H3 ⟨a, b⟩ => ⟨0, by decide, rfl, by decide, a, b⟩, fun v H7 yy => ?_⟩
    obtain ⟨rfl, hv⟩ := w.yields 1 H' v H7 (by simp) sO yy
    cases hv
    refine two_go (ex _ _ hB) ⟨rfl, ?_⟩
    exact inner_words (its := ownI "left" l) (nm := "right") (iw := 4) (ie := 6) (ws := [4]) Nr (mo_end _ _ _ (e01.trans ex) hy) rfl ex nD hD it nd (by unfold ownI; rw [List.length_map]; omega) (fun _ => rfl) (fun _ _ => ev_var rfl) (fun _ _ => ev_var rfl) fun H8 k8 a b c => ⟨a, k8, b, c⟩
  · exact .inl ⟨w.stops H' sO, q (.ref D) H' (e1.trans ex) ⟨D, kvs, rfl, hD, it⟩⟩
end
end Chk
set_option maxHeartbeats 4000000
namespace Chk
open PySem PySem.Spec PyProof.Rows L2 Evl Pd Gd Us Wlk
theorem wrongP_none {A B : Any} (h : wrongP A B = none) : ∃ l r, A = .e l ∧ B = .e r ∧ fitW l r = true := by
  match A, B, h with
  | .e l, .e r, h =>
    refine ⟨l, r, rfl, rfl, ?_⟩
    rw [wrongP_ee] at h
    by_cases f : fitW l r = true
    · exact f
    · rw [if_neg f] at h
      cases h
section
variable {P : Program} {w : World} {K : PySem.W.Frag} {mg : Str → Option Value} {base : Heap} {C CE CP CD CBE CB fB f : Addr} {fd : FuncData}
end
end Chk
set_option maxHeartbeats 4000000
/-! A pact's methods. -/
namespace Chk
open PySem PySem.Spec PyProof.Rows L2 Evl Pd Gd Us Wlk
/-- a method that may raise -/
def MC (P : Program) (w : World) (K : PySem.W.Frag) (mg : Str → Option Value) (base : Heap) (C : Addr) (m : Str) (k : Nat) (ps : List Str) (sp : Sp) : Prop := ∃ f fd, Meth K C m f ∧ L2.Binds K fd ps [] ∧ FnOk P w K mg base (L2.CX P w) k f fd ps sp
theorem pe_mC {X : Cx} {C : Addr} {m : Str} {k j : Nat} {ps : List Str} {sp : Sp} {e o : Expr} {es : List Expr} {pos apos : Pos} {ta : TE} {t : TA} {E : XK} {pl : Sem Bool} (S : MC X.prog X.w X.K X.mg X.base C m k ps sp) (cl : Cls X.K C) (hr : Room j X.A) (hk : k ≤ j) (hx : Passes (L2.CX X.prog X.w) X E) (ho : PE X o ta) (ha : PA X (e :: es) t)
    (hst : starEach (e :: es) X.env = (false, eval e X.env) :: starEach es X.env := by rfl) (hpl : (backTo pos (starEach es X.env)).any (·.1) = false := by rfl)
    (ht : eval (.Call (.Attribute o m apos) (e :: es) [] pos) X.env = (do
      let ov ← eval o X.env
      standAt apos.atName
      let (f, first) ← holding [ov] (getMethod ov m pl)
      callWith pos f first (backTo pos (starEach (e :: es) X.env)) (backToKw pos (keywordEach [] X.env))) := by rfl) :
    PE X (.Call (.Attribute o m apos) (e :: es) [] pos) (tMeth C m sp [] E ta t) := by
  obtain ⟨f, fd, M, b, F⟩ := S
  exact pe_meth ho cl M F (hr.mono hk) b .nil hx ha hst hpl ht
def selP (l r : Eg) (s : Str) : Eg := if s = "left" then l else r
def othN (s : Str) : Str := if s = "left" then "right" else "left"
def spEndP (K : PySem.W.Frag) (C CE CP CN : Addr) : Sp := fun vs H Q E => vs.length = 2 ∧ ∃ x y d l r, vs = [x, y] ∧ PactV K C CE CP l r x H ∧ Dq H y d ∧
  (∀ s, d = .str s → inT namesT d = true → ∀ v H', Ex H H' → EndV K C CE (selP l r s) v H' → Q v H') ∧ (inT namesT d = false → ∀ o H', Ex H H' → H' o = none → E (.ref CN) (some o) (upd H' o (.xd [("value", y)])))
def spOther (K : PySem.W.Frag) (CP CN : Addr) : Sp := fun vs H Q E => vs.length = 2 ∧ ∃ x y d, vs = [x, y] ∧ Dq H y d ∧
  (∀ s, d = .str s → inT namesT d = true → ∀ H', Ex H H' → Q (.str (othN s)) H') ∧ (inT namesT d = false → ∀ o H', Ex H H' → H' o = none → E (.ref CN) (some o) (upd H' o (.xd [("value", y)])))
def spWordsP (K : PySem.W.Frag) (C CE CP : Addr) : Sp := fun vs H Q _ => vs.length = 1 ∧ ∃ x l r, vs = [x] ∧ PactV K C CE CP l r x H ∧ Neat l ∧ Neat r ∧ ∀ y H', Ex H H' → Qe (.list ((wordsI (ownersI l r)).map PyData.str)) y H' → Q y H'
def spOwner (K : PySem.W.Frag) (C CE CP CN : Addr) : Sp := fun vs H Q E => vs.length = 2 ∧ ∃ x y d l r, vs = [x, y] ∧ PactV K C CE CP l r x H ∧ ((ownersI l r).map (·.1)).Nodup ∧ Dq H y d ∧
  (∀ s, d = .str s → hasW (ownersI l r) d = true → ∀ v H', Ex H H' → ItmV K C (getK (ownersI l r) s) v H' → Q v H') ∧ (hasW (ownersI l r) d = false → ∀ o H', Ex H H' → H' o = none → E (.ref CN) (some o) (upd H' o (.xd [("value", y)])))
theorem allR_owners {l r : Eg} (Nl : Neat l) (Nr : Neat r) : AllR (ownersI l r) := fun p hp => by
  unfold ownersI at hp
  rcases List.mem_append.mp hp with m | m
  · obtain ⟨q, hq, rfl⟩ := List.mem_map.mp m
    exact neat_own Nl q hq
  · obtain ⟨q, hq, rfl⟩ := List.mem_map.mp m
    exact neat_own Nr q hq
section
variable {P : Program} {w : World} {K : PySem.W.Frag} {mg : Str → Option Value} {base : Heap} {C CE CP CN fN f : Addr} {fd : FuncData}
end
end Chk
set_option maxHeartbeats 4000000
namespace Chk
open PySem PySem.Spec PyProof.Rows L2 Evl Pd Gd Us Wlk
structure NeatP (l r : Eg) : Prop where
  nl : Neat l
  nr : Neat r
  ll : Laid l
  lr : Laid r
  fit : fitW l r = true
theorem NeatP.nd {l r : Eg} (N : NeatP l r) : ((ownersI l r).map (·.1)).Nodup := owners_nodup N.nl N.nr N.fit
def setOf (l r : Eg) (s : Str) : Itm := if hasW l.own (.str s) then getK l.own s else getK r.own s
theorem hasW_owners {l r : Eg} {s : Str} : hasW (ownersI l r) (.str s) = (hasW l.own (.str s) || hasW r.own (.str s)) := by
  show ((ownI "left" l ++ ownI "right" r).any fun p => decide (p.1 = .inr s)) = _
  unfold ownI
  rw [List.any_append, List.any_map, List.any_map]
  rfl
theorem getK_mem {kvs : Its'} (nd : (kvs.map (·.1)).Nodup) {s : Str} {t : Itm} (h : ((.inr s : Key), t) ∈ kvs) : getK kvs s = t := by
  obtain ⟨i, hi, e⟩ := List.getElem_of_mem h
  exact item_at nd (i := i) (by rw [List.getElem?_eq_getElem hi, e])
theorem owner_left {l r : Eg} (N : NeatP l r) {s : Str} (h : hasW l.own (.str s) = true) : getK (ownersI l r) s = .d (.str "left") := by
  obtain ⟨p, hp, e⟩ := List.any_eq_true.mp (show (l.own.any fun p => decide (p.1 = .inr s)) = true from h)
  have e : p.1 = .inr s := of_decide_eq_true e
  exact getK_mem N.nd (List.mem_append_left _ (List.mem_map.mpr ⟨p, hp, by rw [e]⟩))
theorem owner_right {l r : Eg} (N : NeatP l r) {s : Str} (h : hasW r.own (.str s) = true) : getK (ownersI l r) s = .d (.str "right") := by
  obtain ⟨p, hp, e⟩ := List.any_eq_true.mp (show (r.own.any fun p => decide (p.1 = .inr s)) = true from h)
  have e : p.1 = .inr s := of_decide_eq_true e
  exact getK_mem N.nd (List.mem_append_right _ (List.mem_map.mpr ⟨p, hp, by rw [e]⟩))
def newA (l : Eg) (A : Any) (s : Str) : Any := if s = "left" then A else .e l
def newB (r : Eg) (A : Any) (s : Str) : Any := if s = "left" then .e r else A
def spSetP (K : PySem.W.Frag) (C CE CP CN : Addr) : Sp := fun vs H Q E => vs.length = 2 ∧ ∃ x y d l r, vs = [x, y] ∧ PactV K C CE CP l r x H ∧ NeatP l r ∧ Dq H y d ∧
  (∀ s, d = .str s → hasW (ownersI l r) d = true → ∀ v H', Ex H H' → ItmV K C (setOf l r s) v H' → Q v H') ∧ (hasW (ownersI l r) d = false → ∀ o H', Ex H H' → H' o = none → E (.ref CN) (some o) (upd H' o (.xd [("value", y)])))
def spWithEnd (K : PySem.W.Frag) (C CE CP CN CB : Addr) : Sp := fun vs H Q E => vs.length = 3 ∧ ∃ x y z d A l r, vs = [x, y, z] ∧ PactV K C CE CP l r x H ∧ NeatP l r ∧ Dq H y d ∧ AnyV K C CE A z H ∧
  (∀ s, d = .str s → inT namesT d = true → (∀ t, wrongP (newA l A s) (newB r A s) = some t → ∀ o H', Ex H H' → H' o = none → E (.ref CB) (some o) (upd H' o (.xd [("part", V.str t)]))) ∧ ∀ l' r', newA l A s = .e l' → newB r A s = .e r' → fitW l' r' = true → ∀ v H', Ex H H' → PactV K C CE CP l' r' v H' → Q v H') ∧
  (inT namesT d = false → ∀ o H', Ex H H' → H' o = none → E (.ref CN) (some o) (upd H' o (.xd [("value", y)])))
def spEqP (K : PySem.W.Frag) (C CE CP : Addr) : Sp := fun vs H Q _ => vs.length = 2 ∧ ∃ a l r y, vs = [.ref a, y] ∧ PactAt K C CE CP l r a H ∧ NeatP l r ∧ ((∃ b l' r', y = .ref b ∧ PactAt K C CE CP l' r' b H ∧ NeatP l' r' ∧ ∀ H', Ex H H' → Q (.bl (eqE l l' && eqE r r')) H') ∨
  ∃ t, (∀ H1, Ex H H1 → TyX K H1 y t) ∧ PySem.W.kitOne K t (.ref CP) = some false ∧ ∀ H', Ex H H' → Q (.bl false) H')
abbrev psInitP : List Str := ["self", "left", "right"]
section
variable {K : PySem.W.Frag} {C CE CP CB : Addr} {σ : L2.St} {H : Hp} {ta : TA} {E : XK} {A B : Any} {l r : Eg}
/-- Pact(..) of ends that fit -/
theorem p_makeP (h : EvPs ta σ H [AnyV K C CE (.e l), AnyV K C CE (.e r)]) (f : fitW l r = true) : EvP (tMake CP (spInitP K C CE CP CB) [] E ta) σ H (PactV K C CE CP l r) := fun H1 e Q q => h H1 e _ fun xs H2 e2 ps x dx n1 n2 _ => by
  match xs, ps with
  | [u, v], ⟨pu, pv, _⟩ =>
    have up := ex_laid (C := CP) n1 n2
    refine ⟨rfl, x, dx, u, v, .e l, .e r, rfl, upd_same, mo_any _ _ _ up pu, mo_any _ _ _ up pv, fun t ht => ?_, fun l' r' el er _ H3 kp at_ => ⟨rfl, q _ H3 ?_ ⟨x, rfl, ?_⟩⟩⟩
    · rw [wrongP_ee, f] at ht
      cases ht
    · exact e2.trans fun b o eb => kp b o (ne_of_none eb n1) (up b o eb)
    · cases el
      cases er
      exact at_
theorem make_badP {Q : VK} {t : Str} (h : EvPs ta σ H [AnyV K C CE A, AnyV K C CE B]) (bad : wrongP A B = some t) (hE : ∀ d H', Ex H H' → H' d = none → E (.ref CB) (some d) (upd H' d (.xd [("part", V.str t)]))) : tMake CP (spInitP K C CE CP CB) [] E ta σ H Q :=
  h H (Ex.refl H) _ fun xs H2 e2 ps x dx n1 n2 _ => by
    match xs, ps with
    | [u, v], ⟨pu, pv, _⟩ =>
      have up := ex_laid (C := CP) n1 n2
      refine ⟨rfl, x, dx, u, v, A, B, rfl, upd_same, mo_any _ _ _ up pu, mo_any _ _ _ up pv, fun s hs d H3 ex hd => ?_, fun l' r' el er f => ?_⟩
      · rw [bad] at hs
        cases hs
        exact hE d H3 (e2.trans (up.trans ex)) hd
      · subst el er
        rw [wrongP_ee, f] at bad
        cases bad
end
section
variable {P : Program} {w : World} {K : PySem.W.Frag} {mg : Str → Option Value} {base : Heap} {C CE CP CD CN CB CBE fN f : Addr} {fd : FuncData}
end
end Chk
set_option maxHeartbeats 2000000
/-! The class Pact for those that call it. -/
namespace Chk
open PySem PySem.Spec PyProof.Rows L2 Evl Pd Gd Us Wlk
structure PactC (P : Program) (w : World) (K : PySem.W.Frag) (mg : Str → Option Value) (base : Heap) (C CE CP CN CB : Addr) : Prop where
  mP : mg "Pact" = some (.ref CP)
  T : ClsP K CP
  make : ∃ fI fd, Mk K CP fI ∧ L2.Binds K fd psInitP [] ∧ FnOk P w K mg base (L2.CX P w) 4 fI fd psInitP (spInitP K C CE CP CB)
  left : ∃ p g fd, PropOf K CP "left" p g ∧ L2.Binds K fd ["self"] [] ∧ FnOk P w K mg base CX0 1 g fd ["self"] (getSp CP "_left")
  right : ∃ p g fd, PropOf K CP "right" p g ∧ L2.Binds K fd ["self"] [] ∧ FnOk P w K mg base CX0 1 g fd ["self"] (getSp CP "_right")
  end_ : MC P w K mg base CP "end" 3 ["self", "name"] (spEndP K C CE CP CN)
  other : MC P w K mg base CP "other" 3 ["self", "name"] (spOther K CP CN)
  words : ∃ f fd, Meth K CP "words" f ∧ L2.Binds K fd ["self"] [] ∧ FnOk P w K mg base CX0 1 f fd ["self"] (spWordsP K C CE CP)
  owner : MC P w K mg base CP "owner" 2 ["self", "word"] (spOwner K C CE CP CN)
  setting : MC P w K mg base CP "setting" 4 ["self", "word"] (spSetP K C CE CP CN)
  eq : ∃ f fd, OwnNe.EqC K CP f ∧ L2.Binds K fd ["self", "other"] [] ∧ FnOk P w K mg base CX0 4 f fd ["self", "other"] (spEqP K C CE CP)
  nl : PySem.W.notFirst K CP (.type "list") = true
  nd : PySem.W.notFirst K CP (.type "dict") = true
section
variable {X : Cx} {C CE CP CN CB : Addr} {e o : Expr} {es : List Expr} {p pos apos : Pos} {ta tb : TE} {t : TA} {j : Nat} {E : XK}
theorem pe_pact (S : PactC X.prog X.w X.K X.mg X.base C CE CP CN CB) (hr : Room j X.A) (hk : 5 ≤ j) (hg : Gl X "Pact") (hx : Passes (L2.CX X.prog X.w) X E) (ha : PA X (e :: es) t)
    (he : starEach (e :: es) X.env = (false, eval e X.env) :: starEach es X.env := by rfl) (hpl : (backTo pos (starEach es X.env)).any (·.1) = false := by rfl) :
    PE X (.Call (.Name "Pact" p) (e :: es) [] pos) (tMake CP (spInitP X.K C CE CP CB) [] E t) := by
  obtain ⟨fI, fd, M, b, F⟩ := S.make
  exact pe_make M F (hr.mono hk) hg S.mP b .nil hx ha (by decide) he hpl
theorem pe_leftP (S : PactC X.prog X.w X.K X.mg X.base C CE CP CN CB) (hr : Room j X.A) (hk : 2 ≤ j) (ho : PE X o ta) (hab : attributeBase o "left" X.env (eval o X.env) = eval o X.env := by rfl) : PE X (.Attribute o "left" pos) (tProp CP (getSp CP "_left") [] (fun _ _ _ => False) ta) := by
  obtain ⟨pp, g, fd, M, b, F⟩ := S.left
  exact pe_prop ho S.T.cl M F (hr.mono hk) b .nil pass0 hab
theorem pe_rightP (S : PactC X.prog X.w X.K X.mg X.base C CE CP CN CB) (hr : Room j X.A) (hk : 2 ≤ j) (ho : PE X o ta) (hab : attributeBase o "right" X.env (eval o X.env) = eval o X.env := by rfl) : PE X (.Attribute o "right" pos) (tProp CP (getSp CP "_right") [] (fun _ _ _ => False) ta) := by
  obtain ⟨pp, g, fd, M, b, F⟩ := S.right
  exact pe_prop ho S.T.cl M F (hr.mono hk) b .nil pass0 hab
theorem pe_wordsPc {pl : Sem Bool} (S : PactC X.prog X.w X.K X.mg X.base C CE CP CN CB) (hr : Room j X.A) (hk : 1 ≤ j) (ho : PE X o ta)
    (ht : eval (.Call (.Attribute o "words" apos) [] [] pos) X.env = (do
      let ov ← eval o X.env
      standAt apos.atName
      let (f, first) ← holding [ov] (getMethod ov "words" pl)
      callWith pos f first (backTo pos (starEach [] X.env)) (backToKw pos (keywordEach [] X.env))) := by rfl) :
    PE X (.Call (.Attribute o "words" apos) [] [] pos) (tMeth CP "words" (spWordsP X.K C CE CP) [] (fun _ _ _ => False) ta tNil) := by
  obtain ⟨f, fd, M, b, F⟩ := S.words
  exact pe_meth0 ho S.T.cl M F (hr.mono hk) b .nil pass0 ht
theorem op_eqPact (S : PactC X.prog X.w X.K X.mg X.base C CE CP CN CB) (hr : Room j X.A) (hk : 4 ≤ j) : OpR X (compareOp .Eq) (OwnNe.rOwn CP (spEqP X.K C CE CP) false) := by
  obtain ⟨f, fd, M, b, F⟩ := S.eq
  exact OwnNe.op_eqOwn F M b (hr.mono hk) S.nl
theorem op_nePact (S : PactC X.prog X.w X.K X.mg X.base C CE CP CN CB) (hr : Room j X.A) (hk : 5 ≤ j) : OpR X (compareOp .NotEq) (OwnNe.rOwn CP (spEqP X.K C CE CP) true) := by
  obtain ⟨f, fd, M, b, F⟩ := S.eq
  exact OwnNe.op_neOwn F M b (hr.mono hk) S.nl
theorem op_eqPactD (S : PactC X.prog X.w X.K X.mg X.base C CE CP CN CB) (hr : Room j X.A) (hk : 4 ≤ j) : OpR X (compareOp .Eq) (OwnNe.rOwnD CP (spEqP X.K C CE CP)) := by
  obtain ⟨f, fd, M, b, F⟩ := S.eq
  exact OwnNe.op_eqOwnD F M b (hr.mono hk) S.nd
end
section
variable {K : PySem.W.Frag} {C CE CP CN CB : Addr} {σ : L2.St} {H : Hp} {te ty tz ta tb : TE} {l r l' r' : Eg} {s : Str} {d : PyData} {E : XK} {A : Any} {Q : VK}
theorem mon_pact : Lw.MoN (PactV K C CE CP l r) := fun _ _ _ e ⟨a, ea, at_⟩ => by
  obtain ⟨dx, fs, x, y, d, vs, h0, h1, h2, h3, h4, rest⟩ := at_.ex
  exact ⟨a, ea, dx, fs, x, y, d, vs, Lw.st_n e h0, Lw.mon_end _ _ _ e h1, Lw.mon_end _ _ _ e h2, Lw.st_n e h3, Lw.items_n e h4, rest⟩
theorem p_leftP (h : EvP te σ H (PactV K C CE CP l r)) : EvP (tProp CP (getSp CP "_left") [] E te) σ H (EndV K C CE l) := fun H1 e1 Q q =>
  h H1 e1 _ fun x H2 e2 ⟨a, ex, at_⟩ => by
    obtain ⟨dx, fs, u, v, dd, ws, h0, h1, h2, h3, h4, f1, f2, f3, fm⟩ := at_.ex
    exact ⟨a, dx, fs, ex, h0, a, dx, fs, u, rfl, h0, f1, q u H2 e2 h1⟩
theorem p_rightP (h : EvP te σ H (PactV K C CE CP l r)) : EvP (tProp CP (getSp CP "_right") [] E te) σ H (EndV K C CE r) := fun H1 e1 Q q =>
  h H1 e1 _ fun x H2 e2 ⟨a, ex, at_⟩ => by
    obtain ⟨dx, fs, u, v, dd, ws, h0, h1, h2, h3, h4, f1, f2, f3, fm⟩ := at_.ex
    exact ⟨a, dx, fs, ex, h0, a, dx, fs, v, rfl, h0, f2, q v H2 e2 h2⟩
theorem p_endP (h : EvP te σ H (PactV K C CE CP l r)) (hs : Ev ty σ H (.str s)) (hn : inT namesT (.str s) = true) : EvP (tMeth CP "end" (spEndP K C CE CP CN) [] E te (tCons ty tNil)) σ H (EndV K C CE (selP l r s)) := fun H1 e1 Q q =>
  h H1 e1 _ fun x H2 e2 ⟨a, ex, at_⟩ => by
    obtain ⟨dx, fs, u, v, dd, ws, h0, h1, h2, h3, h4, f1, f2, f3, fm⟩ := id at_.ex
    exact ⟨a, dx, fs, ex, h0, fm _ (by decide), hs H2 (e1.trans e2) _ fun H3 e3 => ⟨rfl, x, .str s, .str s, l, r, rfl, ⟨a, ex, at_.up e3⟩, .str s, fun t et _ v H4 e4 p => (by cases et; exact q v H4 (e2.trans (e3.trans e4)) p), fun c => (by rw [hn] at c; cases c)⟩⟩
theorem endP_bad (h : EvP te σ H (PactV K C CE CP l r)) (hd : EvP ty σ H (Qe d)) (no : inT namesT d = false) (hE : ∀ y o H', Ex H H' → H' o = none → Dq H' y d → E (.ref CN) (some o) (upd H' o (.xd [("value", y)]))) : tMeth CP "end" (spEndP K C CE CP CN) [] E te (tCons ty tNil) σ H Q :=
  h H (Ex.refl _) _ fun x H2 e2 ⟨a, ex, at_⟩ => by
    obtain ⟨dx, fs, u, v, dd, ws, h0, h1, h2, h3, h4, f1, f2, f3, fm⟩ := id at_.ex
    exact ⟨a, dx, fs, ex, h0, fm _ (by decide), hd H2 e2 _ fun y H3 e3 py => ⟨rfl, x, y, d, l, r, rfl, ⟨a, ex, at_.up e3⟩, py, fun t et c => (by rw [no] at c; cases c), fun _ o H4 e4 ho => hE y o H4 (e2.trans (e3.trans e4)) ho (mo_qe _ _ _ e4 py)⟩⟩
theorem ev_otherP (h : EvP te σ H (PactV K C CE CP l r)) (hs : Ev ty σ H (.str s)) (hn : inT namesT (.str s) = true) : Ev (tMeth CP "other" (spOther K CP CN) [] E te (tCons ty tNil)) σ H (.str (othN s)) := fun H1 e1 Q q =>
  h H1 e1 _ fun x H2 e2 ⟨a, ex, at_⟩ => by
    obtain ⟨dx, fs, u, v, dd, ws, h0, h1, h2, h3, h4, f1, f2, f3, fm⟩ := id at_.ex
    exact ⟨a, dx, fs, ex, h0, fm _ (by decide), hs H2 (e1.trans e2) _ fun H3 e3 => ⟨rfl, x, .str s, .str s, rfl, .str s, fun t et _ H4 e4 => (by cases et; exact q H4 (e2.trans (e3.trans e4))), fun c => (by rw [hn] at c; cases c)⟩⟩
theorem otherP_bad (h : EvP te σ H (PactV K C CE CP l r)) (hd : EvP ty σ H (Qe d)) (no : inT namesT d = false) (hE : ∀ y o H', Ex H H' → H' o = none → Dq H' y d → E (.ref CN) (some o) (upd H' o (.xd [("value", y)]))) : tMeth CP "other" (spOther K CP CN) [] E te (tCons ty tNil) σ H Q :=
  h H (Ex.refl _) _ fun x H2 e2 ⟨a, ex, at_⟩ => by
    obtain ⟨dx, fs, u, v, dd, ws, h0, h1, h2, h3, h4, f1, f2, f3, fm⟩ := id at_.ex
    exact ⟨a, dx, fs, ex, h0, fm _ (by decide), hd H2 e2 _ fun y H3 e3 py => ⟨rfl, x, y, d, rfl, py, fun t et c => (by rw [no] at c; cases c), fun _ o H4 e4 ho => hE y o H4 (e2.trans (e3.trans e4)) ho (mo_qe _ _ _ e4 py)⟩⟩
theorem p_wordsPc (h : EvP te σ H (PactV K C CE CP l r)) (N : NeatP l r) : EvP (tMeth CP "words" (spWordsP K C CE CP) [] E te tNil) σ H (Qe (.list ((wordsI (ownersI l r)).map PyData.str))) := fun H1 e1 Q q =>
  h H1 e1 _ fun x H2 e2 ⟨a, ex, at_⟩ => by
    obtain ⟨dx, fs, u, v, dd, ws, h0, h1, h2, h3, h4, f1, f2, f3, fm⟩ := id at_.ex
    exact ⟨a, dx, fs, ex, h0, fm _ (by decide), rfl, x, l, r, by rw [ex]; rfl, ⟨a, ex, at_⟩, N.nl, N.nr, fun y H3 e3 p => q y H3 (e2.trans e3) p⟩
theorem p_ownerP (h : EvP te σ H (PactV K C CE CP l r)) (N : NeatP l r) (hs : Ev ty σ H (.str s)) (hw : hasW (ownersI l r) (.str s) = true) : EvP (tMeth CP "owner" (spOwner K C CE CP CN) [] E te (tCons ty tNil)) σ H (ItmV K C (getK (ownersI l r) s)) := fun H1 e1 Q q =>
  h H1 e1 _ fun x H2 e2 ⟨a, ex, at_⟩ => by
    obtain ⟨dx, fs, u, v, dd, ws, h0, h1, h2, h3, h4, f1, f2, f3, fm⟩ := id at_.ex
    exact ⟨a, dx, fs, ex, h0, fm _ (by decide), hs H2 (e1.trans e2) _ fun H3 e3 => ⟨rfl, x, .str s, .str s, l, r, rfl, ⟨a, ex, at_.up e3⟩, N.nd, .str s, fun t et _ v H4 e4 p => (by cases et; exact q v H4 (e2.trans (e3.trans e4)) p), fun c => (by rw [hw] at c; cases c)⟩⟩
theorem ownerP_bad (h : EvP te σ H (PactV K C CE CP l r)) (N : NeatP l r) (hd : EvP ty σ H (Qe d)) (no : hasW (ownersI l r) d = false) (hE : ∀ y o H', Ex H H' → H' o = none → Dq H' y d → E (.ref CN) (some o) (upd H' o (.xd [("value", y)]))) : tMeth CP "owner" (spOwner K C CE CP CN) [] E te (tCons ty tNil) σ H Q :=
  h H (Ex.refl _) _ fun x H2 e2 ⟨a, ex, at_⟩ => by
    obtain ⟨dx, fs, u, v, dd, ws, h0, h1, h2, h3, h4, f1, f2, f3, fm⟩ := id at_.ex
    exact ⟨a, dx, fs, ex, h0, fm _ (by decide), hd H2 e2 _ fun y H3 e3 py => ⟨rfl, x, y, d, l, r, rfl, ⟨a, ex, at_.up e3⟩, N.nd, py, fun t et c => (by rw [no] at c; cases c), fun _ o H4 e4 ho => hE y o H4 (e2.trans (e3.trans e4)) ho (mo_qe _ _ _ e4 py)⟩⟩
theorem p_settingP (h : EvP te σ H (PactV K C CE CP l r)) (N : NeatP l r) (hs : Ev ty σ H (.str s)) (hw : hasW (ownersI l r) (.str s) = true) : EvP (tMeth CP "setting" (spSetP K C CE CP CN) [] E te (tCons ty tNil)) σ H (ItmV K C (setOf l r s)) := fun H1 e1 Q q =>
  h H1 e1 _ fun x H2 e2 ⟨a, ex, at_⟩ => by
    obtain ⟨dx, fs, u, v, dd, ws, h0, h1, h2, h3, h4, f1, f2, f3, fm⟩ := id at_.ex
    exact ⟨a, dx, fs, ex, h0, fm _ (by decide), hs H2 (e1.trans e2) _ fun H3 e3 => ⟨rfl, x, .str s, .str s, l, r, rfl, ⟨a, ex, at_.up e3⟩, N, .str s, fun t et _ v H4 e4 p => (by cases et; exact q v H4 (e2.trans (e3.trans e4)) p), fun c => (by rw [hw] at c; cases c)⟩⟩
theorem settingP_bad (h : EvP te σ H (PactV K C CE CP l r)) (N : NeatP l r) (hd : EvP ty σ H (Qe d)) (no : hasW (ownersI l r) d = false) (hE : ∀ y o H', Ex H H' → H' o = none → Dq H' y d → E (.ref CN) (some o) (upd H' o (.xd [("value", y)]))) : tMeth CP "setting" (spSetP K C CE CP CN) [] E te (tCons ty tNil) σ H Q :=
  h H (Ex.refl _) _ fun x H2 e2 ⟨a, ex, at_⟩ => by
    obtain ⟨dx, fs, u, v, dd, ws, h0, h1, h2, h3, h4, f1, f2, f3, fm⟩ := id at_.ex
    exact ⟨a, dx, fs, ex, h0, fm _ (by decide), hd H2 e2 _ fun y H3 e3 py => ⟨rfl, x, y, d, l, r, rfl, ⟨a, ex, at_.up e3⟩, N, py, fun t et c => (by rw [no] at c; cases c), fun _ o H4 e4 ho => hE y o H4 (e2.trans (e3.trans e4)) ho (mo_qe _ _ _ e4 py)⟩⟩
theorem p_withEnd (h : EvP te σ H (PactV K C CE CP l r)) (N : NeatP l r) (hs : Ev ty σ H (.str s)) (hn : inT namesT (.str s) = true) (hz : EvP tz σ H (AnyV K C CE A)) (ea : newA l A s = .e l') (eb : newB r A s = .e r') (f : fitW l' r' = true) : EvP (tMeth CP "with_end" (spWithEnd K C CE CP CN CB) [] E te (tCons ty (tCons tz tNil))) σ H (PactV K C CE CP l' r') := fun H1 e1 Q q =>
  h H1 e1 _ fun x H2 e2 ⟨a, ex, at_⟩ => by
    obtain ⟨dx, fs, u, v, dd, ws, h0, h1, h2, h3, h4, f1, f2, f3, fm⟩ := id at_.ex
    refine ⟨a, dx, fs, ex, h0, fm _ (by decide), hs H2 (e1.trans e2) _ fun H3 e3 => hz H3 (e1.trans (e2.trans e3)) _ fun z H4 e4 pz => ⟨rfl, x, .str s, z, .str s, A, l, r, rfl, ⟨a, ex, at_.up (e3.trans e4)⟩, N, .str s, pz, fun t et _ => ?_, fun c => (by rw [hn] at c; cases c)⟩⟩
    cases et
    refine ⟨fun p hp => ?_, fun l2 r2 e1' e2' _ v H5 e5 p => ?_⟩
    · rw [ea, eb, wrongP_ee, f] at hp
      cases hp
    · rw [ea] at e1'
      rw [eb] at e2'
      cases e1'
      cases e2'
      exact q v H5 (e2.trans (e3.trans (e4.trans e5))) p
theorem withEnd_bad (h : EvP te σ H (PactV K C CE CP l r)) (N : NeatP l r) (hd : EvP ty σ H (Qe d)) (no : inT namesT d = false) (hz : EvP tz σ H (AnyV K C CE A)) (hE : ∀ y o H', Ex H H' → H' o = none → Dq H' y d → E (.ref CN) (some o) (upd H' o (.xd [("value", y)]))) : tMeth CP "with_end" (spWithEnd K C CE CP CN CB) [] E te (tCons ty (tCons tz tNil)) σ H Q :=
  h H (Ex.refl _) _ fun x H2 e2 ⟨a, ex, at_⟩ => by
    obtain ⟨dx, fs, u, v, dd, ws, h0, h1, h2, h3, h4, f1, f2, f3, fm⟩ := id at_.ex
    exact ⟨a, dx, fs, ex, h0, fm _ (by decide), hd H2 e2 _ fun y H3 e3 py => hz H3 (e2.trans e3) _ fun z H4 e4 pz => ⟨rfl, x, y, z, d, A, l, r, rfl, ⟨a, ex, at_.up (e3.trans e4)⟩, N, mo_qe _ _ _ e4 py, pz, fun t et c => (by rw [no] at c; cases c), fun _ o H5 e5 ho => hE y o H5 (e2.trans (e3.trans (e4.trans e5))) ho (mo_qe _ _ _ (e4.trans e5) py)⟩⟩
theorem withEnd_badP {p : Str} (h : EvP te σ H (PactV K C CE CP l r)) (N : NeatP l r) (hs : Ev ty σ H (.str s)) (hn : inT namesT (.str s) = true) (hz : EvP tz σ H (AnyV K C CE A)) (bad : wrongP (newA l A s) (newB r A s) = some p) (hE : ∀ o H', Ex H H' → H' o = none → E (.ref CB) (some o) (upd H' o (.xd [("part", V.str p)]))) : tMeth CP "with_end" (spWithEnd K C CE CP CN CB) [] E te (tCons ty (tCons tz tNil)) σ H Q :=
  h H (Ex.refl _) _ fun x H2 e2 ⟨a, ex, at_⟩ => by
    obtain ⟨dx, fs, u, v, dd, ws, h0, h1, h2, h3, h4, f1, f2, f3, fm⟩ := id at_.ex
    refine ⟨a, dx, fs, ex, h0, fm _ (by decide), hs H2 e2 _ fun H3 e3 => hz H3 (e2.trans e3) _ fun z H4 e4 pz => ⟨rfl, x, .str s, z, .str s, A, l, r, rfl, ⟨a, ex, at_.up (e3.trans e4)⟩, N, .str s, pz, fun t et _ => ?_, fun c => (by rw [hn] at c; cases c)⟩⟩
    cases et
    refine ⟨fun p2 hp o H5 e5 ho => ?_, fun l2 r2 e1' e2' f2' => ?_⟩
    · rw [bad] at hp
      cases hp
      exact hE o H5 (e2.trans (e3.trans (e4.trans e5))) ho
    · rw [e1', e2', wrongP_ee, f2'] at bad
      cases bad
theorem ev_ownP {neg : Bool} (h1 : EvP ta σ H (PactV K C CE CP l r)) (h2 : EvP tb σ H (PactV K C CE CP l' r')) (N : NeatP l r) (N' : NeatP l' r') : Ev (tOp (OwnNe.rOwn CP (spEqP K C CE CP) neg) ta tb) σ H (.bl (if neg then !(eqE l l' && eqE r r') else eqE l l' && eqE r r')) := fun H1 x Q q =>
  h1 H1 x _ fun y H2 e2 p1 => h2 H2 (x.trans e2) _ fun z H3 e3 ⟨b, eb, at2⟩ => by
    obtain ⟨a, rfl, at1⟩ := mo_pact _ _ _ e3 p1
    subst eb
    obtain ⟨dx, fs, u, v, dd, ws, h0, _⟩ := id at1.ex
    obtain ⟨dy, gs, u', v', dd', ws', g0, _⟩ := id at2.ex
    exact ⟨a, dx, fs, rfl, h0, .inl ⟨b, dy, gs, rfl, g0⟩, rfl, a, l, r, .ref b, rfl, at1, N, .inl ⟨b, l', r', rfl, at2, N', fun H4 e4 => ⟨_, rfl, q H4 (e2.trans (e3.trans e4))⟩⟩⟩
/-- a pact beside a dict -/
theorem ev_ownPD {b : Addr} {kvs : List (Key × V)} (h1 : EvP ta σ H (PactV K C CE CP l r)) (h2 : Ev tb σ H (.ref b)) (hb : H b = some (.dK kvs)) (N : NeatP l r) (B : NotB K CP) : Ev (tOp (OwnNe.rOwnD CP (spEqP K C CE CP)) ta tb) σ H (.bl false) := fun H1 x Q q =>
  h1 H1 x _ fun y H2 e2 p1 => h2 H2 (x.trans e2) _ fun H3 e3 => by
    obtain ⟨a, rfl, at1⟩ := mo_pact _ _ _ e3 p1
    obtain ⟨dx, fs, u, v, dd, ws, h0, _⟩ := id at1.ex
    have hb3 := (x.trans (e2.trans e3)) _ _ hb
    exact ⟨a, dx, fs, b, kvs, rfl, h0, rfl, hb3, rfl, a, l, r, .ref b, rfl, at1, N, .inr ⟨.type "dict", fun H4 e4 => .base (.dK (e4 _ _ hb3)), B.dict, fun H4 e4 => ⟨_, rfl, q H4 (e2.trans (e3.trans e4))⟩⟩⟩
end
end Chk
set_option maxHeartbeats 4000000
/-! dict(xs) of a list of pairs (key, value), the keys tuples. -/
namespace DicT
open PySem PySem.Spec PyProof.Rows L2 Evl Pd Chk
def mergeT (k0 kvs : List (List Key × V)) : List (List Key × V) := kvs.foldl (fun acc kv => putK acc kv.1 kv.2) k0
/-- the pair at p: the key's own tuple, and its value -/
def PairT (H : Hp) (p : Addr) (kv : List Key × V) : Prop := ∃ b, H p = some (.tup [.ref b, kv.2]) ∧ H b = some (.tup (kv.1.map kV))
theorem length_mergeT : ∀ (more kvs : List (List Key × V)), (mergeT kvs more).length ≤ kvs.length + more.length
  | [], kvs => Nat.le_refl _
  | p :: r, kvs => by
    have a := length_mergeT r (putK kvs p.1 p.2)
    have b := length_putK kvs p.1 p.2
    show (mergeT (putK kvs p.1 p.2) r).length ≤ _
    rw [List.length_cons]
    omega
theorem kt_all {H : Hp} : ∀ {more : List (List Key × V)} {ts : List (List Key × Addr × Value)} {kvs : List (List Key × V)} {xs : List (List Key × Addr × Value)}, KT H more ts → KT H kvs xs → KT H (mergeT kvs more) (storedAllH xs ts) := by
  intro more ts kvs xs r
  unfold KT at r
  induction r generalizing kvs xs with
  | nil => exact fun z => z
  | @cons p q ps qs h t ih =>
    intro z
    have e : KT H (putK kvs p.1 p.2) (storedH xs q.1 q.2.1 q.2.2) := by
      have := z.put p.1 h.2.1 h.2.2
      rwa [← h.1]
    exact ih e
theorem kt_keys {H : Hp} {kvs : List (List Key × V)} {ts : List (List Key × Addr × Value)} (r : KT H kvs ts) {t : List Key × Addr × Value} (ht : t ∈ ts) : ∃ ks : List Key, H t.2.1 = some (.tup (ks.map kV)) ∧ ks = t.1 := by
  unfold KT at r
  induction r with
  | nil => cases ht
  | cons h _ ih =>
    rcases List.mem_cons.mp ht with rfl | ht
    · exact ⟨_, h.2.1, h.1⟩
    · exact ih ht
section
variable {X : Cx} {pins : List (Addr × Obj)} {σ : L2.St} {H : Hp} {s : Shared}
theorem pairs_at (I : Inv X pins σ H s) : ∀ {ps : List Addr} {kvs : List (List Key × V)}, Paired (PairT H) ps kvs → ∃ ts : List (List Key × Addr × Value), KT H kvs ts ∧ ts.length = ps.length ∧
    ∀ (j : Nat) (q : List Key × Addr × Value), ts[j]? = some q → ∃ b, ps[j]? = some b ∧ s.heap.IsTuple b #[.ref q.2.1, q.2.2]
  | _, _, .nil => ⟨[], .nil, rfl, fun j q e => by simp at e⟩
  | _, _, .cons (a := p) (b := kv) ⟨b, h1, h2⟩ t => by
    obtain ⟨ts, r, hl, hp⟩ := pairs_at I t
    obtain ⟨its, rv, ht, _⟩ := I.tuple (st_of (K := X.K) h1)
    obtain ⟨u, y, ei, ru, ry⟩ := vals2 rv
    subst ei
    obtain rfl : u = Value.ref b := ru
    refine ⟨(kv.1, b, y) :: ts, .cons ⟨rfl, h2, ry⟩ r, by rw [List.length_cons, List.length_cons, hl], fun j q e => ?_⟩
    cases j with
    | zero =>
      cases (show some (kv.1, b, y) = some q from e)
      obtain ⟨o, a1, a2, n, a3⟩ := ht
      exact ⟨p, rfl, o, a1, a2, n, a3⟩
    | succ j =>
      obtain ⟨c, e1, e2⟩ := hp j q (by simpa using e)
      exact ⟨c, by simpa using e1, e2⟩
def rDictT (K : PySem.W.Frag) : List V → Hp → VK → Prop := fun xs H Q => ∃ (a : Addr) (ps : List Addr) (kvs : List (List Key × V)), xs = [.ref a] ∧ SqL K H a (ps.map V.ref) ∧ Paired (PairT H) ps kvs ∧ ∀ p, H p = none → Q (.ref p) (upd H p (.dT (mergeT [] kvs)))
theorem call_dictT (hcalm : X.calm = true) (hu : X.A.units + 3 < cLine) : CallR X (.type "dict") (rDictT X.K) := by
  intro pins s σ H xs us Q I r h
  obtain ⟨a, ps, kvs, rfl, hq, hp, q⟩ := h
  obtain ⟨u, rfl, ru⟩ := vals1 r
  cases ru
  obtain ⟨its, rv, pl, hz⟩ := I.list hq
  have ei := refs_at rv
  subst ei
  rw [List.length_map] at hz
  obtain ⟨ts, rel, hl, hpr⟩ := pairs_at I hp
  have items : PairItems s.heap (ps.map Value.ref).toArray (fun j => ps.getD j 0) (ts.map fun t => (Value.ref t.2.1, t.2.2)) := by
    refine ⟨by simp [hl], fun j k v e => ?_⟩
    rw [List.getElem?_map] at e
    obtain ⟨t, ht, et⟩ := Option.map_eq_some_iff.mp e
    cases et
    obtain ⟨b, e1, e2⟩ := hpr j t ht
    have g : ps.getD j 0 = b := by rw [List.getD_eq_getElem?_getD, e1]; rfl
    refine ⟨by simp [e1, List.getD_eq_getElem?_getD], ?_⟩
    show PairAt s.heap (ps.getD j 0) _ _
    rw [g]
    exact .inl e2
  have keys := fun t ht => kt_keys rel (t := t) ht
  refine call_dict_pairsH (knd := tupleKind (mixKind X.prog X.w)) (ps := ts) (PairArg.list a _ _ _) (I.ok.hd hcalm) (show X.A.units + 1 + 1 < cLine by omega) ⟨pl, items⟩ ⟨by rw [List.length_map], fun i key v e => ?_⟩ (fun h' hk t ht => ?_) (by rw [List.length_map, hl]; exact hz) fun h' tk dd hk => ?_
  · have e2 : (ts.map fun t => (Value.ref t.2.1, t.2.2))[i]? = some (key, v) := e
    rw [List.getElem?_map] at e2
    obtain ⟨t, ht, et⟩ := Option.map_eq_some_iff.mp e2
    cases et
    exact ⟨t.1, t.2.1, by rw [ht], rfl⟩
  · obtain ⟨ks, hb, rfl⟩ := keys t ht
    obtain ⟨o, it, n, c1, c2⟩ := key_of (P := X.prog) (w := X.w) I.hok hb
    exact ⟨o, it, n, hk _ _ (Nat.ne_of_lt (Heap.lt_size c1)) (fun z => by cases z) c1, c2⟩
  · have hm : (s.heap.objs.size == sysModules) = false := beq_eq_false_iff_ne.mpr (Nat.ne_of_gt I.big)
    have ln : (mergeT [] kvs).length ≤ sizeLine := by
      refine Nat.le_trans (length_mergeT kvs []) ?_
      have : kvs.length = ts.length := Paired.length rel
      rw [List.length_nil, Nat.zero_add, this, hl]
      exact hz
    have fr : H s.heap.objs.size = none := I.hok.fresh (Nat.le_refl _)
    obtain ⟨o, es, ep, d1, d2, d3, d4, _, d5⟩ := dd
    have new : ObjOk X.prog X.w (upd H s.heap.objs.size (.dT (mergeT [] kvs))) h' s.heap.objs.size (.dT (mergeT [] kvs)) :=
      ⟨ln, hm, storedAllH [] ts, (kt_all rel .nil).keeps fun c ys ec => by rw [upd_ne (ne_of_none ec fr)]; exact ec, o, es, ep, d1, d2, d3, d4, d5⟩
    exact ⟨.ref s.heap.objs.size, _, I.laid (t' := tk) (fun b o e => hk b o (fun z => by cases z) e) (Nat.le_refl _) new, rfl, q _ fr⟩
end
/-- all values the same -/
def sames (v : V) (ks : List (List Key)) : List (List Key × V) := ks.map fun k => (k, v)
theorem put_same (v : V) (ks : List (List Key)) (k : List Key) : putK (sames v ks) k v = sames v (addK ks k) := by
  unfold putK addK sames
  rw [List.any_map]
  by_cases h : (ks.any fun x => decide (x = k)) = true
  · rw [if_pos h, if_pos (show (ks.any ((fun kv : List Key × V => decide (kv.1 = k)) ∘ fun k => (k, v))) = true from h), List.map_map]
    refine List.map_congr_left fun x hx => ?_
    show (if x = k then (x, v) else (x, v)) = (x, v)
    split <;> rfl
  · rw [if_neg h, if_neg (show ¬ (ks.any ((fun kv : List Key × V => decide (kv.1 = k)) ∘ fun k => (k, v))) = true from h), List.map_append]
    rfl
theorem merge_same (v : V) (ks : List (List Key)) : mergeT [] (sames v ks) = sames v (onceK ks) := by
  have : ∀ (l acc : List (List Key)), mergeT (sames v acc) (sames v l) = sames v (l.foldl addK acc) := by
    intro l
    induction l with
    | nil => intro acc; rfl
    | cons k l ih =>
      intro acc
      show mergeT (putK (sames v acc) k v) (sames v l) = _
      rw [put_same, ih]
      rfl
  exact this ks []
theorem isKeys_same {H : Hp} {v : V} : ∀ {ks : List (List Key)} {bs : List Addr}, IsKeys H (sames v ks) bs → DqAll H (bs.map V.ref) (ks.map Chk.pairD)
  | [], _, h => by
    cases h
    exact .nil
  | k :: ks, _, h => by
    cases h with
    | cons a t => exact .cons (.tup a (dq_keys k)) (isKeys_same t)
end DicT
set_option maxHeartbeats 4000000
namespace Lw
open PySem PySem.Spec PyProof.Rows L2 Evl Pd Gd Us Chk Wlk
/-- pairs, each once, sorted -/
def eachD (ds : List PyData) : PyData := .list (sortD ((onceK (ds.map keyOf)).map Chk.pairD))
end Lw
set_option maxHeartbeats 1000000
/-! What with_pairs makes of an end's pairs, over the finite. -/
namespace Chk
open PySem PySem.Spec PyProof.Rows L2 Evl Pd Gd Us Wlk
theorem txtLe_trans {β : Type} (f : β → Str) (a b c : β) (h1 : PySem.W.dataLe false (fun b => PyData.str (f b)) a b = true) (h2 : PySem.W.dataLe false (fun b => PyData.str (f b)) b c = true) : PySem.W.dataLe false (fun b => PyData.str (f b)) a c = true := by
  rw [PySem.W.dataLe_str] at *
  simp only [decide_eq_true_eq] at *
  exact List.le_trans h1 h2
theorem txtLe_total {β : Type} (f : β → Str) (a b : β) : (PySem.W.dataLe false (fun b => PyData.str (f b)) a b || PySem.W.dataLe false (fun b => PyData.str (f b)) b a) = true := by
  rw [PySem.W.dataLe_str]
  simp only [Bool.or_eq_true, decide_eq_true_eq]
  exact List.le_total _ _
theorem sortD_pw (ds : List PyData) : (sortD ds).Pairwise (fun a b => PySem.W.dataLe false (fun d => PyData.str (txt d)) a b = true) := List.pairwise_mergeSort (txtLe_trans txt) (txtLe_total txt) ds
theorem sortD_idem (ds : List PyData) : sortD (sortD ds) = sortD ds := List.mergeSort_of_pairwise (sortD_pw ds)
theorem sortS_pw (ss : List Str) : (sortS ss).Pairwise (fun a b => leS a b = true) := List.pairwise_mergeSort (txtLe_trans id) (txtLe_total id) ss
theorem sortS_idem (ss : List Str) : sortS (sortS ss) = sortS ss := List.mergeSort_of_pairwise (sortS_pw ss)
theorem key_pair {k : List Key} (h : OkPair k) : keyOf (pairD k) = k := by
  obtain ⟨i, j, rfl, _⟩ := h
  rfl
theorem keys_pairs {ks : List (List Key)} (h : ∀ k ∈ ks, OkPair k) : (ks.map pairD).map keyOf = ks := by
  rw [List.map_map]
  exact (List.map_congr_left fun k hk => key_pair (h k hk)).trans (List.map_id _)
/-- pairs that were told, told again -/
theorem told_again {ks : List (List Key)} (h : ∀ k ∈ ks, OkPair k) (n : ks.Nodup) : sortD ((onceK ((sortD (ks.map pairD)).map keyOf)).map pairD) = sortD (ks.map pairD) := by
  have p : ((sortD (ks.map pairD)).map keyOf).Perm ks := by
    have := (List.mergeSort_perm (ks.map pairD) (PySem.W.dataLe false fun d => PyData.str (txt d))).map keyOf
    rw [keys_pairs h] at this
    exact this
  rw [once_of_nodup (p.nodup_iff.mpr n), List.map_map]
  have e : (sortD (ks.map pairD)).map (pairD ∘ keyOf) = sortD (ks.map pairD) := by
    refine (List.map_congr_left fun d hd => ?_).trans (List.map_id _)
    obtain ⟨k, hk, rfl⟩ := List.mem_map.mp (sortD_mem.mp hd)
    show pairD (keyOf (pairD k)) = pairD k
    rw [key_pair (h k hk)]
  rw [e]
  exact sortD_idem _
/-- what pairs() tells -/
def tells (rs : Its') (s : Str) : PyData := match pairsOf rs s with
  | none => .none
  | some ks => .list (sortD (ks.map pairD))
def eachO : PyData → PyData
  | .list ds => Lw.eachD ds
  | _ => .none
theorem ksOf_dt {t : Itm} {ks : List (List Key)} (h : t = .dt ks) : ksOf t = ks := by rw [h]; rfl
theorem find_rulesI (l : Its') (o : Str) : pairsOf (rulesI l) o = (l.find? fun p => decide (p.1 = .inr o)).map fun p => onceK (keysOf (dataI p.2)) := by
  unfold pairsOf rulesI
  rw [List.find?_map, Option.map_map]
  rfl
theorem tells_with {e : Eg} {s o : Str} {d : PyData} (N : Neat e) : tells (withE e s d).rules o = if o = s then (match d with | .none => .none | d => .list (sortD ((onceK (keysOf d)).map pairD))) else tells e.rules o := by
  show tells (rulesI (argsI e.rules s ++ newI s d)) o = _
  unfold tells
  rw [find_rulesI, List.find?_append]
  by_cases c : o = s
  · subst c
    rw [if_pos rfl]
    have no : (argsI e.rules o).find? (fun p => decide (p.1 = .inr o)) = none := by
      rw [List.find?_eq_none]
      intro p hp z
      obtain ⟨q, hq, rfl⟩ := List.mem_map.mp hp
      have := (List.mem_filter.mp hq).2
      unfold isDeed at this
      rw [z] at this
      cases this
    rw [no]
    cases d <;> simp [newI, dataI]
  · rw [if_neg c]
    have no : (newI s d).find? (fun p => decide (p.1 = .inr o)) = none := by
      rw [List.find?_eq_none]
      intro p hp z
      have : p.1 = .inr s := by
        cases d <;> simp [newI] at hp <;> rw [hp]
      rw [this] at z
      have z := of_decide_eq_true z
      injection z with z
      exact c z.symm
    rw [no, Option.or_none]
    unfold argsI
    rw [List.find?_map, Option.map_map, List.find?_filter]
    have ff : (fun a : Key × Itm => decide (isDeed s a = true ∧ decide ((fun p => p.1 = (.inr o : Key)) ((fun p : Key × Itm => (p.1, listI p.2)) a)) = true)) = fun p => decide (p.1 = .inr o) := by
      funext p
      unfold isDeed
      by_cases z : p.1 = .inr o
      · have : ¬ p.1 = .inr s := fun y => by
          rw [z] at y
          injection y with y
          exact c y
        simp [z, c]
      · simp [z]
    have e1 : (e.rules.find? fun a => decide (isDeed s a = true ∧ ((fun p : Key × Itm => decide (p.1 = (.inr o : Key))) ∘ fun p : Key × Itm => (p.1, listI p.2)) a = true)) = e.rules.find? fun p => decide (p.1 = .inr o) := by
      congr 1
    rw [e1]
    unfold pairsOf
    cases hf : e.rules.find? (fun p => decide (p.1 = .inr o)) with
    | none => rfl
    | some p =>
      obtain ⟨ks, e2, l2, k2, n2⟩ := (N.rules p (List.mem_of_find?_eq_some hf)).pairs
      show PyData.list (sortD ((onceK ((sortD ((ksOf p.2).map pairD)).map keyOf)).map pairD)) = .list (sortD ((ksOf p.2).map pairD))
      rw [ksOf_dt e2, told_again k2 n2]
/-- pairs told are pairs -/
theorem tells_end {l : Its'} {o : Str} : tells (rulesI l) o = match (l.find? fun p => decide (p.1 = .inr o)) with
  | none => .none
  | some p => .list (sortD ((onceK (keysOf (dataI p.2))).map pairD)) := by
  unfold tells
  rw [find_rulesI]
  cases l.find? (fun p => decide (p.1 = .inr o)) <;> rfl
theorem ord_idem {kvs : Its'} (hn : (kvs.map (·.1)).Nodup) (hr : AllR kvs) : ordI (ordI kvs) = ordI kvs := by
  have w : wordsI (ordI kvs) = wordsI kvs := by
    have : (ordI kvs).map (fun p => keyS p.1) = wordsI kvs := by
      unfold ordI
      rw [List.map_map]
      exact (List.map_congr_left fun _ _ => rfl).trans (List.map_id _)
    show sortS ((ordI kvs).map fun p => keyS p.1) = _
    rw [this]
    exact sortS_idem _
  have n2 : ((ordI kvs).map (·.1)).Nodup := (((ord_perm hn hr).map (·.1)).nodup_iff).mpr hn
  show (wordsI (ordI kvs)).map (fun w => ((Sum.inr w : Key), itemAt (ordI kvs) (.inr w))) = ordI kvs
  rw [w]
  refine List.map_congr_left fun x hx => ?_
  obtain ⟨i, hi, rfl⟩ := List.getElem_of_mem hx
  have : (ordI kvs)[i]? = some (.inr (wordsI kvs)[i], itemAt kvs (.inr (wordsI kvs)[i])) := by
    unfold ordI
    rw [List.getElem?_map, List.getElem?_eq_getElem hi]
    rfl
  rw [item_at n2 this]
/-- its words are in their order -/
structure Std (e : Eg) : Prop where
  own : ordI e.own = e.own
  uses : ordI e.uses = e.uses
theorem own_with {e : Eg} {s : Str} {d : PyData} (S : Std e) : (withE e s d).own = e.own ∧ (withE e s d).uses = e.uses ∧ (withE e s d).most = e.most := ⟨S.own, S.uses, rfl⟩
theorem std_with {e : Eg} {s : Str} {d : PyData} (S : Std e) : Std (withE e s d) := ⟨by rw [(own_with S).1]; exact S.own, by rw [(own_with S).2.1]; exact S.uses⟩
/-! ### two ends with the same parts -/
theorem itm_self {t : Itm} (h : (∃ g, t = .set g) ∨ ∃ s : Str, t = .d (.str s)) : eqItm t t = true := by
  rcases h with ⟨g, rfl⟩ | ⟨s, rfl⟩
  · exact EqE.eqS_self g
  · show (s == s) = true
    simp
theorem eqI_self {ks : Its'} (hn : (ks.map (·.1)).Nodup) (h : ∀ p ∈ ks, eqItm p.2 p.2 = true) : eqI ks ks = true := by
  unfold eqI
  rw [Bool.and_eq_true, List.all_eq_true]
  refine ⟨by simp, fun p hp => ?_⟩
  obtain ⟨i, hi, rfl⟩ := List.getElem_of_mem hp
  rw [item_at hn (i := i) (k := ks[i].1) (t := ks[i].2) (List.getElem?_eq_getElem hi), h _ hp, Bool.and_true]
  exact List.any_eq_true.mpr ⟨ks[i], hp, by simp⟩
theorem tells_none {rs : Its'} {o : Str} : tells rs o = .none ↔ (.inr o : Key) ∉ rs.map (·.1) := by
  unfold tells pairsOf
  cases hf : rs.find? (fun p => decide (p.1 = .inr o)) with
  | none =>
    rw [List.find?_eq_none] at hf
    refine ⟨fun _ z => ?_, fun _ => rfl⟩
    obtain ⟨p, hp, e⟩ := List.mem_map.mp z
    exact hf p hp (by simpa using e)
  | some p =>
    refine ⟨fun z => (nomatch z), fun z => absurd (List.mem_map.mpr ⟨p, List.mem_of_find?_eq_some hf, ?_⟩) z⟩
    have := List.find?_some hf
    exact of_decide_eq_true this
theorem tells_at {rs : Its'} (hn : (rs.map (·.1)).Nodup) {o : Str} {ks : List (List Key)} (h : ((.inr o : Key), Itm.dt ks) ∈ rs) : tells rs o = .list (sortD (ks.map pairD)) ∧ itemAt rs (.inr o) = .dt ks := by
  obtain ⟨i, hi, e⟩ := List.getElem_of_mem h
  have h2 := item_at hn (i := i) (k := .inr o) (t := .dt ks) (by rw [List.getElem?_eq_getElem hi, e])
  refine ⟨?_, h2⟩
  unfold tells pairsOf
  unfold itemAt at h2
  cases hf : rs.find? (fun p => decide (p.1 = .inr o)) with
  | none => rw [hf] at h2; cases h2
  | some p =>
    rw [hf] at h2
    have h2 : p.2 = .dt ks := h2
    show PyData.list (sortD ((ksOf p.2).map pairD)) = _
    rw [ksOf_dt h2]
theorem eqK_perm {ks ls : List (List Key)} (h : ks.Perm ls) : eqK ks ls = true := by
  unfold eqK
  rw [Bool.and_eq_true, List.all_eq_true]
  exact ⟨by simp [h.length_eq], fun k hk => List.any_eq_true.mpr ⟨k, h.mem_iff.mp hk, by simp⟩⟩
theorem perm_of_sorted {ks ls : List (List Key)} (h1 : ∀ k ∈ ks, OkPair k) (h2 : ∀ k ∈ ls, OkPair k) (h : sortD (ks.map pairD) = sortD (ls.map pairD)) : ks.Perm ls := by
  have p1 := (List.mergeSort_perm (ks.map pairD) (PySem.W.dataLe false fun d => PyData.str (txt d))).map keyOf
  have p2 := (List.mergeSort_perm (ls.map pairD) (PySem.W.dataLe false fun d => PyData.str (txt d))).map keyOf
  rw [keys_pairs h1] at p1
  rw [keys_pairs h2] at p2
  have e : ((ks.map pairD).mergeSort (PySem.W.dataLe false fun d => PyData.str (txt d))) = (ls.map pairD).mergeSort (PySem.W.dataLe false fun d => PyData.str (txt d)) := h
  rw [e] at p1
  exact p1.symm.trans p2
theorem rules_perm {e e' : Eg} (N : Neat e) (N' : Neat e') (h : ∀ o ∈ deedsT, tells e.rules o = tells e'.rules o) : ∀ k ∈ e.rules.map (·.1), k ∈ e'.rules.map (·.1) := fun k hk => by
  obtain ⟨p, hp, rfl⟩ := List.mem_map.mp hk
  obtain ⟨o, eo, ho⟩ := (N.rules p hp).deed
  rw [eo]
  refine Classical.byContradiction fun z => ?_
  have := tells_none.mpr z
  rw [← h o ho] at this
  exact tells_none.mp this (by rw [← eo]; exact hk)
theorem eqE_of {e e' : Eg} (N : Neat e) (N' : Neat e') (ho : e.own = e'.own) (hu : e.uses = e'.uses) (hm : e.most = e'.most) (h : ∀ o ∈ deedsT, tells e.rules o = tells e'.rules o) : eqE e e' = true := by
  unfold eqE
  rw [← ho, ← hu, eqI_self N.so.2.2 (fun p hp => itm_self (.inl (N.sets p hp))), eqI_self N.su.2.2 (fun p hp => itm_self (.inr (let ⟨s, h1, _⟩ := N.strs p hp; ⟨s, h1⟩))), decide_eq_true hm, Bool.and_true, Bool.true_and, Bool.true_and]
  unfold eqI
  have a1 := rules_perm N N' h
  have a2 := rules_perm N' N fun o ho => (h o ho).symm
  have l1 := nodup_len N.nr a1
  have l2 := nodup_len N'.nr a2
  rw [List.length_map, List.length_map] at l1 l2
  rw [Bool.and_eq_true, List.all_eq_true]
  refine ⟨by simp; omega, fun p hp => ?_⟩
  obtain ⟨q, hq, eq⟩ := List.mem_map.mp (a1 p.1 (List.mem_map.mpr ⟨p, hp, rfl⟩))
  obtain ⟨o, eo, hd⟩ := (N.rules p hp).deed
  obtain ⟨ks, e2, _, k2, n2⟩ := (N.rules p hp).pairs
  obtain ⟨ls, e3, _, k3, n3⟩ := (N'.rules q hq).pairs
  have t1 := tells_at N.nr (o := o) (ks := ks) (by rw [← eo, ← e2]; exact hp)
  have t2 := tells_at N'.nr (o := o) (ks := ls) (by rw [← eo, ← eq, ← e3]; exact hq)
  rw [Bool.and_eq_true]
  refine ⟨List.any_eq_true.mpr ⟨q, hq, by simp [eq]⟩, ?_⟩
  rw [eo, t2.2, e2]
  have := h o hd
  rw [t1.1, t2.1] at this
  injection this with this
  exact eqK_perm (perm_of_sorted k2 k3 this)
/-! ### what was told, put back -/
theorem tells_form {e : Eg} (N : Neat e) (o : Str) : tells e.rules o = .none ∨ ∃ ks : List (List Key), tells e.rules o = .list (sortD (ks.map pairD)) ∧ (∀ k ∈ ks, OkPair k) ∧ ks.Nodup ∧ ks.length ≤ 30000 := by
  unfold tells pairsOf
  cases hf : e.rules.find? (fun p => decide (p.1 = .inr o)) with
  | none => exact .inl rfl
  | some p =>
    obtain ⟨ks, e2, l2, k2, n2⟩ := (N.rules p (List.mem_of_find?_eq_some hf)).pairs
    refine .inr ⟨ks, ?_, k2, n2, l2⟩
    show PyData.list (sortD ((ksOf p.2).map pairD)) = _
    rw [ksOf_dt e2]
theorem tells_ok {e : Eg} (N : Neat e) (o : Str) : okD (tells e.rules o) = true ∧ Few (tells e.rules o) ∧ Short (tells e.rules o) := by
  rcases tells_form N o with h | ⟨ks, h, k2, n2, l2⟩
  · rw [h]
    exact ⟨rfl, fun _ z => (nomatch z), fun _ z => nomatch z⟩
  · rw [h]
    refine ⟨List.all_eq_true.mpr fun d hd => ?_, fun _ z => (nomatch z), fun ds z => ?_⟩
    · obtain ⟨k, hk, rfl⟩ := List.mem_map.mp (sortD_mem.mp hd)
      exact pair_isPair (k2 k hk)
    · cases z
      rw [sortD_len, List.length_map]
      exact l2
theorem tells_put {e e0 : Eg} {s : Str} (N : Neat e) (N0 : Neat e0) : tells (withE e s (tells e0.rules s)).rules s = tells e0.rules s := by
  rw [tells_with N, if_pos rfl]
  rcases tells_form N0 s with h | ⟨ks, h, k2, n2, l2⟩
  · rw [h]
  · rw [h]
    show PyData.list (sortD ((onceK ((sortD (ks.map pairD)).map keyOf)).map pairD)) = _
    rw [told_again k2 n2]
theorem tells_new {e : Eg} {s : Str} {ds : List PyData} (N : Neat e) : tells (withE e s (.list ds)).rules s = Lw.eachD ds := by
  rw [tells_with N, if_pos rfl]
  rfl
theorem sortD_one (d : PyData) : sortD [d] = [d] := by
  unfold sortD
  exact List.mergeSort_singleton d
theorem each_one (i j : Int) : Lw.eachD [Lw.pr i j] = .list [Lw.pr i j] := by
  show PyData.list (sortD [Lw.pr i j]) = _
  rw [sortD_one]
theorem eqv_pair {i j : Int} : PyData.eqv (pairD [.inl i, .inl j]) (Lw.pr 3 3) = true ↔ i = 3 ∧ j = 3 := by
  show (i == 3 && (j == 3 && true)) = true ↔ _
  simp
theorem tells_33 {e : Eg} (N : Neat e) (o : Str) : PyData.eqv (tells e.rules o) (.list [Lw.pr 3 3]) = true ↔ tells e.rules o = .list [Lw.pr 3 3] := by
  refine ⟨fun h => ?_, fun h => by rw [h]; decide +kernel⟩
  rcases tells_form N o with c | ⟨ks, c, k2, n2, l2⟩
  · rw [c] at h
    cases h
  · rw [c] at h ⊢
    have all : ∀ d ∈ sortD (ks.map pairD), ∃ i j : Int, d = pairD [.inl i, .inl j] := fun d hd => by
      obtain ⟨k, hk, rfl⟩ := List.mem_map.mp (sortD_mem.mp hd)
      obtain ⟨i, j, rfl, _⟩ := k2 k hk
      exact ⟨i, j, rfl⟩
    generalize sortD (ks.map pairD) = l at h all ⊢
    match l, h, all with
    | [], h, _ => cases h
    | [d], h, all =>
      obtain ⟨i, j, rfl⟩ := all d List.mem_cons_self
      have h : (PyData.eqv (pairD [.inl i, .inl j]) (Lw.pr 3 3) && true) = true := h
      rw [Bool.and_true] at h
      obtain ⟨rfl, rfl⟩ := eqv_pair.mp h
      rfl
    | d :: d2 :: r, h, _ =>
      have h : (PyData.eqv d (Lw.pr 3 3) && false) = true := h
      rw [Bool.and_false] at h
      cases h
/-- other pairs for a deed -/
theorem eqE_33d {e : Eg} {s : Str} (hs : s ∈ deedsT) (N : Neat e) (S : Std e) : eqE (withE e s (.list [Lw.pr 3 3])) e = PyData.eqv (tells e.rules s) (.list [Lw.pr 3 3]) := by
  have N' : Neat (withE e s (.list [Lw.pr 3 3])) := neat_with N hs (fun _ z => (nomatch z)) (fun ds z => by cases z; decide) (by decide +kernel)
  have e33 : Lw.eachD [Lw.pr 3 3] = .list [Lw.pr 3 3] := each_one 3 3
  rw [Bool.eq_iff_iff, tells_33 N]
  obtain ⟨o1, o2, o3⟩ := own_with (s := s) (d := .list [Lw.pr 3 3]) S
  refine ⟨fun h => ?_, fun h => eqE_of N' N o1 o2 o3 fun o ho => ?_⟩
  · unfold eqE at h
    simp only [Bool.and_eq_true] at h
    have hr := h.2.2.1
    unfold eqI at hr
    rw [Bool.and_eq_true, List.all_eq_true] at hr
    have m : ((.inr s : Key), Itm.dt [[.inl 3, .inl 3]]) ∈ (withE e s (.list [Lw.pr 3 3])).rules := List.mem_map.mpr ⟨(.inr s, .d (.list [Lw.pr 3 3])), List.mem_append_right _ List.mem_cons_self, rfl⟩
    have hm := hr.2 _ m
    rw [Bool.and_eq_true] at hm
    obtain ⟨q, hq, eq⟩ := List.any_eq_true.mp hm.1
    have eq : q.1 = .inr s := of_decide_eq_true eq
    obtain ⟨ks, e2, l2, k2, n2⟩ := (N.rules q hq).pairs
    have t := tells_at N.nr (o := s) (ks := ks) (by rw [← eq, ← e2]; exact hq)
    have h2 := hm.2
    rw [t.2] at h2
    have h2 : eqK [[.inl 3, .inl 3]] ks = true := h2
    unfold eqK at h2
    rw [Bool.and_eq_true, List.all_eq_true] at h2
    obtain ⟨k, hk, ek⟩ := List.any_eq_true.mp (h2.2 _ List.mem_cons_self)
    have ek : k = [.inl 3, .inl 3] := of_decide_eq_true ek
    subst ek
    have l1 : ks.length = 1 := by have := h2.1; simp at this; omega
    match ks, l1, hk with
    | [k], _, hk =>
      rw [List.mem_singleton] at hk
      subst hk
      rw [t.1]
      show PyData.list (sortD [Lw.pr 3 3]) = _
      rw [sortD_one]
  · rw [tells_with N]
    by_cases c : o = s
    · subst c
      rw [if_pos rfl, h]
      exact e33
    · rw [if_neg c]
theorem eqE_33 {e : Eg} (N : Neat e) (S : Std e) : eqE (withE e "set" (.list [Lw.pr 3 3])) e = PyData.eqv (tells e.rules "set") (.list [Lw.pr 3 3]) := eqE_33d (by decide) N S
/-- a rule less -/
theorem eqE_less {e : Eg} {s : Str} (hs : s ∈ deedsT) (N : Neat e) (h : tells e.rules s ≠ .none) : eqE (withE e s .none) e = false := by
  rw [← Bool.not_eq_true]
  intro z
  have N' : Neat (withE e s .none) := neat_with N hs (fun _ z => (nomatch z)) (fun _ z => nomatch z) rfl
  unfold eqE at z
  simp only [Bool.and_eq_true] at z
  have hr := z.2.2.1
  unfold eqI at hr
  rw [Bool.and_eq_true, List.all_eq_true] at hr
  have hm : (.inr s : Key) ∈ e.rules.map (·.1) := by
    rw [Ne, tells_none] at h
    exact Classical.not_not.mp h
  have no : (.inr s : Key) ∉ (withE e s .none).rules.map (·.1) := tells_none.mp (by rw [tells_with N, if_pos rfl])
  have sub : ∀ k ∈ (withE e s .none).rules.map (·.1), k ∈ e.rules.map (·.1) := fun k hk => by
    obtain ⟨p, hp, rfl⟩ := List.mem_map.mp hk
    have := hr.2 p hp
    rw [Bool.and_eq_true] at this
    obtain ⟨q, hq, eq⟩ := List.any_eq_true.mp this.1
    exact List.mem_map.mpr ⟨q, hq, of_decide_eq_true eq⟩
  have := nodup_len (l := (.inr s : Key) :: (withE e s .none).rules.map (·.1)) (m := e.rules.map (·.1)) (List.nodup_cons.mpr ⟨no, N'.nr⟩) fun k hk => by
    rcases List.mem_cons.mp hk with rfl | hk
    · exact hm
    · exact sub k hk
  have l := hr.1
  rw [beq_iff_eq] at l
  rw [List.length_cons, List.length_map, List.length_map] at this
  omega
theorem eqE_own {e e' : Eg} (h : e.own.length ≠ e'.own.length) : eqE e e' = false := by
  unfold eqE eqI
  rw [beq_eq_false_iff_ne.mpr h]
  rfl
theorem eqE_uses {e e' : Eg} (h : e.uses.length ≠ e'.uses.length) : eqE e e' = false := by
  unfold eqE
  have : eqI e.uses e'.uses = false := by
    unfold eqI
    rw [beq_eq_false_iff_ne.mpr h]
    rfl
  rw [this]
  simp
theorem eqE_most {e e' : Eg} (h : e.most ≠ e'.most) : eqE e e' = false := by
  unfold eqE
  rw [decide_eq_false h]
  simp
end Chk
set_option maxHeartbeats 1000000
/-! What the law of k03 needs of its values. -/
namespace Lw
open PySem PySem.Spec PyProof.Rows L2 Evl Pd Gd Us Chk Wlk LamX LamK LamG
section
variable {T : TabT} {K : PySem.W.Frag} {σ : L2.St} {H H' : Hp} {te ta tb tn ti : TE} {D : Ends} {tz tu : TS} {d e : PyData} {ds : List PyData}
/-- for j in range(a drawn number) -/
theorem q_forRg {m : Int} {j : Nat} (h : EvP tn σ H (RgV 0 m)) (hm : m ≤ 1000) (Pv : L2.St → Hp → Prop) (h0 : ∀ H1, Ex H H1 → Pv σ H1)
    (hs : ∀ (i : Nat) σ' H', Pv σ' H' → tu { D with nx := Pv, ct := Pv, bk := tz D } (σ'.set j (some (.int (i : Int)))) H') (hd : ∀ σ' H', Pv σ' H' → tz D σ' H') : tSeq (tFor (iRng1 (tCons tn tNil)) (gName j) tu) tz D σ H := by
  refine h H (Ex.refl _) _ fun x H2 e2 ⟨n, ex, n0, n1⟩ => ?_
  subst ex
  refine ⟨n, rfl, by omega, by omega, ?_⟩
  obtain ⟨n', e, _, _, kk⟩ := q_forR1 (σ := σ) (H := H2) (ta := tCons (tC (.int n)) tNil) (n := n) (j := j) (tu := tu) (tz := tz) (D := D) (ea_cons ev_c ea_nil) (by omega) (fun _ => Pv) (fun H1 e1 => h0 H1 (e2.trans e1)) (fun i σ' H' _ p => hs i σ' H' p) hd
  cases e
  exact kk
theorem p_ixOne (h : EvP te σ H (Qe (.list ds))) (hi : EvP ti σ H (RgV 0 ds.length)) : EvP (tOp (rIxL K) te ti) σ H (OneOf ds) := fun H1 a Q q =>
  h H1 a _ fun x H2 e1 p => hi H2 (a.trans e1) _ fun y H3 e2 ⟨n, ey, n0, n1⟩ => by
    subst ey
    cases p with
    | lst z hl hD =>
      have ln : n.toNat < ds.length := by omega
      obtain ⟨v, h1, h2⟩ := dqAll_get hD (List.getElem?_eq_getElem ln)
      have en : ((n.toNat : Nat) : Int) = n := by omega
      exact ⟨_, _, _, v, rfl, rfl, sq_of (e2 _ _ hl), by rw [← en]; exact Chk.atI_nat h1, q v H3 (e1.trans e2) ⟨_, List.getElem_mem ln, dq_up e2 h2⟩⟩
theorem extN_mut {R : Addr} {u : HO} (e : ExtN H H') (n : H R = none) : ExtN H (upd H' R u) := fun b o hb nt => by
  rw [upd_ne (fun z => by rw [z, n] at hb; cases hb)]
  exact e b o hb nt
theorem tabs_dK {R : Addr} {xs : List (Key × V)} {u : HO} (hl : H R = some (.dK xs)) (h : Tabs T H) : Tabs T (upd H R u) := fun p hp => by
  obtain ⟨ps, h1, h2, h3⟩ := h p hp
  refine ⟨ps, by rw [upd_ne (fun z => by rw [z, hl] at h1; cases h1)]; exact h1, h2, fun pos cv hc => ?_⟩
  obtain ⟨c, e1, e2⟩ := h3 pos cv hc
  exact ⟨c, e1, by rw [upd_ne (fun z => by rw [z, hl] at e2; have := Option.some.inj e2; unfold CodeO at this; cases this)]; exact e2⟩
/-! ### an end that is not the dict R -/
theorem hid_upd {R : Addr} {u : HO} : hid (upd H R u) R = hid H R := funext fun b => by
  by_cases z : b = R
  · rw [z, hid_same, hid_same]
  · rw [hid_ne z, hid_ne z, upd_ne z]
theorem hid_none {R : Addr} (h : H R = none) : hid H R = H := funext fun b => by
  by_cases z : b = R
  · rw [z, hid_same, h]
  · rw [hid_ne z]
theorem hid_le {R : Addr} : Ex (hid H R) H := fun b o h => by
  by_cases z : b = R
  · rw [z, hid_same] at h
    cases h
  · rw [hid_ne z] at h
    exact h
theorem hid_ex {R : Addr} (e : ExtN H H') : ExtN (hid H R) (hid H' R) := fun b o h nt => by
  by_cases z : b = R
  · rw [z, hid_same] at h
    cases h
  · rw [hid_ne z] at h ⊢
    exact e b o h nt
def EndH (K : PySem.W.Frag) (C CE R : Addr) (e : Eg) : PV := fun x H => EndV K C CE e x (hid H R)
theorem endH_end {C CE R : Addr} {e : Eg} {x : V} (h : EndH K C CE R e x H) : EndV K C CE e x H := mo_end _ _ _ hid_le h
theorem mon_endH {C CE R : Addr} {e : Eg} : MoN (EndH K C CE R e) := fun _ _ _ x h => mon_end _ _ _ (hid_ex x) h
theorem endH_upd {C CE R : Addr} {e : Eg} {x : V} {u : HO} (h : EndH K C CE R e x H) : EndH K C CE R e x (upd H R u) := by
  unfold EndH
  rw [hid_upd]
  exact h
theorem dq_hid {R : Addr} {vs : List (Key × V)} (hR : H R = some (.dK vs)) {x : V} (h : Dq H x d) : Dq (hid H R) x d :=
  dq_by (fun b xs hb => by rw [hid_ne (fun z => by rw [z, hR] at hb; cases hb)]; exact hb) (fun b xs hb => by rw [hid_ne (fun z => by rw [z, hR] at hb; cases hb)]; exact hb) h
/-! ### pairs() and with_pairs() as data and as ends -/
variable {C CE CD CB R : Addr} {eg : Eg} {s : Str} {E : XK} {ty tz' : TE} {dp : PyData}
theorem p_tells (h : EvP te σ H (EndV K C CE eg)) (N : Neat eg) (hd : Ev ty σ H (.str s)) (hs : s ∈ deedsT) : EvP (tMeth CE "pairs" (spPairs K C CE CD) [] E te (tCons ty tNil)) σ H (Qe (tells eg.rules s)) := fun H1 e Q q => by
  refine p_pairsE (CD := CD) (E := E) h N hd hs H1 e Q fun x H2 e2 p => q x H2 e2 ?_
  unfold tells
  cases hf : pairsOf eg.rules s with
  | none =>
    rw [hf] at p
    rw [show x = _ from p]
    exact .non
  | some ks =>
    rw [hf] at p
    exact p.2
/-- with_pairs, the dict at R out of its sight -/
theorem p_hide {i : Nat} {vs : List (Key × V)} (hi : σ[i]? = some (some (.ref R))) (hR : H R = some (.dK vs)) (h : EvP te σ (hid H R) (EndV K C CE eg)) : ∀ Q : VK, (∀ x H', Ex H H' → EndH K C CE R eg x H' → H' R = some (.dK vs) → Q x H') → tHide i te σ H Q := fun Q q => by
  refine ⟨R, vs, hi, hR, h (hid H R) (Ex.refl _) _ fun x H2 e2 p nR => q x _ (fun b o hb => ?_) ?_ upd_same⟩
  · by_cases z : b = R
    · rw [z, hR] at hb
      cases hb
      rw [z, upd_same]
    · rw [upd_ne z]
      exact e2 _ _ (by rw [hid_ne z]; exact hb)
  · show EndV K C CE eg x (hid (upd H2 R _) R)
    rw [hid_upd, hid_none nR]
    exact p
end
/-! ### the law's own dict of rules -/
structure RsOk (rs : Its') : Prop where
  nd : (rs.map (·.1)).Nodup
  ok : ∀ p ∈ rs, (∃ s ∈ deedsT, p.1 = .inr s) ∧ ∃ ds, p.2 = .d (.list ds) ∧ (∀ d ∈ ds, isPair 0 3 d = true) ∧ ds.length ≤ 30000
def tellsR (rs : Its') (o : Str) : PyData := match rs.find? fun p => decide (p.1 = .inr o) with
  | none => .none
  | some p => eachO (dataI p.2)
def putR (rs : Its') (s : Str) (d : PyData) : Its' := rs.filter (isDeed s) ++ newI s d
theorem tellsR_put {rs : Its'} {s o : Str} {d : PyData} (hd : d = .none ∨ ∃ ds, d = .list ds) : tellsR (putR rs s d) o = if o = s then eachO d else tellsR rs o := by
  unfold tellsR putR
  rw [List.find?_append, List.find?_filter]
  by_cases c : o = s
  · subst c
    rw [if_pos rfl]
    have no : (rs.find? fun a => decide (isDeed o a = true ∧ decide (a.1 = (.inr o : Key)) = true)) = none := by
      rw [List.find?_eq_none]
      intro p hp z
      simp [isDeed] at z
    rw [no, Option.none_or]
    rcases hd with rfl | ⟨ds, rfl⟩
    · rfl
    · simp [newI, dataI]
  · rw [if_neg c]
    have e1 : (rs.find? fun a => decide (isDeed s a = true ∧ decide (a.1 = (.inr o : Key)) = true)) = rs.find? fun p => decide (p.1 = .inr o) := by
      congr 1
      funext p
      by_cases z : p.1 = .inr o
      · simp [isDeed, z, c]
      · simp [z]
    have no : (newI s d).find? (fun p => decide (p.1 = .inr o)) = none := by
      rw [List.find?_eq_none]
      intro p hp z
      rcases hd with rfl | ⟨ds, rfl⟩
      · cases hp
      · rw [List.mem_singleton.mp hp] at z
        have z := of_decide_eq_true z
        injection z with z
        exact c z.symm
    rw [e1, no, Option.or_none]
theorem rsOk_put {rs : Its'} {s : Str} {d : PyData} (R : RsOk rs) (hs : s ∈ deedsT) (hd : d = .none ∨ ∃ ds, d = .list ds ∧ (∀ d ∈ ds, isPair 0 3 d = true) ∧ ds.length ≤ 30000) : RsOk (putR rs s d) := by
  refine ⟨?_, fun p hp => ?_⟩
  · unfold putR
    rw [List.map_append]
    refine List.nodup_append.mpr ⟨R.nd.sublist (List.filter_sublist.map _), ?_, fun a ha b hb => ?_⟩
    · rcases hd with rfl | ⟨ds, rfl, _⟩ <;> simp [newI]
    · obtain ⟨p, hp, rfl⟩ := List.mem_map.mp ha
      obtain ⟨q, hq, rfl⟩ := List.mem_map.mp hb
      have := (List.mem_filter.mp hp).2
      rcases hd with rfl | ⟨ds, rfl, _⟩
      · cases hq
      · rw [List.mem_singleton.mp hq]
        simpa [isDeed] using this
  · rcases List.mem_append.mp hp with q | q
    · exact R.ok p (List.mem_filter.mp q).1
    · rcases hd with rfl | ⟨ds, rfl, h⟩
      · cases q
      · rw [List.mem_singleton.mp q]
        exact ⟨⟨s, hs, rfl⟩, ds, rfl, h⟩
theorem rsOk_len {rs : Its'} (R : RsOk rs) : rs.length ≤ 5 := by
  have := nodup_len (l := rs.map (·.1)) (m := deedsT.map Sum.inr) R.nd fun k hk => by
    obtain ⟨p, hp, rfl⟩ := List.mem_map.mp hk
    obtain ⟨⟨s, hs, e⟩, _⟩ := R.ok p hp
    rw [e]
    exact List.mem_map.mpr ⟨s, hs, rfl⟩
  rw [List.length_map] at this
  exact this
end Lw
set_option maxHeartbeats 1000000
namespace Lw
open PySem PySem.Spec PyProof.Rows L2 Evl Pd Gd Us Chk Wlk LamX LamK LamG
section
variable {K : PySem.W.Frag} {C : Addr} {H : Hp}
theorem items_paired : ∀ {rs : Its'} {vs : List (Key × V)}, ItemsV K C rs vs H → Paired (fun (p : Key × Itm) (q : Key × V) => p.1 = q.1 ∧ ItmV K C p.2 q.2 H) rs vs
  | [], [], _ => .nil
  | [], _ :: _, h => by cases h.len
  | _ :: _, [], h => by cases h.len
  | p :: rs, q :: vs, h => by
    obtain ⟨v, h1, h2⟩ := h.at_ 0 p.1 p.2 rfl
    have h1 : q = (p.1, v) := Option.some.inj h1
    subst h1
    exact .cons ⟨rfl, h2⟩ (items_paired ⟨by have := h.len; simpa using this, fun i k t hi => h.at_ (i + 1) k t hi⟩)
theorem paired_len {α β : Type} {F : α → β → Prop} : ∀ {l : List α} {m : List β}, Paired F l m → l.length = m.length
  | _, _, .nil => rfl
  | _, _, .cons _ t => congrArg (· + 1) (paired_len t)
theorem paired_items : ∀ {rs : Its'} {vs : List (Key × V)}, Paired (fun (p : Key × Itm) (q : Key × V) => p.1 = q.1 ∧ ItmV K C p.2 q.2 H) rs vs → ItemsV K C rs vs H
  | _, _, .nil => ⟨rfl, fun i k t hi => by simp at hi⟩
  | _, _, .cons (a := p) (b := q) r t => by
    have ih := paired_items t
    refine ⟨congrArg (· + 1) ih.len, fun i k u hi => ?_⟩
    cases i with
    | zero =>
      have hi : p = (k, u) := Option.some.inj hi
      subst hi
      obtain ⟨r1, r2⟩ := r
      exact ⟨q.2, congrArg some (Prod.ext r1.symm rfl), r2⟩
    | succ i => exact ih.at_ i k u hi
theorem paired_drop {s : Str} : ∀ {rs : Its'} {vs : List (Key × V)}, Paired (fun (p : Key × Itm) (q : Key × V) => p.1 = q.1 ∧ ItmV K C p.2 q.2 H) rs vs → Paired (fun (p : Key × Itm) (q : Key × V) => p.1 = q.1 ∧ ItmV K C p.2 q.2 H) (rs.filter (isDeed s)) (dropK vs (.inr s))
  | _, _, .nil => .nil
  | _, _, .cons (a := p) (b := q) r t => by
    have ih := paired_drop (s := s) t
    unfold dropK at ih ⊢
    rw [List.filter_cons, List.filter_cons]
    by_cases c : p.1 = .inr s
    · have e1 : isDeed s p = false := by simp [isDeed, c]
      have e2 : decide (q.1 ≠ .inr s) = false := by simp [← r.1, c]
      rw [e1, e2]
      exact ih
    · have e1 : isDeed s p = true := by simp [isDeed, c]
      have e2 : decide (q.1 ≠ .inr s) = true := by simpa [← r.1] using c
      rw [e1, e2]
      exact .cons r ih
theorem items_drop {rs : Its'} {vs : List (Key × V)} {s : Str} (h : ItemsV K C rs vs H) : ItemsV K C (rs.filter (isDeed s)) (dropK vs (.inr s)) H := paired_items (paired_drop (items_paired h))
theorem drop_none {vs : List (Key × V)} {k : Key} (h : valV vs k = none) : dropK vs k = vs := by
  unfold dropK
  rw [List.filter_eq_self]
  intro p hp
  have : ¬ p.1 = k := fun e => by
    have a : (vs.any fun kv => decide (kv.1 = k)) = true := List.any_eq_true.mpr ⟨p, hp, by simp [e]⟩
    rw [valV_any, h] at a
    cases a
  simpa using this
theorem valV_drop {vs : List (Key × V)} {k : Key} : valV (dropK vs k) k = none := valV_no fun z => by
  obtain ⟨p, hp, e⟩ := List.mem_map.mp z
  have := (List.mem_filter.mp hp).2
  simp [e] at this
theorem items_get {rs : Its'} {vs : List (Key × V)} {o : Str} (h : ItemsV K C rs vs H) (nd : (rs.map (·.1)).Nodup) : match rs.find? fun p => decide (p.1 = .inr o) with
  | none => valV vs (.inr o) = none
  | some p => ∃ v, valV vs (.inr o) = some v ∧ ItmV K C p.2 v H := by
  cases hf : rs.find? (fun p => decide (p.1 = .inr o)) with
  | none =>
    rw [List.find?_eq_none] at hf
    exact keys_none h fun p hp z => hf p hp (by simpa using z)
  | some p =>
    have e0 := List.find?_some hf
    have e : p.1 = .inr o := of_decide_eq_true e0
    obtain ⟨i, hi, ei⟩ := List.getElem_of_mem (List.mem_of_find?_eq_some hf)
    have hk : rs[i]? = some (.inr o, p.2) := by rw [List.getElem?_eq_getElem hi, ei, ← e]
    obtain ⟨v, h1, h2⟩ := h.at_ i _ _ hk
    exact ⟨v, valV_at (by rw [h.keys]; exact nd) h1, h2⟩
end
/-! ### what stands beside each other can be compared -/
theorem lay_pairs : ∀ {l : List PyData}, (∀ d ∈ l, ∃ i j : Int, d = Chk.pairD [.inl i, .inl j]) → PyData.canLayAll0 l = true ∧ PyData.depthAll l ≤ 1
  | [], _ => ⟨rfl, Nat.zero_le _⟩
  | d :: l, h => by
    obtain ⟨i, j, rfl⟩ := h d List.mem_cons_self
    obtain ⟨h1, h2⟩ := lay_pairs (l := l) fun e he => h e (List.mem_cons_of_mem _ he)
    refine ⟨?_, ?_⟩
    · show (PyData.canLay0 (Chk.pairD [.inl i, .inl j]) && PyData.canLayAll0 l) = true
      rw [h1]
      rfl
    · show max (PyData.depth (Chk.pairD [.inl i, .inl j])) (PyData.depthAll l) ≤ 1
      have : PyData.depth (Chk.pairD [.inl i, .inl j]) = 1 := rfl
      omega
theorem shaped_tells {e : Eg} (N : Neat e) (o : Str) : SeqAt.shaped (tells e.rules o) = true := by
  rcases tells_form N o with h | ⟨ks, h, k2, n2, l2⟩
  · rw [h]
    decide +kernel
  · rw [h]
    obtain ⟨h1, h2⟩ := lay_pairs (l := sortD (ks.map Chk.pairD)) fun d hd => by
      obtain ⟨k, hk, rfl⟩ := List.mem_map.mp (sortD_mem.mp hd)
      obtain ⟨i, j, rfl, _⟩ := k2 k hk
      exact ⟨i, j, rfl⟩
    show (PyData.canLayAll0 (sortD (ks.map Chk.pairD)) && decide (PyData.depthAll (sortD (ks.map Chk.pairD)) + 1 ≤ 64)) = true
    rw [h1, decide_eq_true (by omega)]
    rfl
theorem lay_words : ∀ {l : List PyData}, (∀ d ∈ l, ∃ s : Str, d = .str s ∧ PyData.canLay0 (.str s) = true) → PyData.canLayAll0 l = true ∧ PyData.depthAll l ≤ 0
  | [], _ => ⟨rfl, Nat.zero_le _⟩
  | d :: l, h => by
    obtain ⟨s, rfl, hs⟩ := h d List.mem_cons_self
    obtain ⟨h1, h2⟩ := lay_words (l := l) fun e he => h e (List.mem_cons_of_mem _ he)
    refine ⟨?_, ?_⟩
    · show (PyData.canLay0 (.str s) && PyData.canLayAll0 l) = true
      rw [h1, hs]
      rfl
    · show max (PyData.depth (.str s)) (PyData.depthAll l) ≤ 0
      have : PyData.depth (.str s) = 0 := rfl
      omega
theorem strs_ok : ∀ p ∈ wordsT, (∀ x ∈ p.1, PyData.canLay0 (.str x) = true) ∧ (∀ x ∈ p.2, PyData.canLay0 (.str x) = true) := by decide +kernel
end Lw
set_option maxHeartbeats 1000000
namespace Lw
open PySem PySem.Spec PyProof.Rows L2 Evl Pd Gd Us Chk Wlk LamX LamK LamG
section
variable {ws os : List Str} {sp : Es}
theorem tells_start (o : Str) : tells (endS sp).rules o = tellsR (rulesIt sp.rules) o := by
  show tells (rulesI (rulesIt sp.rules)) o = _
  rw [tells_end]
  unfold tellsR
  cases hf : (rulesIt sp.rules).find? (fun p => decide (p.1 = .inr o)) with
  | none => rfl
  | some p =>
    obtain ⟨q, _, rfl⟩ := List.mem_map.mp (List.mem_of_find?_eq_some hf)
    rfl
theorem prI_ok {es : List (Int × Int)} (h : ∀ q ∈ es, (0 ≤ q.1 ∧ q.1 ≤ 3) ∧ 0 ≤ q.2 ∧ q.2 ≤ 3) : ∀ d ∈ es.map prI, isPair 0 3 d = true := fun d hd => by
  obtain ⟨q, hq, rfl⟩ := List.mem_map.mp hd
  have := h q hq
  show (betw 0 3 (.int q.1) && betw 0 3 (.int q.2)) = true
  simp [betw, this.1.1, this.1.2, this.2.1, this.2.2]
theorem rsOk_start (g : GoodE ws os sp) : RsOk (rulesIt sp.rules) := by
  refine ⟨by rw [rules_keys]; exact nodup_inr (List.Nodup.sublist g.deeds (by decide)), fun p hp => ?_⟩
  obtain ⟨q, hq, rfl⟩ := List.mem_map.mp hp
  refine ⟨⟨q.1, g.deeds.subset (List.mem_map.mpr ⟨q, hq, rfl⟩), rfl⟩, q.2.map prI, rfl, prI_ok (g.rules q hq), ?_⟩
  rw [List.length_map]
  exact Nat.le_trans (g.few q hq).1 (by decide)
theorem std_start (g : GoodE ws os sp) (k : WordsOk ws os) : Std (endS sp) := by
  refine ⟨ord_idem (smallO g k).2.2 fun p hp => ?_, ord_idem (smallU g k).2.2 fun p hp => ?_⟩
  · obtain ⟨q, _, rfl⟩ := List.mem_map.mp hp
    exact ⟨_, rfl⟩
  · obtain ⟨q, _, rfl⟩ := List.mem_map.mp hp
    exact ⟨_, rfl⟩
theorem words_start (g : GoodE ws os sp) (h : ∀ x ∈ ws, PyData.canLay0 (.str x) = true) : SeqAt.shaped (.list ((endS sp).own.map fun p => keyD p.1)) = true := by
  obtain ⟨h1, h2⟩ := lay_words (l := (endS sp).own.map fun p => keyD p.1) fun d hd => by
    obtain ⟨p, hp, rfl⟩ := List.mem_map.mp hd
    have hp : p ∈ ordI (ownIt sp.own) := hp
    unfold ordI at hp
    obtain ⟨x, hx, rfl⟩ := List.mem_map.mp hp
    refine ⟨x, rfl, h x ?_⟩
    have := (sortS_perm _).mem_iff.mp hx
    obtain ⟨p2, hp2, ep⟩ := List.mem_map.mp this
    obtain ⟨q, hq, eq⟩ := List.mem_map.mp hp2
    rw [← g.own, ← ep, ← eq]
    exact List.mem_map.mpr ⟨q, hq, rfl⟩
  show (PyData.canLayAll0 ((endS sp).own.map fun p => keyD p.1) && decide (PyData.depthAll ((endS sp).own.map fun p => keyD p.1) + 1 ≤ 64)) = true
  rw [h1, decide_eq_true (by omega)]
  rfl
end
section
variable {ws os : List Str} {sp : Es}
theorem uses_start (g : GoodE ws os sp) (h : ∀ x ∈ os, PyData.canLay0 (.str x) = true) : SeqAt.shaped (.list ((endS sp).uses.map fun p => keyD p.1)) = true := by
  obtain ⟨h1, h2⟩ := lay_words (l := (endS sp).uses.map fun p => keyD p.1) fun d hd => by
    obtain ⟨p, hp, rfl⟩ := List.mem_map.mp hd
    have hp : p ∈ ordI (usesIt sp.uses) := hp
    unfold ordI at hp
    obtain ⟨x, hx, rfl⟩ := List.mem_map.mp hp
    refine ⟨x, rfl, h x ?_⟩
    have := (sortS_perm _).mem_iff.mp hx
    obtain ⟨p2, hp2, ep⟩ := List.mem_map.mp this
    obtain ⟨q, hq, eq⟩ := List.mem_map.mp hp2
    rw [← g.uses, ← ep, ← eq]
    exact List.mem_map.mpr ⟨q, hq, rfl⟩
  show (PyData.canLayAll0 ((endS sp).uses.map fun p => keyD p.1) && decide (PyData.depthAll ((endS sp).uses.map fun p => keyD p.1) + 1 ≤ 64)) = true
  rw [h1, decide_eq_true (by omega)]
  rfl
/-- its words, ascending -/
theorem own_words (g : GoodE ws os sp) : ((endS sp).own.map fun p => keyD p.1) = (sortS ws).map PyData.str := by
  show ((ordI (ownIt sp.own)).map fun p => keyD p.1) = _
  have e : (ownIt sp.own).map (fun p => keyS p.1) = ws := by
    rw [← g.own]
    unfold ownIt
    rw [List.map_map]
    rfl
  unfold ordI wordsI
  rw [List.map_map, e]
  rfl
theorem uses_words (g : GoodE ws os sp) : ((endS sp).uses.map fun p => keyD p.1) = (sortS os).map PyData.str := by
  show ((ordI (usesIt sp.uses)).map fun p => keyD p.1) = _
  have e : (usesIt sp.uses).map (fun p => keyS p.1) = os := by
    rw [← g.uses]
    unfold usesIt
    rw [List.map_map]
    rfl
  unfold ordI wordsI
  rw [List.map_map, e]
  rfl
/-- pairs that stand once are told as they are, sorted -/
theorem each_prI {es : List (Int × Int)} (n : es.Nodup) : eachD (es.map prI) = .list (sortD (es.map prI)) := by
  have e : (es.map prI).map keyOf = es.map fun p => ([.inl p.1, .inl p.2] : List Key) := by
    rw [List.map_map]
    rfl
  have nd : (es.map fun p => ([.inl p.1, .inl p.2] : List Key)).Nodup := List.pairwise_map.mpr (n.imp fun h z => h (by
    injection z with z1 z2
    injection z2 with z2 _
    injection z1 with z1
    injection z2 with z2
    exact Prod.ext z1 z2))
  show PyData.list (sortD ((onceK ((es.map prI).map keyOf)).map Chk.pairD)) = _
  rw [e, once_of_nodup nd, List.map_map]
  rfl
end
end Lw
set_option maxHeartbeats 4000000
/-! Defs that may raise and show tuples; the walks of a comprehension. -/
namespace Lw
open PySem PySem.Spec PyProof.Rows L2 Evl Pd Gd Us Chk
structure UseGX (P : Program) (w : World) (K : PySem.W.Frag) (mg : Str → Option Value) (base : Heap) (k : Nat) (x : Str) (ps : List Str) (sp : Sp) : Prop where
  ex : ∃ f fd, mg x = some (.ref f) ∧ PySem.W.keepIn K (.ref f) = true ∧ L2.Binds K fd ps [] ∧ FnG P w K mg base (L2.CX P w) k f fd ps sp
theorem pe_useGX {X : Cx} {k j : Nat} {x : Str} {ps : List Str} {sp : Sp} {p pos : Pos} {e : Expr} {es : List Expr} {t : TA} {E : XK} (U : UseGX X.prog X.w X.K X.mg X.base k x ps sp) (hr : Room j X.A) (hk : k ≤ j) (hu : X.A.guards = some []) (hg : Gl X x) (hx : Passes (L2.CX X.prog X.w) X E) (ha : PA X (e :: es) t)
    (hdb : (x == ("__debug__" : Str)) = false := by decide) (he : starEach (e :: es) X.env = (false, eval e X.env) :: starEach es X.env := by rfl) (hpl : (backTo pos (starEach es X.env)).any (·.1) = false := by rfl) :
    PE X (.Call (.Name x p) (e :: es) [] pos) (tCall sp [] E t) := by
  obtain ⟨f, fd, m, kp, b, F⟩ := U.ex
  exact pe_callG F (hr.mono hk) hu hg m kp b hx ha hdb he hpl
theorem useG0_of {P : Program} {w : World} {K : PySem.W.Frag} {mg : Str → Option Value} {base : Heap} {k : Nat} {x : Str} {ps N : List Str} {sp : Sp} {st : Stmt} (D : Us.Dn K mg x st) (S : FnScope N ps (defScope st)) (hb : ∀ (f : Addr) (fd : FuncData), Fun K x x st f fd → L2.Binds K fd ps []) (len : ∀ vs H Q E, sp vs H Q E → vs.length = ps.length)
    (body : ∀ (f : Addr) (cdv : Value) (A : Around) (outer : List Env) (s : Shared) (H : Hp) (vs : List V) (Q : VK) (E : XK), Room k (A.deeper (envOfC x (defScope st) s.heap.objs.size f cdv)) → (A.deeper (envOfC x (defScope st) s.heap.objs.size f cdv)).guards = some [] → sp vs H Q E →
      ∃ t, PSs (cxOf CX0 P w K mg base N x (defScope st) f cdv A outer s H E).nox (defBody st) t ∧ t { nx := fun _ H' => Q .non H', rt := Q } (start N vs) H) : UseG P w K mg base (k + 1) x ps sp := by
  obtain ⟨f, fd, g, kp, F⟩ := D.ex
  exact ⟨f, fd, g, kp, hb f fd F, okG F S len (body f)⟩
theorem useGX_of {P : Program} {w : World} {K : PySem.W.Frag} {mg : Str → Option Value} {base : Heap} {k : Nat} {x : Str} {ps N : List Str} {sp : Sp} {st : Stmt} (D : Us.Dn K mg x st) (S : FnScope N ps (defScope st)) (hb : ∀ (f : Addr) (fd : FuncData), Fun K x x st f fd → L2.Binds K fd ps []) (len : ∀ vs H Q E, sp vs H Q E → vs.length = ps.length)
    (body : ∀ (f : Addr) (cdv : Value) (A : Around) (outer : List Env) (s : Shared) (H : Hp) (vs : List V) (Q : VK) (E : XK), Room k (A.deeper (envOfC x (defScope st) s.heap.objs.size f cdv)) → (A.deeper (envOfC x (defScope st) s.heap.objs.size f cdv)).guards = some [] → sp vs H Q E →
      ∃ t, PSs (cxOf (L2.CX P w) P w K mg base N x (defScope st) f cdv A outer s H E) (defBody st) t ∧ t { nx := fun _ H' => Q .non H', rt := Q } (start N vs) H) : UseGX P w K mg base (k + 1) x ps sp := by
  obtain ⟨f, fd, g, kp, F⟩ := D.ex
  exact ⟨f, fd, g, kp, hb f fd F, okGX F S len (body f)⟩
end Lw
namespace Dc4
open PySem PySem.Spec PyProof.Rows L2 Evl Pd
/-- one clause's walk, whatever its body -/
theorem walk_w {J : It} {n : Nat} {G : Hp → Prop} {Y : Nat → Hp → V → Hp → Prop} {Bd : (Hp → Prop) → V → Hp → Prop} {H0 : Hp} {Qd : Hp → Prop} (w : Walk J n G Y) (Pv : Nat → Hp → Prop) (h0 : Pv 0 H0) (hG : ∀ i H, i ≤ n → Pv i H → G H)
    (hs : ∀ i x H H', i < n → Pv i H → Y i H x H' → Bd (Pv (i + 1)) x H') (hd : ∀ H, Pv n H → Qd H) :
    ∃ W : Nat → Nat → Hp → Prop, (∃ m, W 0 m H0) ∧ ∀ i m H, W i m H → (J.stop i H ∧ Qd H) ∨ (J.go i H ∧ ∃ Nx : Hp → Prop, (∀ H', Nx H' → ∃ m', m' < m ∧ W (i + 1) m' H') ∧ ∀ x H', J.yld i H x H' → Bd Nx x H') := by
  refine ⟨fun i m H => m = n - i ∧ i ≤ n ∧ Pv i H, ⟨n, by simp, Nat.zero_le _, h0⟩, ?_⟩
  rintro i m H ⟨rfl, hi, p⟩
  by_cases lt : i < n
  · exact .inr ⟨w.goes i H lt (hG i H hi p), Pv (i + 1), fun H' h => ⟨n - (i + 1), by omega, rfl, lt, h⟩, fun x H' y => hs i x H H' lt p (w.yields i H x H' lt (hG i H hi p) y)⟩
  · have e : i = n := by omega
    subst e
    exact .inl ⟨w.stops H (hG i H hi p), hd H p⟩
end Dc4
set_option maxHeartbeats 4000000
/-! sorted(xs, key=int): xs a list of ints. -/
namespace Gd
open PySem PySem.Spec PyProof.Rows L2 Evl Pd
def sortI (ns : List Int) : List Int := ns.mergeSort (PySem.W.dataLe false fun i : Int => PyData.int i)
def rSortKI (K : PySem.W.Frag) : List V → List V → Hp → VK → Prop := fun vs zs H Q => ∃ (a : Addr) (ns : List Int), vs = [.ref a] ∧ zs = [.ty "int"] ∧ SqL K H a (ns.map V.int) ∧
  ∀ p, H p = none → Q (.ref p) (upd H p (.lst ((sortI ns).map V.int)))
theorem each_int : ∀ {ns : List Int} {us : List Value}, Vals (ns.map V.int) us → PySem.W.EachIs (fun (v : Value) (i : Int) => RelV (.int i) v) us ns
  | [], _, r => by cases r; exact .nil
  | n :: ns, _, r => by
    cases r with
    | cons a b => exact .cons a (each_int b)
theorem vals_int : ∀ {ns : List Int} {us : List Value}, PySem.W.EachIs (fun (v : Value) (i : Int) => RelV (.int i) v) us ns → Vals (ns.map V.int) us
  | _, _, .nil => .nil
  | _, _, .cons h t => .cons h (vals_int t)
section
variable {X : Cx}
theorem cr_sortKI (hu : X.A.units + 64 < cLine) : CallRK X (.builtin "sorted") [Str.ofString "key"] (rSortKI X.K) := by
  intro pins s σ H xs zs us ws Q I r rz h
  obtain ⟨a, ns, rfl, rfl, hS, q⟩ := h
  cases r with
  | cons ra rn =>
    cases rn
    cases ra
    cases rz with
    | cons rk rm =>
      cases rm
      cases rk
      obtain ⟨its, rv, pl, hl⟩ := I.list hS
      rw [List.length_map] at hl
      show wpAny _ _ (call (.builtin "sorted") [.ref a] [(Str.ofString "key", .type "int")]) _ _ _
      refine PySem.W.sorted_key_data (b := false) (fun i : Int => PyData.int i) pl.isList (each_int rv) (PySem.W.AllAlike.of fun _ _ => by simp [PySem.W.alike]) (PySem.W.Sortable.others fun _ => ⟨(fun z => nomatch z), fun _ z => nomatch z⟩) hl
        (fun b _ => by have e : (PyData.int b).depth = 0 := by simp [PyData.depth]
                       rw [e]; omega) (ksk_s1 _ _) (fun _ => ksk_l1 _ _) (fun _ => rfl) (fun v b hb hm h tk kp => ?_) fun out c h' tk kp hn hD hl2 eo => ?_
      · obtain ⟨t, rfl⟩ := hb
        exact call_int_int ⟨h, tk, rfl, fun _ _ z => z, .int _ _⟩
      · have vo := vals_int eo
        have lo : ((sortI ns).map V.int).length ≤ sizeLine := by
          unfold sortI
          rw [List.length_map, List.length_mergeSort]
          exact hl
        have ok : ObjOk X.prog X.w (upd H (s.heap.objs.size + 1) (.lst ((sortI ns).map V.int))) h' (s.heap.objs.size + 1) (.lst ((sortI ns).map V.int)) := ⟨lo, out, c, vo, hD⟩
        exact ⟨.ref (s.heap.objs.size + 1), _, I.laid (t' := tk) kp (Nat.le_succ _) ok, rfl, q _ (I.hok.fresh (Nat.le_succ _))⟩
end
/-- ints that stand in their order are sorted -/
theorem sortI_of {ns ms : List Int} (p : ns.Perm ms) (h : ms.Pairwise (· ≤ ·)) : sortI ns = ms := by
  unfold sortI
  rw [PySem.W.dataLe_int (fun i : Int => i)]
  have s1 : (ns.mergeSort fun a b => decide (a ≤ b)).Pairwise (fun a b => a ≤ b) := (List.pairwise_mergeSort (le := fun a b : Int => decide (a ≤ b)) (fun a b c h1 h2 => by simp only [decide_eq_true_eq] at *; omega) (fun a b => by simp only [Bool.or_eq_true, decide_eq_true_eq]; omega) ns).imp fun h => of_decide_eq_true h
  exact ((List.mergeSort_perm ns _).trans p).eq_of_pairwise (fun a b _ _ h1 h2 => by omega) s1 h
end Gd
set_option maxHeartbeats 4000000
/-! forms: values_from_start. -/
namespace Fm
open PySem PySem.Spec PyProof.Rows L2 Evl Pd Gd Us Chk Lw
abbrev nVfs : List Str := ["setting", "found", "at", "value"]
def letsI (g : Stg) (i j : Int) : Bool := g.ks.any fun k => decide (k = [.inl i, .inl j])
/-- one round of the search: what x leads to, behind what is found -/
def addV (lets : Int → Int → Bool) (x : Int) (f : List Int) (v : Nat) : List Int := if lets x v && !(decide ((v : Int) ∈ f)) then f ++ [(v : Int)] else f
def inner (lets : Int → Int → Bool) (n : Nat) (x : Int) (f : List Int) : List Int := (List.range n).foldl (addV lets x) f
def bfs (lets : Int → Int → Bool) (n : Nat) : Nat → List Int → Nat → List Int
  | 0, f, _ => f
  | m + 1, f, at_ => match f[at_]? with
    | some x => bfs lets n m (inner lets n x f) (at_ + 1)
    | none => f
structure OkF (n : Nat) (f : List Int) : Prop where
  nd : f.Nodup
  rg : ∀ x ∈ f, 0 ≤ x ∧ x < n
theorem okF_len {n : Nat} {f : List Int} (h : OkF n f) : f.length ≤ n := by
  have := Chk.nodup_len h.nd (m := (List.range n).map fun (i : Nat) => (i : Int)) fun x hx => List.mem_map.mpr ⟨x.toNat, List.mem_range.mpr (by have := h.rg x hx; omega), by have := h.rg x hx; omega⟩
  rwa [List.length_map, List.length_range] at this
theorem okF_add {lets : Int → Int → Bool} {n : Nat} {x : Int} {f : List Int} {v : Nat} (h : OkF n f) (hv : v < n) : OkF n (addV lets x f v) := by
  unfold addV
  split
  · rename_i c
    rw [Bool.and_eq_true, Bool.not_eq_true', decide_eq_false_iff_not] at c
    refine ⟨List.nodup_append.mpr ⟨h.nd, by simp, fun a ha b hb => ?_⟩, fun y hy => ?_⟩
    · rw [List.mem_singleton.mp hb]
      exact fun z => c.2 (z ▸ ha)
    · rcases List.mem_append.mp hy with hy | hy
      · exact h.rg y hy
      · rw [List.mem_singleton.mp hy]
        omega
  · exact h
theorem bfs_end {lets : Int → Int → Bool} {n m : Nat} {f : List Int} {at_ : Nat} (h : f.length ≤ at_) : bfs lets n m f at_ = f := by
  cases m with
  | zero => rfl
  | succ m =>
    unfold bfs
    rw [List.getElem?_eq_none h]
/-- .., what a setting's start leads to -/
def fromStart (g : Stg) : List Int := sortI (bfs (letsI g) g.size.toNat g.size.toNat [g.start] 0)
def spVfs (C : Addr) : Sp := fun vs H Q _ => vs.length = 1 ∧ ∃ x g, vs = [x] ∧ SetV C g x H ∧ 0 ≤ g.start ∧ g.start < g.size ∧ g.size ≤ 4 ∧ ∀ r H', Ex H H' → H r = none → H' r = some (.lst ((fromStart g).map V.int)) → Q (.ref r) H'
theorem in_ints {i : Int} {f : List Int} : (!inV (.int i) (f.map V.int)) = !(decide (i ∈ f)) := by
  congr 1
  rw [Bool.eq_iff_iff, decide_eq_true_eq]
  unfold inV
  rw [List.any_map, List.any_eq_true]
  constructor
  · rintro ⟨y, hy, h⟩
    have : y = i := by simpa [eqV] using h
    rw [← this]
    exact hy
  · intro h
    exact ⟨i, h, by simp [eqV]⟩
section
variable {P : Program} {w : World} {K : PySem.W.Frag} {mg : Str → Option Value} {base : Heap} {C CB : Addr}
end
end Fm
set_option maxHeartbeats 4000000
/-! forms: values_made_by, value_judged_by, numbers_by. -/
namespace Fm
open PySem PySem.Spec PyProof.Rows L2 Evl Pd Gd Us Chk Lw
/-- a row: a tuple of these ints -/
def RowI (r : List Int) : PV := fun v H => ∃ b, v = .ref b ∧ H b = some (.tup (r.map V.int))
theorem mo_rowI {r : List Int} : Mo (RowI r) := fun _ _ _ e ⟨b, h1, h2⟩ => ⟨b, h1, e _ _ h2⟩
def madeBy (u : Str) (r : List Int) : List Int := if u = "heard" then r else r.take 1
def judgedBy (h : Str) (r : List Int) : Int := if h = "sent" then (r.getLast?).getD 0 else if h = "answered" then (r[0]?).getD 0 else ((sortI r).getLast?).getD 0
def numbersBy (k : Str) (m : Int) : List Int := if k = "table" then [m] else if k = "room" then (List.range m.toNat).map fun (i : Nat) => 1 + (i : Int) else (List.range (m + 1).toNat).map fun (i : Nat) => 0 + (i : Int)
def spMadeBy (K : PySem.W.Frag) : Sp := fun vs H Q _ => vs.length = 2 ∧ ∃ u y r, vs = [.str u, y] ∧ RowI r y H ∧ r ≠ [] ∧ ∀ z H', Ex H H' → RowI (madeBy u r) z H' → Q z H'
def spJudgedBy (K : PySem.W.Frag) : Sp := fun vs H Q _ => vs.length = 2 ∧ ∃ u y r, vs = [.str u, y] ∧ RowI r y H ∧ r ≠ [] ∧ r.length ≤ 1000 ∧ ∀ H', Ex H H' → Q (.int (judgedBy u r)) H'
def spNumbersBy (K : PySem.W.Frag) : Sp := fun vs H Q _ => vs.length = 2 ∧ ∃ u m, vs = [.str u, .int m] ∧ 0 ≤ m ∧ m ≤ 1000 ∧ ∀ p H', Ex H H' → H p = none → H' p = some (.lst ((numbersBy u m).map V.int)) → Q (.ref p) H'
section
variable {P : Program} {w : World} {K : PySem.W.Frag} {mg : Str → Option Value} {base : Heap}
theorem at_last {r : List Int} (h : r ≠ []) : atI (r.map V.int) (-1) = some (.int ((r.getLast?).getD 0)) := by
  rcases List.eq_nil_or_concat r with rfl | ⟨init, l, rfl⟩
  · exact absurd rfl h
  · rw [List.concat_eq_append]
    have el : ((init ++ [l]).map V.int).length = init.length + 1 := by simp
    unfold atI ixN
    rw [el, if_neg (by decide), if_pos (by omega)]
    show ((init ++ [l]).map V.int)[((-1 : Int) + ((init.length + 1 : Nat) : Int)).toNat]? = _
    have : ((-1 : Int) + ((init.length + 1 : Nat) : Int)).toNat = init.length := by omega
    rw [this, List.map_append, List.getElem?_append_right (by rw [List.length_map]; exact Nat.le_refl _), List.length_map, Nat.sub_self]
    simp
end
end Fm
set_option maxHeartbeats 4000000
/-! List comprehensions of two for clauses over walks; forms: longer_rows. -/
namespace Fm
open PySem PySem.Spec PyProof.Rows L2 Evl Pd Gd Us Chk Lw
section
variable {J : It} {n : Nat} {G : Hp → Prop} {Y : Nat → Hp → V → Hp → Prop} {g g1 : TG} {tt tt1 : TT} {wi1 : TI} {te : TE} {vs vs1 : List Nat} {σ σ2 : L2.St} {H1 H4 : Hp} {D : Addr} {Qd Nx : Hp → Prop}
theorem lc2_outer (w : Walk J n G Y) (Pv : Nat → Hp → Prop) (h0 : Pv 0 (upd H1 D (.lst []))) (hG : ∀ i H, i ≤ n → Pv i H → G H)
    (hs : ∀ i x H H', i < n → Pv i H → Y i H x H' → g x (wipe σ vs) H' fun σ2 H2 => wipe σ2 vs = wipe σ vs ∧ tt σ2 H2 fun b H3 =>
      if b = true then wi1 σ2 H3 fun J1 H4 => ∃ W1 : Nat → Nat → Hp → Prop, (∃ m, W1 0 m H4) ∧ ∀ j k H, W1 j k H →
        (J1.stop j H ∧ Pv (i + 1) H) ∨ (J1.go j H ∧ ∃ Nx1 : Hp → Prop, (∀ H', Nx1 H' → ∃ k', k' < k ∧ W1 (j + 1) k' H') ∧ ∀ x H', J1.yld j H x H' → g1 x (wipe σ2 vs1) H' fun σ3 H5 => wipe σ3 vs1 = wipe σ2 vs1 ∧ tt1 σ3 H5 fun b H6 =>
          if b = true then te σ3 H6 fun y H7 => ∃ acc, H7 D = some (.lst acc) ∧ acc.length < sizeLine ∧ Nx1 (upd H7 D (.lst (acc ++ [y]))) else Nx1 H6)
      else Pv (i + 1) H3) (hd : ∀ H, Pv n H → Qd H) :
    ∃ W : Nat → Nat → Hp → Prop, (∃ m, W 0 m (upd H1 D (.lst []))) ∧ ∀ i m H, W i m H →
      (J.stop i H ∧ Qd H) ∨ (J.go i H ∧ ∃ Nx : Hp → Prop, (∀ H', Nx H' → ∃ m', m' < m ∧ W (i + 1) m' H') ∧ ∀ x H', J.yld i H x H' → g x (wipe σ vs) H' fun σ2 H2 => wipe σ2 vs = wipe σ vs ∧ tt σ2 H2 fun b H3 =>
        if b = true then wi1 σ2 H3 fun J1 H4 => ∃ W1 : Nat → Nat → Hp → Prop, (∃ m, W1 0 m H4) ∧ ∀ j k H, W1 j k H →
          (J1.stop j H ∧ Nx H) ∨ (J1.go j H ∧ ∃ Nx1 : Hp → Prop, (∀ H', Nx1 H' → ∃ k', k' < k ∧ W1 (j + 1) k' H') ∧ ∀ x H', J1.yld j H x H' → g1 x (wipe σ2 vs1) H' fun σ3 H5 => wipe σ3 vs1 = wipe σ2 vs1 ∧ tt1 σ3 H5 fun b H6 =>
            if b = true then te σ3 H6 fun y H7 => ∃ acc, H7 D = some (.lst acc) ∧ acc.length < sizeLine ∧ Nx1 (upd H7 D (.lst (acc ++ [y]))) else Nx1 H6)
        else Nx H3) := by
  refine ⟨fun i m H => m = n - i ∧ i ≤ n ∧ Pv i H, ⟨n, by simp, Nat.zero_le _, h0⟩, ?_⟩
  rintro i m H ⟨rfl, hi, p⟩
  by_cases lt : i < n
  · exact .inr ⟨w.goes i H lt (hG i H hi p), Pv (i + 1), fun H' h => ⟨n - (i + 1), by omega, rfl, lt, h⟩, fun x H' y => hs i x H H' lt p (w.yields i H x H' lt (hG i H hi p) y)⟩
  · have e : i = n := by omega
    subst e
    exact .inl ⟨w.stops H (hG i H hi p), hd H p⟩
theorem lc2_inner (w : Walk J n G Y) (Pw : Nat → Hp → Prop) (h0 : Pw 0 H4) (hG : ∀ i H, i ≤ n → Pw i H → G H)
    (hs : ∀ j x H H', j < n → Pw j H → Y j H x H' → g1 x (wipe σ2 vs1) H' fun σ3 H5 => wipe σ3 vs1 = wipe σ2 vs1 ∧ tt1 σ3 H5 fun b H6 =>
      if b = true then te σ3 H6 fun y H7 => ∃ acc, H7 D = some (.lst acc) ∧ acc.length < sizeLine ∧ Pw (j + 1) (upd H7 D (.lst (acc ++ [y]))) else Pw (j + 1) H6) (hd : ∀ H, Pw n H → Nx H) :
    ∃ W1 : Nat → Nat → Hp → Prop, (∃ m, W1 0 m H4) ∧ ∀ j k H, W1 j k H →
      (J.stop j H ∧ Nx H) ∨ (J.go j H ∧ ∃ Nx1 : Hp → Prop, (∀ H', Nx1 H' → ∃ k', k' < k ∧ W1 (j + 1) k' H') ∧ ∀ x H', J.yld j H x H' → g1 x (wipe σ2 vs1) H' fun σ3 H5 => wipe σ3 vs1 = wipe σ2 vs1 ∧ tt1 σ3 H5 fun b H6 =>
        if b = true then te σ3 H6 fun y H7 => ∃ acc, H7 D = some (.lst acc) ∧ acc.length < sizeLine ∧ Nx1 (upd H7 D (.lst (acc ++ [y]))) else Nx1 H6) := by
  refine ⟨fun j k H => k = n - j ∧ j ≤ n ∧ Pw j H, ⟨n, by simp, Nat.zero_le _, h0⟩, ?_⟩
  rintro j k H ⟨rfl, hj, p⟩
  by_cases lt : j < n
  · exact .inr ⟨w.goes j H lt (hG j H hj p), Pw (j + 1), fun H' h => ⟨n - (j + 1), by omega, rfl, lt, h⟩, fun x H' y => hs j x H H' lt p (w.yields j H x H' lt (hG j H hj p) y)⟩
  · have e : j = n := by omega
    subst e
    exact .inl ⟨w.stops H (hG j H hj p), hd H p⟩
end
/-! ### rows -/
def RowsAt (H : Hp) : List V → List (List Int) → Prop
  | [], [] => True
  | v :: vs, r :: rs => RowI r v H ∧ RowsAt H vs rs
  | _, _ => False
theorem RowsAt.up {H H' : Hp} (e : ∀ b xs, H b = some (.tup xs) → H' b = some (.tup xs)) : ∀ {vs : List V} {rs : List (List Int)}, RowsAt H vs rs → RowsAt H' vs rs
  | [], [], _ => trivial
  | v :: vs, r :: rs, ⟨⟨b, eb, h⟩, t⟩ => ⟨⟨b, eb, e _ _ h⟩, t.up e⟩
theorem RowsAt.len {H : Hp} : ∀ {vs : List V} {rs : List (List Int)}, RowsAt H vs rs → vs.length = rs.length
  | [], [], _ => rfl
  | v :: vs, r :: rs, ⟨_, t⟩ => congrArg Nat.succ t.len
theorem RowsAt.app {H : Hp} : ∀ {vs ws : List V} {rs ts : List (List Int)}, RowsAt H vs rs → RowsAt H ws ts → RowsAt H (vs ++ ws) (rs ++ ts)
  | [], _, [], _, _, h => h
  | v :: vs, _, r :: rs, _, ⟨h, t⟩, k => ⟨h, t.app k⟩
theorem RowsAt.at_ {H : Hp} : ∀ {vs : List V} {rs : List (List Int)} {i : Nat} {v : V}, RowsAt H vs rs → vs[i]? = some v → ∃ r, rs[i]? = some r ∧ RowI r v H
  | v :: vs, r :: rs, 0, w, ⟨h, _⟩, e => by
    cases e
    exact ⟨r, rfl, h⟩
  | v :: vs, r :: rs, i + 1, w, ⟨_, t⟩, e => t.at_ (i := i) e
  | [], [], i, w, _, e => by simp at e
/-- a list of rows -/
def RowsI (rs : List (List Int)) : PV := fun v H => ∃ a xs, v = .ref a ∧ H a = some (.lst xs) ∧ RowsAt H xs rs
theorem mo_rowsI {rs : List (List Int)} : Mo (RowsI rs) := fun _ _ _ e ⟨a, xs, h1, h2, h3⟩ => ⟨a, xs, h1, e _ _ h2, h3.up fun b xs h => e _ _ h⟩
def stepRow (g : Stg) (r : List Int) (j : Nat) : List (List Int) := ((List.range j).filter fun (v : Nat) => letsI g ((r.getLast?).getD 0) v).map fun (v : Nat) => r ++ [(v : Int)]
def longer (g : Stg) (rs : List (List Int)) : List (List Int) := rs.flatMap fun r => stepRow g r g.size.toNat
def spLonger (C : Addr) : Sp := fun vs H Q _ => vs.length = 2 ∧ ∃ x y g rs, vs = [x, y] ∧ SetV C g x H ∧ RowsI rs y H ∧ 0 ≤ g.size ∧ g.size ≤ 4 ∧ rs.length ≤ 1000 ∧ (∀ r ∈ rs, r ≠ [] ∧ r.length ≤ 100) ∧ ∀ z H', Ex H H' → RowsI (longer g rs) z H' → Q z H'
theorem stepRow_len (g : Stg) (r : List Int) (j : Nat) : (stepRow g r j).length ≤ j := by
  unfold stepRow
  rw [List.length_map]
  have := List.length_filter_le (fun (v : Nat) => letsI g ((r.getLast?).getD 0) v) (List.range j)
  rwa [List.length_range] at this
theorem longer_len (g : Stg) (h : g.size ≤ 4) : ∀ (rs : List (List Int)), (longer g rs).length ≤ 4 * rs.length
  | [] => Nat.zero_le _
  | r :: rs => by
    have a := stepRow_len g r g.size.toNat
    have b := longer_len g h rs
    unfold longer at b ⊢
    rw [List.flatMap_cons, List.length_append, List.length_cons]
    omega
section
variable {P : Program} {w : World} {K : PySem.W.Frag} {mg : Str → Option Value} {base : Heap} {C CB : Addr}
end
end Fm
set_option maxHeartbeats 4000000
/-! fates: fate_of. -/
namespace Fm
open PySem PySem.Spec PyProof.Rows L2 Evl Pd Gd Us Chk Lw
def fateOf (k : Str) (n j : Int) : Str := if decide (k = "size") && decide (n > j) then "refused" else if decide (k = "table") && !decide (n = j) then "garbled" else if decide (k = "room") && decide (n > j) then "passed" else "kept"
def spFate : Sp := fun vs H Q _ => vs.length = 3 ∧ ∃ k n j, vs = [.str k, .int n, .int j] ∧ ∀ H', Ex H H' → Q (.str (fateOf k n j)) H'
end Fm
set_option maxHeartbeats 4000000
/-! check_pact, without the menus (for laws whose package has no menus). -/
namespace Chk
open PySem PySem.Spec PyProof.Rows L2 Evl Pd Gd Us Wlk Lw
/-- raised, with its value -/
def ErrQ (CA : Addr) (x : V) (H : Hp) (E : XK) : Prop := ∀ o H', Ex H H' → H' o = none → E (.ref CA) (some o) (upd H' o (.xd [("value", x)]))
/-- a pact, or data that are none -/
def PactOr (K : PySem.W.Frag) (C CE CP CA : Addr) (x : V) (H : Hp) (E : XK) (G : Prop) : Prop := ((∃ l r, PactV K C CE CP l r x H) ∧ G) ∨ ((∃ d, Dq H x d) ∧ ErrQ CA x H E)
def spCkPact (K : PySem.W.Frag) (C CE CP CA : Addr) : Sp := fun vs H Q E => vs.length = 1 ∧ ∃ x, vs = [x] ∧ PactOr K C CE CP CA x H E (∀ H', Ex H H' → Q .non H')
theorem ErrQ.up {CA : Addr} {x : V} {H H1 : Hp} {E : XK} (h : ErrQ CA x H E) (e : Ex H H1) : ErrQ CA x H1 E := fun o H' e2 ho => h o H' (e.trans e2) ho
section
variable {P : Program} {w : World} {K : PySem.W.Frag} {mg : Str → Option Value} {base : Heap} {C CE CP CN CB CA fA : Addr}
theorem pact_ty {l r : Eg} {x : V} {H : Hp} (T : ClsP K CP) (I : C8.InsC K CP) (h : PactV K C CE CP l r x H) : ∀ H1, Ex H H1 → TyX K H1 x (.ref CP) := fun H1 ex => by
  obtain ⟨a, rfl, at_⟩ := h
  obtain ⟨dx, fs, x, y, d, vs, h0, _⟩ := at_.ex
  exact .base (.ins (ex _ _ h0) T.cl I.ha I.hn I.htk I.hm)
theorem ev_isPact {σ : L2.St} {H : Hp} {i : Nat} {x : V} {t : Value} {b : Bool} (s0 : σ[i]? = some (some x)) (ht : ∀ H1, Ex H H1 → TyX K H1 x t) (k : PySem.W.kitOne K t (.ref CP) = some b) : Ev (tCB (rIsi K) (tCons (tVar i) (tCons (tC (.ref CP)) tNil))) σ H (.bl b) := fun H1 e Q q =>
  ⟨x, s0, x, .ref CP, t, .ref CP, b, rfl, .own CP, ht H1 e, k, q H1 (Ex.refl _)⟩
end
end Chk
set_option maxHeartbeats 4000000
/-! forms: rows_of. -/
namespace Fm
open PySem PySem.Spec PyProof.Rows L2 Evl Pd Gd Us Chk Lw
abbrev nRowsOf : List Str := ["pact", "word", "setting", "layer", "found", "_", "value"]
def rowsLy (g : Stg) : Nat → List (List Int)
  | 0 => (fromStart g).map fun v => [v]
  | m + 1 => longer g (rowsLy g m)
def rowsTo (g : Stg) : Nat → List (List Int)
  | 0 => rowsLy g 0
  | m + 1 => rowsTo g m ++ rowsLy g (m + 1)
/-- a word of the pact: its setting, its owner, how often the owner's end may set -/
structure WordIs (l r : Eg) (s o : Str) (g : Stg) (m : Nat) : Prop where
  has : hasW (ownersI l r) (.str s) = true
  set : setOf l r s = .set g
  own : getK (ownersI l r) s = .d (.str o)
  nm : inT namesT (.str o) = true
  most : (selP l r o).most = (m : Int)
  m2 : m ≤ 3
  s0 : 0 ≤ g.start
  s1 : g.start < g.size
  s4 : g.size ≤ 4
def spRowsOf (K : PySem.W.Frag) (C CE CP CN : Addr) : Sp := fun vs H Q E => vs.length = 2 ∧ ∃ x y l r, vs = [x, y] ∧ PactV K C CE CP l r x H ∧ NeatP l r ∧
  ((∃ s o g m, y = .str s ∧ WordIs l r s o g m ∧ ∀ z H', Ex H H' → RowsI (rowsTo g m) z H' → Q z H') ∨ (∃ d, Dq H y d ∧ hasW (ownersI l r) d = false ∧ ∀ v H1, Ex H H1 → Dq H1 v d → ErrQ CN v H1 E))
theorem stepRow_ok {g : Stg} {r : List Int} {j : Nat} : ∀ q ∈ stepRow g r j, q ≠ [] ∧ q.length = r.length + 1 := fun q hq => by
  unfold stepRow at hq
  obtain ⟨v, _, rfl⟩ := List.mem_map.mp hq
  exact ⟨by simp, by simp⟩
theorem fromStart_len {g : Stg} (s0 : 0 ≤ g.start) (s1 : g.start < g.size) (s4 : g.size ≤ 4) : (fromStart g).length ≤ 4 := by
  have key : ∀ (lets : Int → Int → Bool) (n m : Nat) (f : List Int) (a : Nat), OkF n f → (bfs lets n m f a).length ≤ n := by
    intro lets n m
    induction m with
    | zero => exact fun f a h => okF_len h
    | succ m ih =>
      intro f a h
      unfold bfs
      cases f[a]? with
      | none => exact okF_len h
      | some x =>
        refine ih _ _ ?_
        have : ∀ (k : Nat), k ≤ n → OkF n ((List.range k).foldl (addV lets x) f) := by
          intro k
          induction k with
          | zero => exact fun _ => h
          | succ k ih2 =>
            intro hk
            rw [List.range_succ, List.foldl_append]
            exact okF_add (ih2 (by omega)) (by omega)
        exact this n (Nat.le_refl n)
  unfold fromStart sortI
  rw [List.length_mergeSort]
  have := key (letsI g) g.size.toNat g.size.toNat [g.start] 0 ⟨by simp, fun y hy => by rw [List.mem_singleton.mp hy]; omega⟩
  omega
theorem rowsLy_ok {g : Stg} : ∀ (m : Nat), ∀ r ∈ rowsLy g m, r ≠ [] ∧ r.length = m + 1
  | 0, r, h => by
    obtain ⟨v, _, rfl⟩ := List.mem_map.mp h
    exact ⟨by simp, rfl⟩
  | m + 1, r, h => by
    obtain ⟨q, hq, hr⟩ := List.mem_flatMap.mp h
    have a := stepRow_ok r hr
    have b := rowsLy_ok m q hq
    exact ⟨a.1, by omega⟩
theorem rowsLy_len {g : Stg} (s0 : 0 ≤ g.start) (s1 : g.start < g.size) (s4 : g.size ≤ 4) : ∀ (m : Nat), (rowsLy g m).length ≤ 4 ^ (m + 1)
  | 0 => by
    have := fromStart_len s0 s1 s4
    show ((fromStart g).map fun v => [v]).length ≤ 4
    rw [List.length_map]
    exact this
  | m + 1 => by
    have a := longer_len g s4 (rowsLy g m)
    have b := rowsLy_len s0 s1 s4 m
    have e : 4 ^ (m + 1 + 1) = 4 * 4 ^ (m + 1) := by rw [Nat.pow_succ, Nat.mul_comm]
    show (longer g (rowsLy g m)).length ≤ _
    omega
theorem rowsTo_len {g : Stg} (s0 : 0 ≤ g.start) (s1 : g.start < g.size) (s4 : g.size ≤ 4) : ∀ (m : Nat), (rowsTo g m).length ≤ 2 * 4 ^ (m + 1)
  | 0 => by have := rowsLy_len s0 s1 s4 0; show (rowsLy g 0).length ≤ _; omega
  | m + 1 => by
    have a := rowsLy_len s0 s1 s4 (m + 1)
    have b := rowsTo_len s0 s1 s4 m
    have e : 4 ^ (m + 1 + 1) = 4 * 4 ^ (m + 1) := by rw [Nat.pow_succ, Nat.mul_comm]
    show (rowsTo g m ++ rowsLy g (m + 1)).length ≤ _
    rw [List.length_append]
    omega
theorem ev_ofQ {σ : L2.St} {H : Hp} {te : TE} {P : PV} {v : V} (h : EvP te σ H P) (k : ∀ x H1, P x H1 → x = v) : Ev te σ H v := fun H1 e Q q => h H1 e _ fun x H2 e2 p => by
  rw [k x H2 p]
  exact q H2 e2
section
variable {K : PySem.W.Frag} {σ : L2.St} {H : Hp} {te ta tb : TE} {C : Addr} {g : Stg}
theorem p_rowsCatI {as bs : List (List Int)} (h1 : EvP ta σ H (RowsI as)) (h2 : EvP tb σ H (RowsI bs)) (hz : as.length + bs.length ≤ 100000) : EvP (tOp rCat ta tb) σ H (RowsI (as ++ bs)) := fun H1 e Q q =>
  h1 H1 e _ fun x H2 e2 ⟨a, xs, ex, ha, ra⟩ => h2 H2 (e.trans e2) _ fun y H3 e3 ⟨b, ys, ey, hb, rb⟩ =>
    ⟨a, b, xs, ys, ex, ey, e3 _ _ ha, hb, by rw [ra.len, rb.len]; exact sz_of hz, fun p hp => q (.ref p) _ (e2.trans (e3.trans (Ex.new hp))) ⟨p, xs ++ ys, rfl, upd_same, (ra.up fun b xs h => (e3.trans (Ex.new hp)) _ _ h).app (rb.up fun b xs h => (Ex.new hp) _ _ h)⟩⟩
theorem p_rowsListI {as : List (List Int)} (h1 : EvP ta σ H (RowsI as)) : EvP (tCB (rListS K) (tCons ta tNil)) σ H (RowsI as) := fun H1 e Q q =>
  h1 H1 e _ fun x H2 e2 ⟨a, xs, ex, ha, ra⟩ => ⟨a, xs, by rw [ex], .inl (sq_of ha), fun l hn => q (.ref l) _ (e2.trans (Ex.new hn)) ⟨l, xs, rfl, upd_same, ra.up fun b xs h => (Ex.new hn) _ _ h⟩⟩
theorem p_lay {E : XK} {vs : List Nat} (h : EvP ta σ H (SetV C g)) (s0 : 0 ≤ g.start) (s1 : g.start < g.size) (s4 : g.size ≤ 4) (hv : ∀ v, ((wipe σ vs).set 6 (some v))[6]? = some (some v)) (hw : ∀ v, wipe ((wipe σ vs).set 6 (some v)) vs = wipe σ vs) :
    EvP (tLc (iList K (tCall (spVfs C) [] E (tCons ta tNil))) (gName 6) tYes (tTup (tCons (tVar 6) tNil)) vs) σ H (RowsI (rowsLy g 0)) := fun H1 e Q q => h H1 e _ fun x H2 e2 hx => by
  have l4 := fromStart_len s0 s1 s4
  refine ⟨rfl, x, g, rfl, hx, s0, s1, s4, fun a H3 e3 na ha => ⟨a, rfl, ⟨_, sq_of ha⟩, fun D nD => ?_⟩⟩
  refine lc_it (walk_list (K := K) (a := a) (xs := (fromStart g).map V.int)) (fun i H' => Ex H3 H' ∧ ∃ ys, H' D = some (.lst ys) ∧ RowsAt H' ys (((fromStart g).take i).map fun v => [v])) ⟨Ex.new nD, [], upd_same, trivial⟩ (fun i H' _ p => sq_of (p.1 _ _ ha)) (fun i v H4 H5 hi p yy => ?_) fun H' p => ?_
  · obtain ⟨ex, ys, hD, al⟩ := p
    obtain ⟨rfl, hv0⟩ := yy
    rw [List.getElem?_map] at hv0
    obtain ⟨z, hz, rfl⟩ := Option.map_eq_some_iff.mp hv0
    have ll := al.len
    rw [List.length_map, List.length_take] at ll
    refine ⟨hw _, ?_⟩
    unfold tYes
    simp only [if_true]
    refine ⟨_, hv _, show 1 ≤ sizeLine by decide, fun t nt => ?_⟩
    have xt := Ex.new (o := .tup [V.int z]) nt
    have hD6 := xt _ _ hD
    have nb : ∀ {y : Addr} {zs : List V}, (upd H5 t (.tup [V.int z])) y = some (.tup zs) → (upd (upd H5 t (.tup [V.int z])) D (.lst (ys ++ [.ref t]))) y = some (.tup zs) := fun {y zs} h => by
      rw [upd_ne (fun q => by rw [q, hD6] at h; cases h)]
      exact h
    refine ⟨ys, hD6, sz_lt (by omega), (ex.trans xt).mut nD, ys ++ [.ref t], upd_same, ?_⟩
    rw [List.take_succ, hz, List.map_append]
    exact ((al.up fun b xs h => xt _ _ h).up fun y xs h => nb h).app ⟨⟨t, rfl, nb upd_same⟩, trivial⟩
  · obtain ⟨ex, ys, hD, al⟩ := p
    rw [List.length_map, List.take_length] at al
    exact q (.ref D) H' (e2.trans (e3.trans ex)) ⟨D, ys, rfl, hD, al⟩
end
section
variable {P : Program} {w : World} {K : PySem.W.Frag} {mg : Str → Option Value} {base : Heap} {C CE CP CN CB CA CD CBE CS : Addr}
end
end Fm
set_option maxHeartbeats 4000000
/-! .., whose keys are tuples. -/
namespace Dc4
open PySem PySem.Spec PyProof.Rows L2 Evl Pd Dc2 Dct
/-- the reading: D the new dict; the second clause's walk leads to Nx -/
def tDc4 (mk : HO) (wi : TI) (g : TG) (wj : TI) (gj : TG) (tk tv : TE) (vs ws : List Nat) : TE := fun σ H Q => wi σ H fun J H1 => ∀ D, H1 D = none → ∃ W : Nat → Nat → Hp → Prop, (∃ m, W 0 m (upd H1 D mk)) ∧ ∀ i m H2, W i m H2 →
  (J.stop i H2 ∧ Q (.ref D) H2) ∨ (J.go i H2 ∧ ∃ Nx : Hp → Prop, (∀ H3, Nx H3 → ∃ m', m' < m ∧ W (i + 1) m' H3) ∧ ∀ x H3, J.yld i H2 x H3 → g x (wipe σ vs) H3 fun σ2 H4 => wipe σ2 vs = wipe σ vs ∧
    wj σ2 H4 fun J1 H5 => ∃ Wj : Nat → Nat → Hp → Prop, (∃ m, Wj 0 m H5) ∧ ∀ j k H6, Wj j k H6 →
      (J1.stop j H6 ∧ Nx H6) ∨ (J1.go j H6 ∧ ∃ Ny : Hp → Prop, (∀ H7, Ny H7 → ∃ k', k' < k ∧ Wj (j + 1) k' H7) ∧ ∀ y H7, J1.yld j H6 y H7 → gj y (wipe σ2 ws) H7 fun σ3 H8 => wipe σ3 ws = wipe σ2 ws ∧
        tk σ3 H8 fun u H9 => tv σ3 H9 fun z HA => ∃ H8, DPut HA D u z H8 ∧ Ny H8))
section
variable {X : Cx}
theorem dc4_core {pins : List (Addr × Obj)} {s : Shared} {σ : L2.St} {H : Hp} {Q : VK} {pos2 : Pos} {use : Option (Value → Sem Unit)} {Qf : Value → Shared → Prop} {mk : HO} {kx vx ta ia tb ib : Expr} {scope : Scope} {own : List (Str × Nat)} {ws : List Nat} {pos : Pos} {wi wj : TI} {g gj : TG} {tk tv : TE} (hu : X.A.units + 1 < cLine)
    (new : ∀ (P : Program) (w : World) (H : Hp) (h : Heap), sysModules < h.objs.size → ObjOk P w H (h.push { cls := .type "dict", data := .dict #[] }) h.objs.size mk)
    (hc : X.calm = true) (hN : X.N.Nodup) (hi : PI X ta ia wi) (ok : BlkOk X.N X.env.scope scope own) (hv : ∀ i ∈ ws, i ∈ own.map (·.2))
    (hg : ∀ (s : Shared) (H : Hp) (C : Addr) (cl : List (Str × Addr)) (fp : List Addr), PG (X.blk s H scope (compEnvC scope cl C X.env) fp) ta g)
    (hj : ∀ (s : Shared) (H : Hp) (C : Addr) (cl : List (Str × Addr)) (fp : List Addr), PI (X.blk s H scope (compEnvC scope cl C X.env) fp) tb ib wj)
    (hgj : ∀ (s : Shared) (H : Hp) (C : Addr) (cl : List (Str × Addr)) (fp : List Addr), PG (X.blk s H scope (compEnvC scope cl C X.env) fp) tb gj)
    (hk : ∀ (s : Shared) (H : Hp) (C : Addr) (cl : List (Str × Addr)) (fp : List Addr), PE (X.blk s H scope (compEnvC scope cl C X.env) fp) kx tk)
    (he : ∀ (s : Shared) (H : Hp) (C : Addr) (cl : List (Str × Addr)) (fp : List Addr), PE (X.blk s H scope (compEnvC scope cl C X.env) fp) vx tv)
    (hs : ∀ x, foldedSetIterable ia X.env x = pure x) (hsj : ∀ env x, foldedSetIterable ib env x = pure x) (I : Inv X pins σ H s) (h : tDc4 mk wi g wj gj tk tv (own.map (·.2)) ws σ H Q)
    (hRR : ∀ D C s' m H', Inv X pins σ H' s' → Q (.ref D) H' → s'.heap.Ns C m → FpOk X pins H' C → compPost (model X.prog X.w) X.A X.xe use Qf (.ref D) C (.ok .next) s') :
    wpAny (model X.prog X.w) X.A (comprehension (two kx vx ta ia tb ib scope pos) scope X.env pos2 newDict false (eval ia X.env) use) Qf X.xe s := by
  have clo : ∀ y ∈ scope.names, y.2 = .free → ∃ c, X.env.cells.lookup y.1 = some c := fun y hy e => (ok.free y hy e).elim (fun k => I.ok.has _ (.inl k)) fun k => I.ok.has _ (.inr k)
  refine wpAny_comprehension_free (use := use) rfl hs (closure_ok clo) ok.kind (fun y hy e => by rw [ok.uniq y hy, e]) (thn (hi.run pins s σ H _ I h) fun _ s1 hx => thn hx fun _ s2 ⟨it, fp, tn, J, Ha, e, I2, T, st2, f2, q⟩ => ?_)
  subst e
  refine wpAny_newObj_type (newEnv_comp ?_)
  obtain ⟨D, hD⟩ : ∃ D, D = s2.heap.objs.size := ⟨_, rfl⟩
  obtain ⟨s3, hs3⟩ : ∃ s3 : Shared, s3 = { s2 with heap := s2.heap.push { cls := .type "dict", data := .dict #[] } } := ⟨_, rfl⟩
  rw [← hs3, ← hD]
  have nD : Ha D = none := I2.hok.fresh (Nat.le_of_eq hD.symm)
  obtain ⟨W, ⟨m0, w0⟩, turn⟩ := q D nD
  have hp3 : s3.heap = s2.heap.push { cls := .type "dict", data := .dict #[] } := by rw [hs3]
  have kept3 : ∀ b o, s2.heap.get? b = some o → s3.heap.get? b = some o := fun b o z => by rw [hp3]; exact Heap.get?_push_of_some _ z
  have I3 : Inv X pins σ (upd Ha D mk) s3 := by
    have z := I2.laid (a := D) (o := mk) (t' := s2.toks) (h' := s2.heap.push { cls := .type "dict", data := .dict #[] }) (fun b o z => Heap.get?_push_of_some _ z) (Nat.le_of_eq hD.symm) (by rw [hD]; exact new _ _ _ _ I2.big)
    rw [hs3]
    exact z
  have low : ∀ b ∈ fp, b < s2.heap.objs.size := fun b hb => let ⟨_, z, _⟩ := T.obj _ _ st2 b hb; Heap.lt_size z
  have f3 : ∀ b ∈ fp, FpOk X pins (upd Ha D mk) b ∧ b < s3.heap.objs.size := fun b hb => by
    have l := low b hb
    have ne : b ≠ D := by rw [hD]; exact Nat.ne_of_lt l
    exact ⟨⟨by rw [upd_ne ne]; exact (f2 b hb).1, (f2 b hb).2⟩, by rw [hp3, Heap.size_push]; exact Nat.lt_succ_of_lt l⟩
  have st3 : tn 0 s3.heap := T.keep _ _ _ st2 fun b _ o z => kept3 b o z
  have I4 := block_start I3 ok hN f3
  show codeAny _ _ (.compStart (two kx vx ta ia tb ib scope pos) 0 (.ref it) (.ref D) (compEnvC scope (cellsFrom (s3.heap.objs.size + 1) scope.names (cloFrom X.env.cells scope.names [])) s3.heap.objs.size X.env)) _ _
  generalize hcl : cellsFrom (s3.heap.objs.size + 1) scope.names (cloFrom X.env.cells scope.names []) = cl at I4 ⊢
  have pg := hg s3 (upd Ha D mk) s3.heap.objs.size cl fp
  have pj := hj s3 (upd Ha D mk) s3.heap.objs.size cl fp
  have pgj := hgj s3 (upd Ha D mk) s3.heap.objs.size cl fp
  have pk := hk s3 (upd Ha D mk) s3.heap.objs.size cl fp
  have pe := he s3 (upd Ha D mk) s3.heap.objs.size cl fp
  have nfp : ∀ b ∈ fp, (upd Ha D mk) b = none := fun b hb => (f3 b hb).1.1
  have cL : (compEnvC scope cl s3.heap.objs.size X.env).locals = s3.heap.objs.size := rfl
  generalize compEnvC scope cl s3.heap.objs.size X.env = ce at I4 pg pj pgj pk pe cL ⊢
  generalize hHb : upd Ha D mk = Hb at I3 I4 pg pj pgj pk pe w0 nfp f3
  generalize hs4 : ({ s3 with heap := pushCells (s3.heap.push { cls := .type "dict", data := .dict #[] }) scope.names } : Shared) = s4 at I4 ⊢
  have st4 : tn 0 s4.heap := T.keep _ _ _ st3 fun b _ o z => by rw [← hs4]; exact pushCells_keeps _ _ _ _ (Heap.get?_push_of_some _ z)
  have stat : ∀ {σ' : L2.St} {H' : Hp} {s' : Shared}, Inv (X.blk s3 Hb scope ce fp) [] σ' H' s' → (∀ b ∈ fp, H' b = none) → ∀ b ∈ fp, FpOk (X.blk s3 Hb scope ce fp) [] H' b := fun {σ' H' s'} J' hn b hb =>
    ⟨hn b hb, (J'.ok.exf b hb).1, J'.ok.exfs b hb, .inl hb, fun x c z => (J'.ok.exf b hb).2 x c z, fun p hp => absurd (show p ∈ ([] : List (Addr × Obj)) ++ [] from hp) (by simp)⟩
  refine codeAny_compStart_dict ?loop (T.self X.A 0 _ _ _ st4 ?loop)
  refine loopA (hsj ce) (fun n s' => ∃ i H', Inv (X.blk s3 Hb scope ce fp) [] (wipe σ (own.map (·.2))) H' s' ∧ tn i s'.heap ∧ (∀ b ∈ fp, H' b = none) ∧ W i n H') (fun n s5 ⟨i, H5, I5, st5, n5, w5⟩ => ?_) m0 ⟨0, Hb, I4, st4, nfp, w0⟩
  rcases turn i n H5 w5 with ⟨stop, qq⟩ | ⟨go, Nx, hNx, step⟩
  · refine thnF (T.done (X.blk s3 Hb scope ce fp) rfl rfl rfl hc i [] s5 _ H5 (fun _ _ => False) I5 (stat I5 n5) st5 stop) fun r s6 ⟨hr, I6⟩ => ?_
    subst hr
    have I7 : Inv X pins σ H5 s6 := I3.call' (ch := fp) I6.os I6.base I6.hok I6.bare fun b hb => ⟨(f3 b hb).1.2.2.2.1, (f3 b hb).1.2.1, (f3 b hb).1.2.2.2.2.1, (f3 b hb).1.2.2.2.2.2⟩
    have nC : H5 s3.heap.objs.size = none := by
      have z : H5 ce.locals = none := I6.free
      rw [cL] at z
      exact z
    obtain ⟨m, hn, _⟩ := I6.loc
    have hn' : s6.heap.Ns s3.heap.objs.size m := by
      have z : s6.heap.Ns ce.locals m := hn
      rw [cL] at z
      exact z
    exact hRR D s3.heap.objs.size s6 m H5 I7 qq hn' (I3.fpOk (b := s3.heap.objs.size) (H' := H5) (Nat.le_refl _) nC)
  · refine thnF (T.item (X.blk s3 Hb scope ce fp) rfl rfl rfl hc i [] s5 _ H5 (fun _ _ => False) I5 (stat I5 n5) st5 go) fun r s6 ⟨u, hr, h6⟩ => ?_
    subst hr
    refine thnF h6 fun _ s7 ⟨x, H7, I7, r7, y7, st7, n7⟩ => ?_
    have I7' := I7.pinned (stat I7 n7) (T.obj _ _ st7)
    refine thnF (pg.run _ s7 _ H7 x u _ I7' r7 (step x H7 y7)) fun _ s8 ⟨σ8, H8, I8, hw8, q8⟩ => ?_
    -- the end of a turn, from slots that know what the block knew at its start
    have fin : ∀ {σ9 : L2.St} {s' : Shared} {H' : Hp}, Inv (X.blk s3 Hb scope ce fp) ([] ++ pinsAt fp s7.heap) σ9 H' s' → (wipe σ (own.map (·.2))).length = σ9.length → (∀ (j : Nat) v, (wipe σ (own.map (·.2)))[j]? = some (some v) → σ9[j]? = some (some v)) → Nx H' →
        ∃ m, m < n ∧ ∃ i H', Inv (X.blk s3 Hb scope ce fp) [] (wipe σ (own.map (·.2))) H' s' ∧ tn i s'.heap ∧ (∀ b ∈ fp, H' b = none) ∧ W i m H' := fun {σ9 s' H'} J' hl hq nx => by
      obtain ⟨m', hm, w'⟩ := hNx H' nx
      have still : ∀ b ∈ fp, ∀ o, s7.heap.get? b = some o → s'.heap.get? b = some o ∧ H' b = none := fun b hb o z =>
        let y := J'.pin (b, o) (List.mem_append_right _ (List.mem_append_right _ (mem_pinsAt hb z)))
        ⟨y.1, y.2.1⟩
      refine ⟨m', hm, i + 1, H', (J'.unpinned (pins := [])).weak hl hq, T.keep _ _ _ st7 fun b hb o z => (still b hb o z).1, fun b hb => ?_, w'⟩
      obtain ⟨o, z, _⟩ := T.obj _ _ st7 b hb
      exact (still b hb o z).2
    have l8 : (wipe σ (own.map (·.2))).length = σ8.length := by rw [← hw8, wipe_length]
    have k9 : ∀ (j : Nat) v, (wipe σ (own.map (·.2)))[j]? = some (some v) → (wipe σ8 ws)[j]? = some (some v) := fun j v z => by
      rw [← hw8] at z
      obtain ⟨z1, z2⟩ := wipe_some z
      rw [wipe_out fun y => z2 (hv j y)]
      exact z1
    refine thnF (pj.run _ s8 σ8 H8 _ I8 q8) fun _ s9 hy => thnF hy fun _ sA ⟨itb, fpb, tnb, Jb, HA, eb, IA, Tb, stA, fA, Wj, ⟨m1, w1⟩, turnj⟩ => ?_
    subst eb
    have statb : ∀ {H' : Hp}, (∀ b ∈ fpb, H' b = none) → ∀ b ∈ fpb, FpOk (X.blk s3 Hb scope ce fp) ([] ++ pinsAt fp s7.heap) H' b := fun hn b hb => ⟨hn b hb, (fA b hb).2⟩
    have inner : codeAny (model X.prog X.w) X.A (.compLoop (two kx vx ta ia tb ib scope pos) 1 (.ref itb) (.ref D) ce)
        (fun r s' => match r with
          | .ok _ => ∃ m, m < n ∧ ∃ i H', Inv (X.blk s3 Hb scope ce fp) [] (wipe σ (own.map (·.2))) H' s' ∧ tn i s'.heap ∧ (∀ b ∈ fp, H' b = none) ∧ W i m H'
          | .error _ => False) sA := by
      refine loopB (fun k s' => ∃ j H', Inv (X.blk s3 Hb scope ce fp) ([] ++ pinsAt fp s7.heap) (wipe σ8 ws) H' s' ∧ tnb j s'.heap ∧ (∀ b ∈ fpb, H' b = none) ∧ Wj j k H') (fun k sB ⟨j, HB, IB, stB, nB, wB⟩ => ?_) m1 ⟨0, HA, IA.weak (wipe_length _ _) (fun j v z => (wipe_some z).1), stA, fun b hb => (fA b hb).1, w1⟩
      rcases turnj j k HB wB with ⟨stopb, nx⟩ | ⟨gob, Ny, hNy, stepb⟩
      · refine thnF (Tb.done (X.blk s3 Hb scope ce fp) rfl rfl rfl hc j _ sB (wipe σ8 ws) HB (fun _ _ => False) IB (statb nB) stB stopb) fun r sC ⟨hr, IC⟩ => ?_
        subst hr
        exact fin IC (l8.trans (wipe_length σ8 ws).symm) k9 nx
      · refine thnF (Tb.item (X.blk s3 Hb scope ce fp) rfl rfl rfl hc j _ sB (wipe σ8 ws) HB (fun _ _ => False) IB (statb nB) stB gob) fun r sC ⟨u1, hr, hC⟩ => ?_
        subst hr
        refine thnF hC fun _ sE ⟨y, HE, IE, rE, yE, stE, nE⟩ => ?_
        have IE' := IE.pinned (statb nE) (Tb.obj _ _ stE)
        refine thnF (pgj.run _ sE (wipe σ8 ws) HE y u1 _ IE' rE (stepb y HE yE)) fun _ sF ⟨σF, HF, IF, hwF, qF⟩ => ?_
        have finb : ∀ {s' : Shared} {H' : Hp}, Inv (X.blk s3 Hb scope ce fp) (([] ++ pinsAt fp s7.heap) ++ pinsAt fpb sE.heap) σF H' s' → Ny H' → ∃ m, m < k ∧ ∃ j H', Inv (X.blk s3 Hb scope ce fp) ([] ++ pinsAt fp s7.heap) (wipe σ8 ws) H' s' ∧ tnb j s'.heap ∧ (∀ b ∈ fpb, H' b = none) ∧ Wj j m H' := fun {s' H'} J' ny => by
          obtain ⟨m', hm, w'⟩ := hNy H' ny
          have still : ∀ b ∈ fpb, ∀ o, sE.heap.get? b = some o → s'.heap.get? b = some o ∧ H' b = none := fun b hb o z =>
            let y := J'.pin (b, o) (List.mem_append_right _ (List.mem_append_right _ (mem_pinsAt hb z)))
            ⟨y.1, y.2.1⟩
          refine ⟨m', hm, j + 1, H', J'.unpinned.weak (by rw [← hwF, wipe_length]) (fun j v z => by rw [← hwF] at z; exact (wipe_some z).1), Tb.keep _ _ _ stE fun b hb o z => (still b hb o z).1, fun b hb => ?_, w'⟩
          obtain ⟨o, z, _⟩ := Tb.obj _ _ stE b hb
          exact (still b hb o z).2
        refine thnF (pk.run _ sF σF HF _ IF qF) fun _ sG ⟨yk, HG, IG, rG, qG⟩ => thnF (pe.run _ sG σF HG _ IG qG) fun _ sH ⟨yv, HH, IH, rH, H8, put, ny⟩ => ?_
        exact store_dict (X := X.blk s3 Hb scope ce fp) hu IH put rG rH fun sI II => finb II ny
    exact startB inner (Tb.self X.A 0 _ _ _ stA inner)
theorem ps_setDc4 {i : Nat} {y : Str} {py spos : Pos} {mk : HO} {kx vx ta ia tb ib : Expr} {scope : Scope} {own : List (Str × Nat)} {ws : List Nat} {pos : Pos} {wi wj : TI} {g gj : TG} {tk tv : TE} (hu : X.A.units + 1 < cLine)
    (new : ∀ (P : Program) (w : World) (H : Hp) (h : Heap), sysModules < h.objs.size → ObjOk P w H (h.push { cls := .type "dict", data := .dict #[] }) h.objs.size mk)
    (hsw : swapsWith (two kx vx ta ia tb ib scope pos) (some (.Name y py)) spos.line X.env = pure true) (hy : X.N[i]? = some y) (hyl : X.env.scope.names.lookup y = some .local)
    (hc : X.calm = true) (hN : X.N.Nodup) (hi : PI X ta ia wi) (ok : BlkOk X.N X.env.scope scope own) (hv : ∀ i ∈ ws, i ∈ own.map (·.2))
    (hg : ∀ (s : Shared) (H : Hp) (C : Addr) (cl : List (Str × Addr)) (fp : List Addr), PG (X.blk s H scope (compEnvC scope cl C X.env) fp) ta g)
    (hj : ∀ (s : Shared) (H : Hp) (C : Addr) (cl : List (Str × Addr)) (fp : List Addr), PI (X.blk s H scope (compEnvC scope cl C X.env) fp) tb ib wj)
    (hgj : ∀ (s : Shared) (H : Hp) (C : Addr) (cl : List (Str × Addr)) (fp : List Addr), PG (X.blk s H scope (compEnvC scope cl C X.env) fp) tb gj)
    (hk : ∀ (s : Shared) (H : Hp) (C : Addr) (cl : List (Str × Addr)) (fp : List Addr), PE (X.blk s H scope (compEnvC scope cl C X.env) fp) kx tk)
    (he : ∀ (s : Shared) (H : Hp) (C : Addr) (cl : List (Str × Addr)) (fp : List Addr), PE (X.blk s H scope (compEnvC scope cl C X.env) fp) vx tv)
    (hs : ∀ x, foldedSetIterable ia X.env x = pure x := by intro _; rfl) (hsj : ∀ env x, foldedSetIterable ib env x = pure x := by intro _ _; rfl) :
    PS X (.Assign [.Name y py] (two kx vx ta ia tb ib scope pos) spos) (tAsg (tDc4 mk wi g wj gj tk tv (own.map (·.2)) ws) (gName i)) := by
  refine ⟨fun pins s σ H D I h => ?_⟩
  rw [exec_Assign_Name_used _ _ _ _ hsw]
  refine wpAny_bind (wpAny_standAt (wpAny_bind ?_))
  show wpAny _ X.A (do let _ ← comprehension (two kx vx ta ia tb ib scope pos) scope X.env (firstIterPos [⟨ta, ia, [], 0⟩, ⟨tb, ib, [], 0⟩] pos) newDict false (eval ia X.env) (some (assign (.Name y py) X.env))) _ _ s
  have h : tDc4 mk wi g wj gj tk tv (own.map (·.2)) ws σ H (fun x H1 => gName i x σ H1 D.nx) := h
  refine wpAny_bind (thn (dc4_core (Qf := fun _ s' => SP X pins D .next s') hu new hc hN hi ok hv hg hj hgj hk he hs hsj I h fun L C s' m H' I' q hn f => ?_) fun _ s' hq => wpAny_pure (wpAny_pure hq))
  show wpAny _ _ (assign (.Name y py) X.env (.ref L)) _ _ _
  refine wpAny_assign_Name (store_ok2 (v := V.ref L) I' hN hy (.inl hyl) rfl (fun s2 I2 ⟨a, sb, ha⟩ => ?_) (.inr hyl))
  obtain ⟨f0, f1, f2, f3, f4, f5⟩ := f
  have haC : C ≠ a := by
    rcases ha with z | z
    · rw [z]; exact f1
    · exact fun e => f4 y a z e.symm
  refine ⟨m, hn.sameBut sb haC, fun h3 sb3 => ?_⟩
  exact ⟨_, H', I2.turned (t' := s2.toks) (fun b o hb e => (sb3.2 b hb).trans e) f0 f1 f3 f4 f5, q⟩
theorem pe_dc4 {mk : HO} {kx vx ta ia tb ib : Expr} {scope : Scope} {own : List (Str × Nat)} {ws : List Nat} {pos : Pos} {wi wj : TI} {g gj : TG} {tk tv : TE} (hu : X.A.units + 1 < cLine)
    (new : ∀ (P : Program) (w : World) (H : Hp) (h : Heap), sysModules < h.objs.size → ObjOk P w H (h.push { cls := .type "dict", data := .dict #[] }) h.objs.size mk)
    (hc : X.calm = true) (hN : X.N.Nodup) (hi : PI X ta ia wi) (ok : BlkOk X.N X.env.scope scope own) (hv : ∀ i ∈ ws, i ∈ own.map (·.2))
    (hg : ∀ (s : Shared) (H : Hp) (C : Addr) (cl : List (Str × Addr)) (fp : List Addr), PG (X.blk s H scope (compEnvC scope cl C X.env) fp) ta g)
    (hj : ∀ (s : Shared) (H : Hp) (C : Addr) (cl : List (Str × Addr)) (fp : List Addr), PI (X.blk s H scope (compEnvC scope cl C X.env) fp) tb ib wj)
    (hgj : ∀ (s : Shared) (H : Hp) (C : Addr) (cl : List (Str × Addr)) (fp : List Addr), PG (X.blk s H scope (compEnvC scope cl C X.env) fp) tb gj)
    (hk : ∀ (s : Shared) (H : Hp) (C : Addr) (cl : List (Str × Addr)) (fp : List Addr), PE (X.blk s H scope (compEnvC scope cl C X.env) fp) kx tk)
    (he : ∀ (s : Shared) (H : Hp) (C : Addr) (cl : List (Str × Addr)) (fp : List Addr), PE (X.blk s H scope (compEnvC scope cl C X.env) fp) vx tv)
    (hs : ∀ x, foldedSetIterable ia X.env x = pure x := by intro _; rfl) (hsj : ∀ env x, foldedSetIterable ib env x = pure x := by intro _ _; rfl) :
    PE X (two kx vx ta ia tb ib scope pos) (tDc4 mk wi g wj gj tk tv (own.map (·.2)) ws) := by
  refine ⟨fun pins s σ H Q I h => ?_⟩
  rw [arm_eval_DictComp]
  refine dc4_core (use := none) hu new hc hN hi ok hv hg hj hgj hk he hs hsj I h fun D C s' m H' I' q hn f => ?_
  obtain ⟨g0, g1, g2, g3, g4, g5⟩ := f
  exact ⟨m, hn, fun h9 sb => ⟨.ref D, H', I'.turned (t' := s'.toks) (fun b o hb z => (sb.2 b hb).trans z) g0 g1 g3 g4 g5, rfl, q⟩⟩
end
end Dc4
set_option maxHeartbeats 4000000
/-! forms: met_by_rows. -/
namespace Fm
open PySem PySem.Spec PyProof.Rows L2 Evl Pd Gd Us Chk Lw Dc4
abbrev nMet : List Str := ["pact", "word", "rows", "hold", "use", "pairs", "row", "made"]
/-- the pairs of a row -/
def metR (h u : Str) (r : List Int) : List (List Key) := (madeBy u r).map fun m => [.inl m, .inl (judgedBy h r)]
def metK (h u : Str) (rs : List (List Int)) : List (List Key) := rs.flatMap (metR h u)
def metD (h u : Str) (rs : List (List Int)) : List PyData := sortD ((onceK (metK h u rs)).map Chk.pairD)
/-- how the word is used by the end that does not own it -/
structure UseIs (l r : Eg) (s o u : Str) : Prop where
  nm : inT namesT (.str (othN o)) = true
  has : hasW (selP l r (othN o)).uses (.str s) = true
  is_ : getK (selP l r (othN o)).uses s = .d (.str u)
def spMet (K : PySem.W.Frag) (C CE CP CN : Addr) : Sp := fun vs H Q E => vs.length = 2 ∧ ∃ x y l r, vs = [x, y] ∧ PactV K C CE CP l r x H ∧ NeatP l r ∧
  ((∃ s o g m u, y = .str s ∧ WordIs l r s o g m ∧ UseIs l r s o u ∧ ∀ z H', Ex H H' → Qe (.list (metD g.hold u (rowsTo g m))) z H' → Q z H') ∨ (∃ d, Dq H y d ∧ hasW (ownersI l r) d = false ∧ ∀ v H1, Ex H H1 → Dq H1 v d → ErrQ CN v H1 E))
/-! ### all values stand in 0 to 3 -/
def In4 (rs : List (List Int)) : Prop := ∀ r ∈ rs, ∀ x ∈ r, 0 ≤ x ∧ x ≤ 3
theorem fromStart_rg {g : Stg} (s0 : 0 ≤ g.start) (s1 : g.start < g.size) (s4 : g.size ≤ 4) : ∀ x ∈ fromStart g, 0 ≤ x ∧ x ≤ 3 := by
  have key : ∀ (lets : Int → Int → Bool) (n m : Nat) (f : List Int) (a : Nat), OkF n f → OkF n (bfs lets n m f a) := by
    intro lets n m
    induction m with
    | zero => exact fun f a h => h
    | succ m ih =>
      intro f a h
      unfold bfs
      cases f[a]? with
      | none => exact h
      | some x =>
        refine ih _ _ ?_
        have : ∀ (k : Nat), k ≤ n → OkF n ((List.range k).foldl (addV lets x) f) := by
          intro k
          induction k with
          | zero => exact fun _ => h
          | succ k ih2 =>
            intro hk
            rw [List.range_succ, List.foldl_append]
            exact okF_add (ih2 (by omega)) (by omega)
        exact this n (Nat.le_refl n)
  intro x hx
  unfold fromStart sortI at hx
  have hx := (List.mergeSort_perm _ _).mem_iff.mp hx
  have := (key (letsI g) g.size.toNat g.size.toNat [g.start] 0 ⟨by simp, fun y hy => by rw [List.mem_singleton.mp hy]; omega⟩).rg x hx
  omega
theorem rowsLy_rg {g : Stg} (s0 : 0 ≤ g.start) (s1 : g.start < g.size) (s4 : g.size ≤ 4) : ∀ (m : Nat), In4 (rowsLy g m)
  | 0 => fun r h x hx => by
    obtain ⟨v, hv, rfl⟩ := List.mem_map.mp h
    rw [List.mem_singleton.mp hx]
    exact fromStart_rg s0 s1 s4 v hv
  | m + 1 => fun r h x hx => by
    obtain ⟨q, hq, hr⟩ := List.mem_flatMap.mp h
    obtain ⟨v, hv, rfl⟩ := List.mem_map.mp hr
    rcases List.mem_append.mp hx with hx | hx
    · exact rowsLy_rg s0 s1 s4 m q hq x hx
    · rw [List.mem_singleton.mp hx]
      have := List.mem_range.mp (List.mem_filter.mp hv).1
      omega
theorem rowsTo_rg {g : Stg} (s0 : 0 ≤ g.start) (s1 : g.start < g.size) (s4 : g.size ≤ 4) : ∀ (m : Nat), In4 (rowsTo g m)
  | 0 => rowsLy_rg s0 s1 s4 0
  | m + 1 => fun r h x hx => by
    rcases List.mem_append.mp h with h | h
    · exact rowsTo_rg s0 s1 s4 m r h x hx
    · exact rowsLy_rg s0 s1 s4 (m + 1) r h x hx
theorem rowsTo_ok {g : Stg} : ∀ (m : Nat), ∀ r ∈ rowsTo g m, r ≠ [] ∧ r.length ≤ m + 1
  | 0, r, h => by have := rowsLy_ok 0 r h; exact ⟨this.1, by omega⟩
  | m + 1, r, h => by
    rcases List.mem_append.mp h with h | h
    · have := rowsTo_ok m r h; exact ⟨this.1, by omega⟩
    · have := rowsLy_ok (m + 1) r h; exact ⟨this.1, by omega⟩
theorem madeBy_sub {u : Str} {r : List Int} : ∀ x ∈ madeBy u r, x ∈ r := fun x h => by
  unfold madeBy at h
  split at h
  · exact h
  · exact List.mem_of_mem_take h
theorem madeBy_len {u : Str} {r : List Int} : (madeBy u r).length ≤ r.length := by
  unfold madeBy
  split
  · exact Nat.le_refl _
  · rw [List.length_take]; omega
theorem judgedBy_mem {h : Str} {r : List Int} (ne : r ≠ []) : judgedBy h r ∈ r := by
  have last : ∀ {l : List Int}, l ≠ [] → (l.getLast?).getD 0 ∈ l := fun {l} n => by
    rw [List.getLast?_eq_some_getLast n, Option.getD_some]
    exact List.getLast_mem n
  unfold judgedBy
  split
  · exact last ne
  · split
    · cases r with
      | nil => exact absurd rfl ne
      | cons a t => simp
    · have : sortI r ≠ [] := fun z => ne (List.length_eq_zero_iff.mp (by have := congrArg List.length z; unfold sortI at this; rwa [List.length_mergeSort] at this))
      have h2 := last this
      unfold sortI at h2 ⊢
      exact (List.mergeSort_perm _ _).mem_iff.mp h2
theorem metK_ok {h u : Str} {rs : List (List Int)} (rg : In4 rs) (ne : ∀ r ∈ rs, r ≠ []) : ∀ k ∈ metK h u rs, OkPair k := fun k hk => by
  obtain ⟨r, hr, hk⟩ := List.mem_flatMap.mp hk
  obtain ⟨m, hm, rfl⟩ := List.mem_map.mp hk
  have a := rg r hr m (madeBy_sub m hm)
  have b := rg r hr _ (judgedBy_mem (h := h) (ne r hr))
  exact ⟨m, judgedBy h r, rfl, a.1, a.2, b.1, b.2⟩
theorem metK_len {h u : Str} {rs : List (List Int)} (l4 : ∀ r ∈ rs, r.length ≤ 4) : (metK h u rs).length ≤ 4 * rs.length := by
  induction rs with
  | nil => exact Nat.zero_le _
  | cons r t ih =>
    have a := ih fun q hq => l4 q (List.mem_cons_of_mem _ hq)
    have b := l4 r (List.mem_cons_self ..)
    have c : (metR h u r).length ≤ r.length := by unfold metR; rw [List.length_map]; exact madeBy_len
    unfold metK at a ⊢
    rw [List.flatMap_cons, List.length_append, List.length_cons]
    omega
theorem once_mem {l : List (List Key)} {k : List Key} (h : k ∈ onceK l) : k ∈ l := by
  have : ∀ (l acc : List (List Key)), ∀ k ∈ l.foldl addK acc, k ∈ acc ∨ k ∈ l := by
    intro l
    induction l with
    | nil => intro acc k h; exact .inl h
    | cons a t ih =>
      intro acc k h
      rcases ih (addK acc a) k h with h | h
      · unfold addK at h
        split at h
        · exact .inl h
        · rcases List.mem_append.mp h with h | h
          · exact .inl h
          · exact .inr (by rw [List.mem_singleton.mp h]; exact List.mem_cons_self ..)
      · exact .inr (List.mem_cons_of_mem _ h)
  rcases this l [] k h with h | h
  · cases h
  · exact h
end Fm
set_option maxHeartbeats 4000000
/-! forms: met_by_rows, run. -/
namespace Fm
open PySem PySem.Spec PyProof.Rows L2 Evl Pd Gd Us Chk Lw Dc4
section
variable {K : PySem.W.Frag} {C CE CP CN : Addr} {σ : L2.St} {H : Hp} {te ty ta tb : TE} {E : XK}
theorem p_use30 {its : Its'} {s : Str} (h : EvP te σ H (FldV K C CE "_uses" its)) (nd : (its.map (·.1)).Nodup) (hd : Ev ty σ H (.str s)) (hs : hasW its (.str s) = true) : EvP (tMeth CE "use" (spAt K C CE CN "_uses") [] E te (tCons ty tNil)) σ H (ItmV K C (getK its s)) := fun H1 e1 Q q =>
  h H1 e1 _ fun x H2 e2 ⟨a, ex, at_⟩ => by
    obtain ⟨dx, fs, dd, ws, h0, _, _, _, fm⟩ := at_.ex
    exact ⟨a, dx, fs, ex, h0, fm _ (by decide), hd H2 (e1.trans e2) _ fun H3 e3 => ⟨rfl, x, .str s, .str s, its, rfl, ⟨a, ex, at_.up e3⟩, nd, .str s, fun s2 es _ v H4 e4 p => (by cases es; exact q v H4 (e2.trans (e3.trans e4)) p), fun c => (by rw [hs] at c; cases c)⟩⟩
theorem ev_judged {u : Str} {r : List Int} (h1 : Ev ta σ H (.str u)) (h2 : EvP tb σ H (RowI r)) (ne : r ≠ []) (l : r.length ≤ 1000) : Ev (tCall (spJudgedBy K) [] E (tCons ta (tCons tb tNil))) σ H (.int (judgedBy u r)) := fun H1 e Q q =>
  h1 H1 e _ fun H2 e2 => h2 H2 (e.trans e2) _ fun y H3 e3 py => ⟨rfl, u, y, r, rfl, py, ne, l, fun H4 e4 => q H4 (e2.trans (e3.trans e4))⟩
theorem p_madeBy {u : Str} {r : List Int} (h1 : Ev ta σ H (.str u)) (h2 : EvP tb σ H (RowI r)) (ne : r ≠ []) : EvP (tCall (spMadeBy K) [] E (tCons ta (tCons tb tNil))) σ H (RowI (madeBy u r)) := fun H1 e Q q =>
  h1 H1 e _ fun H2 e2 => h2 H2 (e.trans e2) _ fun y H3 e3 py => ⟨rfl, u, y, r, rfl, py, ne, fun z H4 e4 pz => q z H4 (e2.trans (e3.trans e4)) pz⟩
/-- {(made, judged): True for row in rows for made in made_by(use, row)} -/
abbrev tMetD (K : PySem.W.Frag) (E0 : XK) : TE := tDc4 (.dT []) (iList K (tVar 2)) (gName 6) (iTup K (tCall (spMadeBy K) [] E0 (tCons (tVar 4) (tCons (tVar 6) tNil)))) (gName 7) (tTup (tCons (tVar 7) (tCons (tCall (spJudgedBy K) [] E0 (tCons (tVar 3) (tCons (tVar 6) tNil))) tNil))) (tC (.bl true)) [6, 7] [7]
theorem p_metD {h u : Str} {rs : List (List Int)} {x y a : V} (hr : RowsI rs a H) (ne : ∀ r ∈ rs, r ≠ []) (l4 : ∀ r ∈ rs, r.length ≤ 4) (lr : rs.length ≤ 2000) :
    EvP (tMetD K E) [some x, some y, some a, some (.str h), some (.str u), none, none, none] H (DtV (onceK (metK h u rs))) := fun H1 e1 Q q => by
  obtain ⟨a, xs, rfl, ha, ral⟩ := mo_rowsI _ _ _ e1 hr
  have lx := ral.len
  refine ⟨.ref a, rfl, a, rfl, ⟨xs, sq_of ha⟩, fun D nD => ?_⟩
  refine walk_w (walk_list (K := K) (a := a) (xs := xs)) (fun i H' => Ex H1 H' ∧ H' D = some (.dT (trues (onceK (metK h u (rs.take i)))))) ⟨Ex.new nD, upd_same⟩ (fun i H' _ p => sq_of (p.1 _ _ ha)) (fun i v H2 H3 hi p yy => ?_) fun H' p => ?_
  · obtain ⟨ex, hD⟩ := p
    obtain ⟨rfl, hv⟩ := yy
    obtain ⟨r, hr1, b, rfl, hb⟩ := ral.at_ hv
    have rm := List.mem_of_getElem? hr1
    have rne := ne r rm
    have rl := l4 r rm
    refine ⟨rfl, ?_⟩
    refine p_madeBy (u := u) (r := r) (ev_var rfl) (p_var rfl mo_rowI ⟨b, rfl, ex _ _ hb⟩) rne _ (Ex.refl _) _ fun z H4 e4 hz => ?_
    obtain ⟨c, rfl, hc⟩ := hz
    have grow : metK h u (rs.take (i + 1)) = metK h u (rs.take i) ++ metR h u r := by
      unfold metK
      rw [List.take_succ, hr1, List.flatMap_append]
      show _ ++ List.flatMap _ [r] = _
      rw [List.flatMap_cons, List.flatMap_nil, List.append_nil]
    refine ⟨c, rfl, ⟨_, st_of hc⟩, ?_⟩
    refine walk_w (walk_tup (K := K) (a := c) (xs := (madeBy u r).map V.int)) (fun j H' => Ex H1 H' ∧ H' c = some (.tup ((madeBy u r).map V.int)) ∧ H' D = some (.dT (trues (onceK (metK h u (rs.take i) ++ (metR h u r).take j))))) ⟨ex.trans e4, hc, by rw [List.take_zero, List.append_nil]; exact e4 _ _ hD⟩ (fun j H' _ p => st_of p.2.1) (fun j v H5 H6 hj p yy => ?_) fun H' p => ?_
    · obtain ⟨ex5, hc5, hD5⟩ := p
      obtain ⟨rfl, hv⟩ := yy
      rw [List.getElem?_map] at hv
      obtain ⟨m, hm, rfl⟩ := Option.map_eq_some_iff.mp hv
      refine ⟨rfl, _, rfl, ?_⟩
      refine ev_judged (u := h) (r := r) (ev_var rfl) (p_var rfl mo_rowI ⟨b, rfl, ex5 _ _ hb⟩) rne (by omega) _ (Ex.refl _) _ fun H7 e7 => ⟨show 2 ≤ sizeLine by decide, fun t nt => ?_⟩
      have e8 := e7.trans (Ex.new (o := .tup [V.int m, .int (judgedBy h r)]) nt)
      have hD8 := e8 _ _ hD5
      have short : (trues (onceK (metK h u (rs.take i) ++ (metR h u r).take j))).length < sizeLine := by
        have a1 := once_len (metK h u (rs.take i) ++ (metR h u r).take j)
        have a2 := metK_len (h := h) (u := u) (rs := rs.take i) fun q hq => l4 q (List.mem_of_mem_take hq)
        have a3 : (metR h u r).length ≤ r.length := by unfold metR; rw [List.length_map]; exact madeBy_len
        rw [List.length_append, List.length_take] at a1
        rw [List.length_take] at a2
        show ((onceK _).map _).length < sizeLine
        rw [List.length_map]
        exact sz_lt (by omega)
      have kt : (metR h u r)[j]? = some [.inl m, .inl (judgedBy h r)] := by
        unfold metR
        rw [List.getElem?_map, hm]
        rfl
      refine ⟨_, DPut.t (k := [.inl m, .inl (judgedBy h r)]) (v := .bl true) hD8 upd_same short, ?_, ?_, ?_⟩
      · exact (ex5.trans e8).mut nD
      · rw [upd_ne (fun q => by rw [q, hD5] at hc5; cases hc5)]
        exact e8 _ _ hc5
      · rw [upd_same, put_true]
        congr 3
        rw [List.take_succ, kt, ← List.append_assoc]
        exact (once_snoc _ _).symm
    · obtain ⟨ex5, _, hD5⟩ := p
      refine ⟨ex5, ?_⟩
      rw [hD5, grow, List.take_of_length_le (l := metR h u r) (by unfold metR; rw [List.length_map, List.length_map]; exact Nat.le_refl _)]
  · obtain ⟨ex, hD⟩ := p
    rw [lx, List.take_length] at hD
    exact q (.ref D) H' (ex) ⟨D, rfl, hD⟩
end
end Fm
set_option maxHeartbeats 4000000
/-! forms: fates_by_rows, its two comprehensions. -/
namespace Fm
open PySem PySem.Spec PyProof.Rows L2 Evl Pd Gd Us Chk Lw Dc4
/-- a pair as data -/
def prs : PyData → Int × Int
  | .tuple [.int i, .int j] => (i, j)
  | _ => (0, 0)
/-- small pairs of numbers -/
def PrOk (ds : List PyData) : Prop := ∀ d ∈ ds, ∃ i j, d = .tuple [.int i, .int j] ∧ 0 ≤ i ∧ i ≤ 3 ∧ 0 ≤ j ∧ j ≤ 3
theorem metD_ok {h u : Str} {rs : List (List Int)} (rg : In4 rs) (ne : ∀ r ∈ rs, r ≠ []) : PrOk (metD h u rs) := fun d hd => by
  unfold metD sortD at hd
  obtain ⟨k, hk, rfl⟩ := List.mem_map.mp ((List.mergeSort_perm _ _).mem_iff.mp hd)
  obtain ⟨i, j, rfl, a⟩ := metK_ok rg ne k (once_mem hk)
  exact ⟨i, j, rfl, a⟩
theorem metD_len {h u : Str} {rs : List (List Int)} (l4 : ∀ r ∈ rs, r.length ≤ 4) : (metD h u rs).length ≤ 4 * rs.length := by
  unfold metD sortD
  rw [List.length_mergeSort, List.length_map]
  exact Nat.le_trans (once_len _) (metK_len l4)
def fatesT : List Str := ["kept", "refused", "garbled", "passed"]
/-- what a pair can come to -/
def fateR (k : Str) (d : PyData) : List Str := (numbersBy k (prs d).1).map fun n => fateOf k n (prs d).2
def fatesL (k : Str) (ds : List PyData) : List Str := ds.flatMap (fateR k)
def fatesD (k : Str) (ds : List PyData) : List PyData := (fatesT.filter fun t => decide (t ∈ fatesL k ds)).map PyData.str
/-- a dict of these texts -/
def Txts (ws : List (Key × V)) (L : List Str) : Prop := (∀ t : Str, (valV ws (.inr t)).isSome = decide (t ∈ L)) ∧ ws.length ≤ L.length
theorem txts_nil : Txts [] [] := ⟨fun t => rfl, Nat.le_refl _⟩
theorem putK_len {ws : List (Key × V)} {k : Key} {v : V} : (putK ws k v).length ≤ ws.length + 1 := length_putK ws k v
theorem Txts.put {ws : List (Key × V)} {L : List Str} {t : Str} (h : Txts ws L) : Txts (putK ws (.inr t) (.bl true)) (L ++ [t]) := by
  refine ⟨fun u => ?_, ?_⟩
  · rw [valV_put]
    by_cases c : u = t
    · subst c
      simp
    · rw [if_neg (fun z => c (Sum.inr.inj z)), h.1 u]
      simp [c]
  · have := putK_len (ws := ws) (k := .inr t) (v := .bl true)
    rw [List.length_append, List.length_singleton]
    have := h.2
    omega
theorem numbersBy_len {k : Str} {m : Int} (h0 : 0 ≤ m) (h3 : m ≤ 3) : (numbersBy k m).length ≤ 4 := by
  unfold numbersBy
  split
  · simp
  · split
    · rw [List.length_map, List.length_range]; omega
    · rw [List.length_map, List.length_range]; omega
theorem fatesL_len {k : Str} {ds : List PyData} (ok : PrOk ds) : (fatesL k ds).length ≤ 4 * ds.length := by
  induction ds with
  | nil => exact Nat.zero_le _
  | cons d t ih =>
    have a := ih fun x hx => ok x (List.mem_cons_of_mem _ hx)
    obtain ⟨i, j, rfl, h0, h1, h2, h3⟩ := ok d (List.mem_cons_self ..)
    have b : (fateR k (.tuple [.int i, .int j])).length ≤ 4 := by unfold fateR; rw [List.length_map]; exact numbersBy_len h0 h1
    unfold fatesL at a ⊢
    rw [List.flatMap_cons, List.length_append, List.length_cons]
    omega
section
variable {K : PySem.W.Frag} {σ : L2.St} {H : Hp} {te ty ta tb : TE} {E : XK}
abbrev tFatesD (K : PySem.W.Frag) (E0 : XK) : TE := tDc4 (.dK []) (iList K (tVar 2)) (gTup K 2 (gCons (gName 5) (gCons (gName 6) gNil))) (iList K (tCall (spNumbersBy K) [] E0 (tCons (tVar 3) (tCons (tVar 5) tNil)))) (gName 7) (tCall spFate [] E0 (tCons (tVar 3) (tCons (tVar 7) (tCons (tVar 6) tNil)))) (tC (.bl true)) [5, 6, 7] [7]
theorem p_fatesD {k : Str} {ds : List PyData} {x y a : V} (hd : Dq H a (.list ds)) (ok : PrOk ds) (ld : ds.length ≤ 3000) :
    EvP (tFatesD K E) [some x, some y, some a, some (.str k), none, none, none, none, none] H (fun z H' => ∃ D ws, z = .ref D ∧ H' D = some (.dK ws) ∧ Txts ws (fatesL k ds)) := fun H1 e1 Q q => by
  cases dq_up e1 hd with
  | @lst a xs _ z ha hD =>
    have lx := dqAll_len hD
    refine ⟨.ref a, rfl, a, rfl, ⟨xs, sq_of ha⟩, fun D nD => ?_⟩
    refine walk_w (walk_list (K := K) (a := a) (xs := xs)) (fun i H' => Ex H1 H' ∧ ∃ ws, H' D = some (.dK ws) ∧ Txts ws (fatesL k (ds.take i))) ⟨Ex.new nD, [], upd_same, txts_nil⟩ (fun i H' _ p => sq_of (p.1 _ _ ha)) (fun i v H2 H3 hi p yy => ?_) fun H' p => ?_
    · obtain ⟨ex, ws, hw, tw⟩ := p
      obtain ⟨rfl, hv⟩ := yy
      obtain ⟨d, hd1, hd2⟩ := dqAll_at hD hv
      have dm := List.mem_of_getElem? hd1
      obtain ⟨m, j, rfl, m0, m3, j0, j3⟩ := ok d dm
      cases dq_up ex hd2 with
      | @tup b ys _ hb hy =>
        cases hy with
        | cons h1 hy =>
          cases hy with
          | cons h2 hy =>
            cases hy
            cases h1
            cases h2
            refine Wlk.two_go hb ⟨rfl, ?_⟩
            have grow : fatesL k (ds.take (i + 1)) = fatesL k (ds.take i) ++ fateR k (.tuple [.int m, .int j]) := by
              unfold fatesL
              rw [List.take_succ, hd1, List.flatMap_append]
              show _ ++ List.flatMap _ [PyData.tuple [.int m, .int j]] = _
              rw [List.flatMap_cons, List.flatMap_nil, List.append_nil]
            refine ⟨.str k, rfl, .int m, rfl, rfl, k, m, rfl, m0, by omega, fun p H4 e4 np hp4 => ⟨p, rfl, ⟨_, sq_of hp4⟩, ?_⟩⟩
            refine walk_w (walk_list (K := K) (a := p) (xs := (numbersBy k m).map V.int)) (fun n H' => Ex H1 H' ∧ H' p = some (.lst ((numbersBy k m).map V.int)) ∧ ∃ ws, H' D = some (.dK ws) ∧ Txts ws (fatesL k (ds.take i) ++ (fateR k (.tuple [.int m, .int j])).take n)) ⟨ex.trans e4, hp4, ws, e4 _ _ hw, by rw [List.take_zero, List.append_nil]; exact tw⟩ (fun n H' _ p => sq_of p.2.1) (fun n v H5 H6 hn p5 yy => ?_) fun H' p5 => ?_
            · obtain ⟨ex5, hp5, ws5, hw5, tw5⟩ := p5
              obtain ⟨rfl, hv⟩ := yy
              rw [List.getElem?_map] at hv
              obtain ⟨c, hc, rfl⟩ := Option.map_eq_some_iff.mp hv
              have short : ws5.length < sizeLine := by
                have a1 := tw5.2
                have a2 := fatesL_len (k := k) (ds := ds.take i) fun x hx => ok x (List.mem_of_mem_take hx)
                have a3 : (fateR k (.tuple [.int m, .int j])).length ≤ 4 := by unfold fateR; rw [List.length_map]; exact numbersBy_len m0 m3
                rw [List.length_append, List.length_take] at a1
                rw [List.length_take] at a2
                exact sz_lt (by omega)
              have kt : (fateR k (.tuple [.int m, .int j]))[n]? = some (fateOf k c j) := by
                unfold fateR
                rw [List.getElem?_map, show (prs (.tuple [.int m, .int j])).1 = m from rfl, hc]
                rfl
              refine ⟨rfl, .str k, rfl, .int c, rfl, .int j, rfl, rfl, k, c, j, rfl, fun H7 e7 => ?_⟩
              refine ⟨_, DPut.k (k := .inr (fateOf k c j)) (v := .bl true) (e7 _ _ hw5) short, (ex5.trans e7).mut nD, ?_, _, upd_same, ?_⟩
              · rw [upd_ne (fun q => by rw [q, hw5] at hp5; cases hp5)]
                exact e7 _ _ hp5
              · rw [List.take_succ, kt, ← List.append_assoc]
                exact tw5.put
            · obtain ⟨ex5, _, ws5, hw5, tw5⟩ := p5
              refine ⟨ex5, ws5, hw5, ?_⟩
              rw [grow]
              rwa [List.take_of_length_le (l := fateR k _) (by unfold fateR; rw [List.length_map, List.length_map]; exact Nat.le_refl _)] at tw5
    · obtain ⟨ex, ws, hw, tw⟩ := p
      rw [lx, List.take_length] at tw
      exact q (.ref D) H' ex ⟨D, ws, rfl, hw, tw⟩
end
end Fm
set_option maxHeartbeats 4000000
/-! forms: fates_by_rows, room_by_rows. -/
namespace Fm
open PySem PySem.Spec PyProof.Rows L2 Evl Pd Gd Us Chk Lw Dc4
abbrev nFates : List Str := ["pact", "word", "pairs", "kind", "found", "made", "judged", "number", "fate"]
abbrev nRoom : List Str := ["pact", "word", "made", "judged"]
def spFates (K : PySem.W.Frag) (C CE CP CN : Addr) : Sp := fun vs H Q E => vs.length = 2 ∧ ∃ x s l r o g m u, vs = [x, .str s] ∧ PactV K C CE CP l r x H ∧ NeatP l r ∧ WordIs l r s o g m ∧ UseIs l r s o u ∧ ∀ z H', Ex H H' → Qe (.list (fatesD g.kind (metD g.hold u (rowsTo g m)))) z H' → Q z H'
/-- the least number of a pair -/
def lessOf (d : PyData) : Int := if (prs d).1 < (prs d).2 then (prs d).1 else (prs d).2
def roomOf (ds : List PyData) : Int := ((sortI (ds.map lessOf)).getLast?).getD 0
def spRoom (K : PySem.W.Frag) (C CE CP CN : Addr) : Sp := fun vs H Q E => vs.length = 2 ∧ ∃ x s l r o g m u, vs = [x, .str s] ∧ PactV K C CE CP l r x H ∧ NeatP l r ∧ WordIs l r s o g m ∧ UseIs l r s o u ∧ ∀ H', Ex H H' → Q (.int (roomOf (metD g.hold u (rowsTo g m)))) H'
theorem filt_len (L : List Str) : ∀ n, ((fatesT.take n).filter fun t => decide (t ∈ L)).length ≤ 4 := fun n => by
  have := List.length_filter_le (fun t => decide (t ∈ L)) (fatesT.take n)
  rw [List.length_take] at this
  have : fatesT.length = 4 := rfl
  omega
section
variable {K : PySem.W.Frag} {σ : L2.St} {H : Hp} {te ty ta tb : TE} {E : XK} {p D : Addr}
theorem p_fatesF {ws : List (Key × V)} {L : List Str} {x y a k : V} (hp : ∀ H, SqT K H p (fatesT.map V.str)) (hD : H D = some (.dK ws)) (tw : Txts ws L) :
    EvP (tLc (iTup K (tC (.ref p))) (gName 8) (tB (tDIn (tVar 8) (tVar 4))) (tVar 8) [8]) [some x, some y, some a, some k, some (.ref D), none, none, none, none] H (Qe (.list ((fatesT.filter fun t => decide (t ∈ L)).map PyData.str))) := fun H1 e1 Q q => by
  refine ⟨p, rfl, ⟨_, hp H1⟩, fun l nl => ?_⟩
  refine lc_it (walk_tup (K := K) (a := p) (xs := fatesT.map V.str)) (fun i H' => Ex H1 H' ∧ H' l = some (.lst (((fatesT.take i).filter fun t => decide (t ∈ L)).map V.str))) ⟨Ex.new nl, upd_same⟩ (fun i H' _ _ => hp H') (fun i v H2 H3 hi p2 yy => ?_) fun H' p2 => ?_
  · obtain ⟨ex, hl⟩ := p2
    obtain ⟨rfl, hv⟩ := yy
    rw [List.getElem?_map] at hv
    obtain ⟨t, ht, rfl⟩ := Option.map_eq_some_iff.mp hv
    have stp : (fatesT.take (i + 1)).filter (fun t => decide (t ∈ L)) = (fatesT.take i).filter (fun t => decide (t ∈ L)) ++ [t].filter (fun t => decide (t ∈ L)) := by
      rw [List.take_succ, ht, List.filter_append]
      rfl
    refine ⟨rfl, ?_⟩
    refine et_B (ev_din (k := .inr t) (vs := ws) (ev_var rfl) (ev_var rfl) (.inl ((e1.trans ex) _ _ hD))) _ (Ex.refl _) _ fun H4 e4 => ?_
    have hl4 := e4 _ _ hl
    cases c : (valV ws (.inr t)).isSome with
    | true =>
      simp only [if_true]
      rw [tw.1 t] at c
      have e5 : Ex H1 (upd H4 l (.lst (((fatesT.take i).filter fun t => decide (t ∈ L)).map V.str ++ [V.str t]))) := (ex.trans e4).mut nl
      refine ⟨_, rfl, _, hl4, ?_, e5, ?_⟩
      · rw [List.length_map]
        exact sz_lt (by have := filt_len L i; omega)
      · rw [upd_same, stp, List.map_append]
        simp [c]
    | false =>
      simp only [Bool.false_eq_true, if_false]
      rw [tw.1 t] at c
      refine ⟨ex.trans e4, ?_⟩
      rw [hl4, stp]
      simp [c]
  · obtain ⟨ex, hl⟩ := p2
    rw [List.length_map, List.take_length] at hl
    have dq : ∀ l2 : List Str, DqAll H' (l2.map V.str) (l2.map PyData.str) := fun l2 => by
      induction l2 with
      | nil => exact .nil
      | cons t r ih => exact .cons (.str t) ih
    refine q (.ref l) H' ex (.lst ?_ hl (dq _))
    rw [List.length_map]
    have := filt_len L 4
    rw [show fatesT.take 4 = fatesT from rfl] at this
    omega
theorem p_less {ds : List PyData} {x y : V} {tl : TE} (hd : EvP tl [some x, some y, none, none] H (Qe (.list ds))) (ok : PrOk ds) (ld : ds.length ≤ 3000) :
    EvP (tLc (iList K tl) (gTup K 2 (gCons (gName 2) (gCons (gName 3) gNil))) tYes (tIf (tTest (tOp (rI0 fun i j => .bl (decide (i < j))) (tVar 2) (tVar 3))) (tVar 2) (tVar 3)) [2, 3]) [some x, some y, none, none] H (fun z H' => ∃ l, z = .ref l ∧ H' l = some (.lst ((ds.map lessOf).map V.int))) := fun H1 e1 Q q =>
  hd H1 e1 _ fun z H2 e2 hz => by
  cases hz with
  | @lst a xs _ z ha hD =>
    have lx := dqAll_len hD
    refine ⟨a, rfl, ⟨xs, sq_of ha⟩, fun l nl => ?_⟩
    refine lc_it (walk_list (K := K) (a := a) (xs := xs)) (fun i H' => Ex H2 H' ∧ H' l = some (.lst (((ds.take i).map lessOf).map V.int))) ⟨Ex.new nl, upd_same⟩ (fun i H' _ p => sq_of (p.1 _ _ ha)) (fun i v H3 H4 hi p2 yy => ?_) fun H' p2 => ?_
    · obtain ⟨ex, hl⟩ := p2
      obtain ⟨rfl, hv⟩ := yy
      obtain ⟨d, hd1, hd2⟩ := dqAll_at hD hv
      have dm := List.mem_of_getElem? hd1
      obtain ⟨m, j, rfl, m0, m3, j0, j3⟩ := ok d dm
      have stp : (ds.take (i + 1)).map lessOf = (ds.take i).map lessOf ++ [if m < j then m else j] := by
        rw [List.take_succ, hd1, List.map_append]
        rfl
      cases dq_up ex hd2 with
      | @tup b ys _ hb hy =>
        cases hy with
        | cons h1 hy =>
          cases hy with
          | cons h2 hy =>
            cases hy
            cases h1
            cases h2
            refine Wlk.two_go hb ⟨rfl, ?_⟩
            unfold tYes
            simp only [if_true]
            have lt : ∀ {H5 : Hp}, EvT (tTest (tOp (rI0 fun i j => .bl (decide (i < j))) (tVar 2) (tVar 3))) [some x, some y, some (.int m), some (.int j)] H5 (decide (m < j)) := et_test (ev_op (ev_var rfl) (ev_var rfl) rv_I0)
            have val : Ev (tIf (tTest (tOp (rI0 fun i j => .bl (decide (i < j))) (tVar 2) (tVar 3))) (tVar 2) (tVar 3)) [some x, some y, some (.int m), some (.int j)] H4 (.int (if m < j then m else j)) :=
              ev_if lt (fun c => by rw [if_pos (of_decide_eq_true c)]; exact ev_var rfl) fun c => by rw [if_neg (of_decide_eq_false c)]; exact ev_var rfl
            refine val _ (Ex.refl _) _ fun H5 e5 => ⟨_, e5 _ _ hl, ?_, (ex.trans e5).mut nl, ?_⟩
            · rw [List.length_map, List.length_map, List.length_take]
              exact sz_lt (by omega)
            · rw [upd_same, stp, List.map_append]
              rfl
    · obtain ⟨ex, hl⟩ := p2
      rw [lx, List.take_length] at hl
      exact q (.ref l) H' (e2.trans ex) ⟨l, rfl, hl⟩
end
end Fm
set_option maxHeartbeats 4000000
/-! forms: fates_by_rows, room_by_rows, the defs. -/
namespace Fm
open PySem PySem.Spec PyProof.Rows L2 Evl Pd Gd Us Chk Lw Dc4
/-- what is known of rows that a word has -/
theorem word_rows {l r : Eg} {s o : Str} {g : Stg} {m : Nat} (W : WordIs l r s o g m) : In4 (rowsTo g m) ∧ (∀ r ∈ rowsTo g m, r ≠ []) ∧ (∀ r ∈ rowsTo g m, r.length ≤ 4) ∧ (rowsTo g m).length ≤ 512 := by
  obtain ⟨_, _, _, _, _, m3, s0, s1, s4⟩ := W
  have i3 : m = 0 ∨ m = 1 ∨ m = 2 ∨ m = 3 := by omega
  have rok := rowsTo_ok (g := g) m
  refine ⟨rowsTo_rg s0 s1 s4 m, fun r hr => (rok r hr).1, fun r hr => by have := (rok r hr).2; omega, ?_⟩
  have a := rowsTo_len s0 s1 s4 m
  have : 2 * 4 ^ (m + 1) ≤ 512 := by rcases i3 with rfl | rfl | rfl | rfl <;> decide
  omega
theorem rowsTo_ne {g : Stg} (s0 : 0 ≤ g.start) (s1 : g.start < g.size) : ∀ m, rowsTo g m ≠ []
  | 0 => by
    have keep : ∀ (lets : Int → Int → Bool) (x : Int) (f : List Int) (k : Nat), f ≠ [] → (List.range k).foldl (addV lets x) f ≠ [] := fun lets x f k h => by
      induction k with
      | zero => exact h
      | succ k ih =>
        rw [List.range_succ, List.foldl_append]
        show addV lets x _ k ≠ []
        unfold addV
        split
        · exact fun z => by simp at z
        · exact ih
    have key : ∀ (lets : Int → Int → Bool) (n m : Nat) (f : List Int) (a : Nat), f ≠ [] → bfs lets n m f a ≠ [] := by
      intro lets n m
      induction m with
      | zero => exact fun f a h => h
      | succ m ih =>
        intro f a h
        unfold bfs
        cases f[a]? with
        | none => exact h
        | some x => exact ih _ _ (keep lets x f n h)
    intro z
    have z2 : fromStart g = [] := List.map_eq_nil_iff.mp (show (fromStart g).map (fun v => [v]) = [] from z)
    have := congrArg List.length z2
    unfold fromStart sortI at this
    rw [List.length_mergeSort] at this
    exact key _ _ _ [g.start] 0 (by simp) (List.length_eq_zero_iff.mp this)
  | m + 1 => fun z => rowsTo_ne s0 s1 m (List.append_eq_nil_iff.mp z).1
theorem addK_ne {ks : List (List Key)} {k : List Key} : addK ks k ≠ [] := by
  unfold addK
  split
  · rename_i h
    exact fun z => by rw [z] at h; cases h
  · simp
theorem onceK_ne {l : List (List Key)} (h : l ≠ []) : onceK l ≠ [] := by
  rcases List.eq_nil_or_concat l with rfl | ⟨i, k, rfl⟩
  · exact absurd rfl h
  · rw [List.concat_eq_append, once_snoc]
    exact addK_ne
theorem metD_ne {h u : Str} {rs : List (List Int)} (ne : rs ≠ []) (rne : ∀ r ∈ rs, r ≠ []) : metD h u rs ≠ [] := by
  cases rs with
  | nil => exact absurd rfl ne
  | cons r t =>
    have h1 := rne r (List.mem_cons_self ..)
    have h2 : madeBy u r ≠ [] := by
      cases r with
      | nil => exact absurd rfl h1
      | cons a b => unfold madeBy; split <;> simp
    have h3 : metK h u (r :: t) ≠ [] := fun z => by
      unfold metK at z
      rw [List.flatMap_cons] at z
      have := (List.append_eq_nil_iff.mp z).1
      unfold metR at this
      exact h2 (List.map_eq_nil_iff.mp this)
    intro z
    have := congrArg List.length z
    unfold metD sortD at this
    rw [List.length_mergeSort, List.length_map] at this
    exact onceK_ne h3 (List.length_eq_zero_iff.mp this)
section
variable {P : Program} {w : World} {K : PySem.W.Frag} {mg : Str → Option Value} {base : Heap} {C CE CP CN CB CA CD CBE CS : Addr}
/-- met_by_rows called, for a word -/
theorem p_met {σ : L2.St} {H : Hp} {ta tb : TE} {E : XK} {l r : Eg} {s o u : Str} {g : Stg} {m : Nat} (hx : EvP ta σ H (PactV K C CE CP l r)) (hs : Ev tb σ H (.str s)) (N : NeatP l r) (W : WordIs l r s o g m) (U : UseIs l r s o u) :
    EvP (tCall (spMet K C CE CP CN) [] E (tCons ta (tCons tb tNil))) σ H (Qe (.list (metD g.hold u (rowsTo g m)))) := fun H1 e Q q =>
  hx H1 e _ fun x H2 e2 px => hs H2 (e.trans e2) _ fun H3 e3 => ⟨rfl, x, .str s, l, r, rfl, mo_pact _ _ _ e3 px, N, .inl ⟨s, o, g, m, u, rfl, W, U, fun z H4 e4 pz => q z H4 (e2.trans (e3.trans e4)) pz⟩⟩
end
end Fm
set_option maxHeartbeats 2000000
/-! k30: _law_other, _law_owner, _law_one. -/
namespace Lw
open PySem PySem.Spec PyProof.Rows L2 Evl Pd Gd Us Chk Wlk
def hasO (own : List (Str × Ds)) (s : Str) : Bool := own.any fun p => decide (p.1 = s)
def ownN (l : Es) (s : Str) : Str := if hasO l.own s = true then "left" else "right"
def selS (l r : Es) (n : Str) : Es := if n = "left" then l else r
def othL (s : Str) : Str := if s = "left" then "right" else "left"
structure WordS (l r : Es) (s : Str) (d : Ds) : Prop where
  at_ : ∃ i : Nat, (selS l r (ownN l s)).own[i]? = some (s, d)
  nd : ((selS l r (ownN l s)).own.map (·.1)).Nodup
def spOtherL : Sp := fun vs H Q _ => vs.length = 1 ∧ ∃ s, vs = [.str s] ∧ ∀ H', Ex H H' → Q (.str (othL s)) H'
def spOwnerL (K : PySem.W.Frag) : Sp := fun vs H Q _ => vs.length = 2 ∧ ∃ x s l r, vs = [x, .str s] ∧ PactSp Sr K l r x H ∧ ∀ H', Ex H H' → Q (.str (ownN l s)) H'
def spOneL (K : PySem.W.Frag) : Sp := fun vs H Q _ => vs.length = 2 ∧ ∃ x s l r d, vs = [x, .str s] ∧ PactSp Sr K l r x H ∧ WordS l r s d ∧ ∀ z H', Ex H H' → SetSp Sr d z H' → Q z H'
theorem sit_has {Pq : Ds → PV} {own : List (Str × Ds)} {vs : List (Key × V)} {H : Hp} (h : SIt Pq own vs H) (s : Str) : (valV vs (.inr s)).isSome = hasO own s := by
  have e : ∀ (l : List (Key × V)), (valV l (.inr s)).isSome = (l.map (·.1)).any fun k => decide (k = .inr s) := fun l => by
    rw [List.any_map]
    exact (valV_any (.inr s) l).symm
  rw [e, h.keys, List.any_map]
  unfold hasO
  congr 1
  funext p
  show decide ((Sum.inr p.1 : Key) = .inr s) = decide (p.1 = s)
  rw [decide_eq_decide]
  exact ⟨fun z => Sum.inr.inj z, fun z => by rw [z]⟩
section
variable {K : PySem.W.Frag} {σ : L2.St} {H : Hp} {td : TE} {p a b ds du dr : Addr} {m : Int} {l r : Es} {s : Str} {d : Ds}
theorem ev_side {n : Str} {tn : TE} (h : Ev td σ H (.ref p)) (hn : Ev tn σ H (.str n)) (hp : H p = some (.dK (pactKs a b))) (ok : n = "left" ∨ n = "right") : Ev (tDGet td tn) σ H (.ref (if n = "left" then a else b)) := by
  rcases ok with rfl | rfl
  · exact (p_dget (k := .inr "left") h hn (.inl hp) rfl mo_is rfl).ev
  · exact (p_dget (k := .inr "right") h hn (.inl hp) rfl mo_is rfl).ev
theorem ev_part {key : Str} {v : V} (h : Ev td σ H (.ref p)) (hp : H p = some (.dK (endKs ds du dr m))) (e : valV (endKs ds du dr m) (.inr key) = some v) : Ev (tDGet td (tC (.str key))) σ H v := (p_dget (k := .inr key) h ev_c (.inl hp) e mo_is rfl).ev
theorem own_name (s : Str) : ownN l s = "left" ∨ ownN l s = "right" := by
  unfold ownN
  split
  · exact .inl rfl
  · exact .inr rfl
/-- 'left' if word in p['left']['settings'] else 'right' -/
theorem ev_owner {i j : Nat} {x : V} (h0 : σ[i]? = some (some x)) (h1 : σ[j]? = some (some (.str s))) (hp : PactSp Sr K l r x H) : Ev (tIf (tB (tDIn (tVar j) (tDGet (tDGet (tVar i) (tC (.str "left"))) (tC (.str "settings"))))) (tC (.str "left")) (tC (.str "right"))) σ H (.str (ownN l s)) := by
  obtain ⟨p, a, b, rfl, hpp, ⟨pl, dsl, dul, drl, ea, hl⟩, _⟩ := hp
  obtain ⟨v1, v2, v3, g1, g2, g3, g4, i1, i2, i3⟩ := id hl.ex
  cases ea
  have e1 : Ev (tDGet (tDGet (tVar i) (tC (.str "left"))) (tC (.str "settings"))) σ H (.ref dsl) := ev_part (ev_side (n := "left") (ev_var h0) ev_c hpp (.inl rfl)) g1 rfl
  have t : EvT (tB (tDIn (tVar j) (tDGet (tDGet (tVar i) (tC (.str "left"))) (tC (.str "settings"))))) σ H (hasO l.own s) := et_is (et_B (ev_din (k := .inr s) (vs := v1) (ev_var h1) e1 (.inl g2))) (sit_has i1 s)
  exact ev_if t (fun c => by unfold ownN; rw [if_pos c]; exact ev_c) fun c => by unfold ownN; rw [if_neg (by rw [c]; decide)]; exact ev_c
theorem p_oneL {n : Str} {tn ts : TE} (h : Ev td σ H (.ref p)) (hn : Ev tn σ H (.str n)) (hs : Ev ts σ H (.str s)) (hp : PactSp Sr K l r (.ref p) H) (en : n = ownN l s) (W : WordS l r s d) : EvP (tDGet (tDGet (tDGet td tn) (tC (.str "settings"))) ts) σ H (SetSp Sr d) := by
  obtain ⟨p', a, b, ep, hpp, hl, hr⟩ := hp
  cases ep
  have ok : n = "left" ∨ n = "right" := by rw [en]; exact own_name s
  obtain ⟨⟨k, hk⟩, nd⟩ := W
  rw [← en] at hk nd
  have side : EndSp Sr K (selS l r n) (.ref (if n = "left" then a else b)) H := by
    unfold selS
    rcases ok with rfl | rfl
    · exact hl
    · exact hr
  obtain ⟨pl, dsl, dul, drl, ea, he⟩ := side
  obtain ⟨v1, v2, v3, g1, g2, g3, g4, i1, i2, i3⟩ := id he.ex
  obtain ⟨v, h1, h2⟩ := i1.at_ k s d hk
  have e0 := ev_side h hn hpp ok
  rw [V.ref.inj ea] at e0
  have nv : (v1.map (·.1)).Nodup := by
    rw [i1.keys]
    have : ((selS l r n).own.map fun p => (.inr p.1 : Key)) = ((selS l r n).own.map (·.1)).map Sum.inr := by rw [List.map_map]; rfl
    rw [this]
    exact nodup_inr nd
  exact p_dget (k := .inr s) (ev_part e0 g1 rfl) hs (.inl g2) (valV_at nv h1) mo_setSp h2
end
section
variable {P : Program} {w : World} {K : PySem.W.Frag} {mg : Str → Option Value} {base : Heap}
end
end Lw
set_option maxHeartbeats 4000000
/-! k30: list comprehensions of numbers and rows. -/
namespace Fm
open PySem PySem.Spec PyProof.Rows L2 Evl Pd Gd Us Chk Lw
/-- a list of these ints -/
def IntsL (ns : List Int) : PV := fun x H => ∃ l, x = .ref l ∧ H l = some (.lst (ns.map V.int))
theorem mo_ints {ns : List Int} : Mo (IntsL ns) := fun _ _ _ e ⟨l, h1, h2⟩ => ⟨l, h1, e _ _ h2⟩
def natI (l : List Nat) : List Int := l.map fun (v : Nat) => (v : Int)
section
variable {K : PySem.W.Frag} {σ : L2.St} {H : Hp} {ta : TA} {tt : TT} {tl te : TE} {j : Nat} {vs : List Nat} {n : Nat} {f : Nat → Bool}
theorem filt_step (f : Nat → Bool) (i : Nat) : ((List.range (i + 1)).filter f) = (List.range i).filter f ++ (if f i = true then [i] else []) := by
  rw [List.range_succ, List.filter_append]
  congr 1
  rw [List.filter_cons, List.filter_nil]
theorem filt_le (f : Nat → Bool) (i : Nat) : ((List.range i).filter f).length ≤ i := by
  have := List.length_filter_le f (List.range i)
  rwa [List.length_range] at this
/-- [v for v in range(n) if ..] -/
theorem p_lcInts (h : EvA ta σ H [.int (n : Int)]) (hn : n ≤ 1000) (hw : ∀ x, wipe ((wipe σ vs).set j (some x)) vs = wipe σ vs) (hv : ∀ x, ((wipe σ vs).set j (some x))[j]? = some (some x))
    (ht : ∀ (i : Nat) H1, i < n → Ex H H1 → EvT tt ((wipe σ vs).set j (some (.int (i : Int)))) H1 (f i)) : EvP (tLc (iRng1 ta) (gName j) tt (tVar j) vs) σ H (IntsL (natI ((List.range n).filter f))) := fun H1 e Q q => by
  refine rng_wi h (by omega) H1 e _ fun H2 e2 l nl => ?_
  rw [show ((n : Int)).toNat = n by omega]
  refine lc_it (walk_range (lo := 0) (n := n)) (fun i H' => Ex H2 H' ∧ H' l = some (.lst ((natI ((List.range i).filter f)).map V.int))) ⟨Ex.new nl, upd_same⟩ (fun _ _ _ _ => trivial) (fun i v H3 H4 hi p yy => ?_) fun H' p => q (.ref l) H' (e2.trans p.1) ⟨l, rfl, p.2⟩
  obtain ⟨ex, hl⟩ := p
  obtain ⟨rfl, rfl⟩ := yy
  dsimp only
  rw [Int.zero_add]
  refine ⟨hw _, ht i _ hi (e.trans (e2.trans ex)) _ (Ex.refl _) _ fun H5 e5 => ?_⟩
  have hl5 := e5 _ _ hl
  cases c : f i with
  | true =>
    simp only [if_true]
    refine ⟨_, hv _, _, hl5, ?_, (ex.trans e5).mut nl, ?_⟩
    · unfold natI
      rw [List.length_map, List.length_map]
      have := filt_le f i
      exact sz_lt (by omega)
    · rw [upd_same, filt_step, if_pos c]
      unfold natI
      rw [List.map_append, List.map_append]
      rfl
  | false =>
    simp only [Bool.false_eq_true, if_false]
    refine ⟨ex.trans e5, ?_⟩
    rw [hl5, filt_step, if_neg (by rw [c]; decide), List.append_nil]
/-- [(v,) for v in range(n) if ..] -/
theorem p_lcRow1 (h : EvA ta σ H [.int (n : Int)]) (hn : n ≤ 1000) (hw : ∀ x, wipe ((wipe σ vs).set j (some x)) vs = wipe σ vs) (hv : ∀ x, ((wipe σ vs).set j (some x))[j]? = some (some x))
    (ht : ∀ (i : Nat) H1, i < n → Ex H H1 → EvT tt ((wipe σ vs).set j (some (.int (i : Int)))) H1 (f i)) : EvP (tLc (iRng1 ta) (gName j) tt (tTup (tCons (tVar j) tNil)) vs) σ H (RowsI ((natI ((List.range n).filter f)).map fun v => [v])) := fun H1 e Q q => by
  refine rng_wi h (by omega) H1 e _ fun H2 e2 l nl => ?_
  rw [show ((n : Int)).toNat = n by omega]
  refine lc_it (walk_range (lo := 0) (n := n)) (fun i H' => Ex H2 H' ∧ ∃ ys, H' l = some (.lst ys) ∧ RowsAt H' ys ((natI ((List.range i).filter f)).map fun v => [v])) ⟨Ex.new nl, [], upd_same, trivial⟩ (fun _ _ _ _ => trivial) (fun i v H3 H4 hi p yy => ?_) fun H' p => ?_
  · obtain ⟨ex, ys, hl, al⟩ := p
    obtain ⟨rfl, rfl⟩ := yy
    dsimp only
    rw [Int.zero_add]
    refine ⟨hw _, ht i _ hi (e.trans (e2.trans ex)) _ (Ex.refl _) _ fun H5 e5 => ?_⟩
    have hl5 := e5 _ _ hl
    cases c : f i with
    | true =>
      simp only [if_true]
      refine ⟨_, hv _, show 1 ≤ sizeLine by decide, fun t nt => ?_⟩
      have x6 := e5.trans (Ex.new (o := .tup [V.int (i : Int)]) nt)
      have hl6 := x6 _ _ hl
      have nb : ∀ {z : Addr} {zs : List V}, (upd H5 t (.tup [V.int (i : Int)])) z = some (.tup zs) → (upd (upd H5 t (.tup [V.int (i : Int)])) l (.lst (ys ++ [.ref t]))) z = some (.tup zs) := fun {z zs} h => by
        rw [upd_ne (fun q => by rw [q, hl6] at h; cases h)]
        exact h
      have ll := al.len
      unfold natI at ll
      rw [List.length_map, List.length_map] at ll
      have := filt_le f i
      refine ⟨ys, hl6, sz_lt (by omega), (ex.trans x6).mut nl, ys ++ [.ref t], upd_same, ?_⟩
      rw [filt_step, if_pos c]
      unfold natI at al ⊢
      rw [List.map_append, List.map_append]
      exact ((al.up fun b xs h => x6 _ _ h).up fun z xs h => nb h).app ⟨⟨t, rfl, nb upd_same⟩, trivial⟩
    | false =>
      simp only [Bool.false_eq_true, if_false]
      refine ⟨ex.trans e5, ys, hl5, ?_⟩
      rw [filt_step, if_neg (by rw [c]; decide), List.append_nil]
      exact al.up fun b xs h => e5 _ _ h
  · obtain ⟨ex, ys, hl, al⟩ := p
    exact q (.ref l) H' (e2.trans ex) ⟨l, ys, rfl, hl, al⟩
/-- [row + (v,) for v in xs] -/
theorem p_lcRowP {i : Nat} {r ns : List Int} {y : V} (h : EvP tl σ H (IntsL ns)) (hy : RowI r y H) (hr : ∀ x, ((wipe σ vs).set j (some x))[i]? = some (some y)) (rne : r ≠ []) (rl : r.length ≤ 1000) (ln : ns.length ≤ 1000) (hw : ∀ x, wipe ((wipe σ vs).set j (some x)) vs = wipe σ vs) (hv : ∀ x, ((wipe σ vs).set j (some x))[j]? = some (some x)) :
    EvP (tLc (iList K tl) (gName j) tYes (tOp (rCatA K) (tVar i) (tTup (tCons (tVar j) tNil))) vs) σ H (RowsI (ns.map fun v => r ++ [v])) := fun H1 e Q q => h H1 e _ fun z H2 e2 hz => by
  obtain ⟨a, rfl, ha⟩ := hz
  obtain ⟨b, rfl, hb⟩ := hy
  refine ⟨a, rfl, ⟨_, sq_of ha⟩, fun l nl => ?_⟩
  refine lc_it (walk_list (K := K) (a := a) (xs := ns.map V.int)) (fun i H' => Ex H2 H' ∧ ∃ ys, H' l = some (.lst ys) ∧ RowsAt H' ys ((ns.take i).map fun v => r ++ [v])) ⟨Ex.new nl, [], upd_same, trivial⟩ (fun i H' _ p => sq_of (p.1 _ _ ha)) (fun k v H3 H4 hi p yy => ?_) fun H' p => ?_
  · obtain ⟨ex, ys, hl, al⟩ := p
    obtain ⟨rfl, hv0⟩ := yy
    rw [List.getElem?_map] at hv0
    obtain ⟨c, hc, rfl⟩ := Option.map_eq_some_iff.mp hv0
    have hb3 := (e.trans (e2.trans ex)) _ _ hb
    refine ⟨hw _, ?_⟩
    unfold tYes
    simp only [if_true]
    refine ⟨.ref b, hr _, .int c, hv _, show 1 ≤ sizeLine by decide, fun t nt => ?_⟩
    have x7 := Ex.new (o := .tup [V.int c]) nt
    have hb7 := x7 _ _ hb3
    refine ⟨b, t, r.map V.int, [.int c], rfl, rfl, st_of hb7, st_of upd_same, ?_, fun z => absurd (List.map_eq_nil_iff.mp z) rne, (fun _ z => nomatch z), fun _ _ p np => ?_⟩
    · rw [List.length_map]
      exact sz_of (show r.length + 1 ≤ 100000 by omega)
    · have x8 := x7.trans (Ex.new (o := .tup (r.map V.int ++ [.int c])) np)
      have hl8 := x8 _ _ hl
      have nb : ∀ {z : Addr} {zs : List V}, (upd (upd H4 t (.tup [V.int c])) p (.tup (r.map V.int ++ [.int c]))) z = some (.tup zs) → (upd (upd (upd H4 t (.tup [V.int c])) p (.tup (r.map V.int ++ [.int c]))) l (.lst (ys ++ [.ref p]))) z = some (.tup zs) := fun {z zs} h => by
        rw [upd_ne (fun q => by rw [q, hl8] at h; cases h)]
        exact h
      have ll := al.len
      rw [List.length_map, List.length_take] at ll
      refine ⟨ys, hl8, sz_lt (by omega), (ex.trans x8).mut nl, ys ++ [.ref p], upd_same, ?_⟩
      rw [List.take_succ, hc, List.map_append]
      refine ((al.up fun b xs h => x8 _ _ h).up fun z xs h => nb h).app ⟨⟨p, rfl, nb ?_⟩, trivial⟩
      rw [upd_same, List.map_append]
      rfl
  · obtain ⟨ex, ys, hl, al⟩ := p
    rw [List.length_map, List.take_length] at al
    exact q (.ref l) H' (e2.trans ex) ⟨l, ys, rfl, hl, al⟩
end
end Fm
set_option maxHeartbeats 4000000
/-! k30: what _law_rows tells. -/
namespace Fm
open PySem PySem.Spec PyProof.Rows L2 Evl Pd Gd Us Chk Lw
abbrev nRowsL : List Str := ["p", "word", "one", "owner", "values", "at", "here", "found", "last", "turn", "later", "row", "some", "to", "value"]
def inE (es : List PyData) (a b : Int) : Bool := es.any fun z => PyData.eqv z (.tuple [.int a, .int b])
def lawInner (es : List PyData) (x : Int) (f : List Int) : List Int := f ++ natI ((List.range 4).filter fun (v : Nat) => inE es x v && !(decide ((v : Int) ∈ f)))
def lawBfs (es : List PyData) : Nat → List Int → Nat → List Int
  | 0, f, _ => f
  | m + 1, f, a => match f[a]? with
    | some x => lawBfs es m (lawInner es x f) (a + 1)
    | none => f
def lawVals (d : Ds) : List Int := lawBfs d.es 4 [d.k] 0
def lawFound (d : Ds) : List (List Int) := (natI ((List.range d.n.toNat).filter fun (v : Nat) => decide ((v : Int) ∈ lawVals d))).map fun v => [v]
def lastI (r : List Int) : Int := (r.getLast?).getD 0
def lawStep (es : List PyData) (r : List Int) : List (List Int) := (natI ((List.range 4).filter fun (v : Nat) => inE es (lastI r) v)).map fun v => r ++ [v]
def lawNext (es : List PyData) (rs : List (List Int)) : List (List Int) := rs.flatMap (lawStep es)
def lawLy (d : Ds) : Nat → List (List Int)
  | 0 => lawFound d
  | m + 1 => lawNext d.es (lawLy d m)
def lawTo (d : Ds) : Nat → List (List Int)
  | 0 => lawLy d 0
  | m + 1 => lawTo d m ++ lawLy d (m + 1)
def spRowsL (K : PySem.W.Frag) : Sp := fun vs H Q _ => vs.length = 2 ∧ ∃ x s l r d m, vs = [x, .str s] ∧ PactSp Sr K l r x H ∧ WordS l r s d ∧ GoodD d ∧ (selS l r (ownN l s)).most = ((m : Nat) : Int) ∧ m ≤ 2 ∧ ∀ z H', Ex H H' → RowsI (lawTo d m) z H' → Q z H'
/-! ### bounds -/
def rowD (r : List Int) : PyData := .tuple (r.map PyData.int)
theorem lay_ints : ∀ r : List Int, PyData.canLayAll0 (r.map PyData.int) = true ∧ PyData.depthAll (r.map PyData.int) ≤ 0
  | [] => ⟨rfl, Nat.zero_le _⟩
  | a :: r => by
    obtain ⟨h1, h2⟩ := lay_ints r
    refine ⟨?_, ?_⟩
    · show (PyData.canLay0 (.int a) && PyData.canLayAll0 (r.map PyData.int)) = true
      rw [h1]
      rfl
    · show max (PyData.depth (.int a)) (PyData.depthAll (r.map PyData.int)) ≤ 0
      have : PyData.depth (.int a) = 0 := rfl
      omega
theorem lay_row (r : List Int) : PyData.canLay0 (rowD r) = true ∧ PyData.depth (rowD r) ≤ 1 := by
  obtain ⟨h1, h2⟩ := lay_ints r
  unfold rowD
  simp only [PyData.canLay0, PyData.depth]
  exact ⟨h1, by omega⟩
theorem lay_rowL : ∀ {l : List PyData}, (∀ d ∈ l, ∃ r, d = rowD r) → PyData.canLayAll0 l = true ∧ PyData.depthAll l ≤ 1
  | [], _ => ⟨rfl, Nat.zero_le _⟩
  | d :: l, h => by
    obtain ⟨r, rfl⟩ := h d List.mem_cons_self
    obtain ⟨h1, h2⟩ := lay_rowL (l := l) fun e he => h e (List.mem_cons_of_mem _ he)
    obtain ⟨g1, g2⟩ := lay_row r
    simp only [PyData.canLayAll0, PyData.depthAll]
    exact ⟨by rw [g1, h1]; rfl, by omega⟩
theorem rows_shaped {l : List PyData} (h : ∀ d ∈ l, ∃ r, d = rowD r) : SeqAt.shaped (.list l) = true := by
  obtain ⟨h1, h2⟩ := lay_rowL h
  have h3 : PyData.depth (.list l) ≤ 64 := by
    simp only [PyData.depth]
    omega
  show (PyData.canLay0 (.list l) && decide (PyData.depth (.list l) ≤ 64)) = true
  rw [Bool.and_eq_true]
  exact ⟨by simp only [PyData.canLay0]; exact h1, decide_eq_true h3⟩
theorem row_shaped (r : List Int) : SeqAt.shaped (rowD r) = true := by
  obtain ⟨g1, g2⟩ := lay_row r
  show (PyData.canLay0 (rowD r) && decide (PyData.depth (rowD r) ≤ 64)) = true
  rw [g1, decide_eq_true (by omega)]
  rfl
theorem base_rows : ∀ e ∈ base6, ∃ a b : Int, e = rowD [a, b] ∧ 0 ≤ a ∧ a ≤ 2 ∧ 0 ≤ b ∧ b ≤ 2 := by
  intro e he
  unfold base6 at he
  simp only [List.mem_cons, List.not_mem_nil, or_false] at he
  rcases he with rfl | rfl | rfl | rfl | rfl | rfl <;> exact ⟨_, _, rfl, by decide, by decide, by decide, by decide⟩
theorem es_base {d : Ds} (g : GoodD d) : ∀ e ∈ d.es, e ∈ base6 := fun e he => by
  have h := g.es.subset he
  unfold chBase at h
  split at h
  · exact List.mem_of_mem_take h
  · exact h
theorem es_shaped {d : Ds} (g : GoodD d) : SeqAt.shaped (.list d.es) = true := rows_shaped fun e he => by
  obtain ⟨a, b, rfl, _⟩ := base_rows e (es_base g e he)
  exact ⟨_, rfl⟩
theorem pr_shaped (a b : Int) : SeqAt.shaped (.tuple [.int a, .int b]) = true := row_shaped [a, b]
theorem natI_mem {l : List Nat} {x : Int} (h : x ∈ natI l) : ∃ v ∈ l, x = (v : Int) := by
  obtain ⟨v, hv, rfl⟩ := List.mem_map.mp h
  exact ⟨v, hv, rfl⟩
theorem natI_nodup {l : List Nat} (h : l.Nodup) : (natI l).Nodup := List.pairwise_map.mpr (h.imp fun h z => h (by omega))
theorem ok_inner {es : List PyData} {x : Int} {f : List Int} (h : OkF 4 f) : OkF 4 (lawInner es x f) := by
  refine ⟨List.nodup_append.mpr ⟨h.nd, natI_nodup (List.Nodup.sublist List.filter_sublist List.nodup_range), fun a ha b hb => ?_⟩, fun y hy => ?_⟩
  · obtain ⟨v, hv, rfl⟩ := natI_mem hb
    have c := (List.mem_filter.mp hv).2
    rw [Bool.and_eq_true, Bool.not_eq_true', decide_eq_false_iff_not] at c
    exact fun z => c.2 (z ▸ ha)
  · rcases List.mem_append.mp hy with hy | hy
    · exact h.rg y hy
    · obtain ⟨v, hv, rfl⟩ := natI_mem hy
      have := List.mem_range.mp (List.mem_filter.mp hv).1
      omega
theorem lawBfs_end {es : List PyData} {m : Nat} {f : List Int} {a : Nat} (h : f.length ≤ a) : lawBfs es m f a = f := by
  cases m with
  | zero => rfl
  | succ m =>
    unfold lawBfs
    rw [List.getElem?_eq_none h]
theorem lawStep_ok {es : List PyData} {r : List Int} : ∀ q ∈ lawStep es r, q.length = r.length + 1 ∧ q ≠ [] ∧ ∀ x ∈ q, x ∈ r ∨ (0 ≤ x ∧ x ≤ 3) := fun q hq => by
  obtain ⟨v, hv, rfl⟩ := List.mem_map.mp hq
  obtain ⟨w, hw, rfl⟩ := natI_mem hv
  have := List.mem_range.mp (List.mem_filter.mp hw).1
  refine ⟨by simp, by simp, fun x hx => ?_⟩
  rcases List.mem_append.mp hx with h | h
  · exact .inl h
  · rw [List.mem_singleton.mp h]
    exact .inr (by omega)
theorem lawStep_len {es : List PyData} {r : List Int} : (lawStep es r).length ≤ 4 := by
  unfold lawStep natI
  rw [List.length_map, List.length_map]
  exact filt_le _ 4
theorem lawNext_len {es : List PyData} : ∀ rs : List (List Int), (lawNext es rs).length ≤ 4 * rs.length
  | [] => Nat.zero_le _
  | r :: rs => by
    have a := lawStep_len (es := es) (r := r)
    have b := lawNext_len (es := es) rs
    unfold lawNext at b ⊢
    rw [List.flatMap_cons, List.length_append, List.length_cons]
    omega
theorem lawLy_ok {d : Ds} (g : GoodD d) : ∀ (m : Nat), ∀ r ∈ lawLy d m, r.length = m + 1 ∧ r ≠ [] ∧ ∀ x ∈ r, 0 ≤ x ∧ x ≤ 3
  | 0, r, h => by
    obtain ⟨v, hv, rfl⟩ := List.mem_map.mp h
    obtain ⟨w, hw, rfl⟩ := natI_mem hv
    have := List.mem_range.mp (List.mem_filter.mp hw).1
    have := g.n
    refine ⟨rfl, by simp, fun x hx => ?_⟩
    rw [List.mem_singleton.mp hx]
    omega
  | m + 1, r, h => by
    obtain ⟨q, hq, hr⟩ := List.mem_flatMap.mp h
    have a := lawStep_ok r hr
    have b := lawLy_ok g m q hq
    refine ⟨by omega, a.2.1, fun x hx => ?_⟩
    rcases a.2.2 x hx with h | h
    · exact b.2.2 x h
    · exact h
theorem lawLy_len {d : Ds} (g : GoodD d) : ∀ m : Nat, (lawLy d m).length ≤ 4 ^ (m + 1)
  | 0 => by
    show (lawFound d).length ≤ 4
    unfold lawFound natI
    rw [List.length_map, List.length_map]
    have := filt_le (fun (v : Nat) => decide ((v : Int) ∈ lawVals d)) d.n.toNat
    have := g.n
    omega
  | m + 1 => by
    have a := lawNext_len (es := d.es) (lawLy d m)
    have b := lawLy_len g m
    have e : 4 ^ (m + 1 + 1) = 4 * 4 ^ (m + 1) := by rw [Nat.pow_succ, Nat.mul_comm]
    show (lawNext d.es (lawLy d m)).length ≤ _
    omega
theorem lawTo_len {d : Ds} (g : GoodD d) : ∀ m : Nat, (lawTo d m).length ≤ 2 * 4 ^ (m + 1)
  | 0 => by have := lawLy_len g 0; show (lawLy d 0).length ≤ _; omega
  | m + 1 => by
    have a := lawLy_len g (m + 1)
    have b := lawTo_len g m
    have e : 4 ^ (m + 1 + 1) = 4 * 4 ^ (m + 1) := by rw [Nat.pow_succ, Nat.mul_comm]
    show (lawTo d m ++ lawLy d (m + 1)).length ≤ _
    rw [List.length_append]
    omega
section
variable {K : PySem.W.Frag} {σ : L2.St} {H : Hp} {ta tb : TE} {d : Ds}
theorem p_get {i : Nat} {one : V} {key : Str} {v : V} (h : σ[i]? = some (some one)) (hs : SetSp Sr d one H) (e : ∀ l, valV (drawnK d.so d.n d.k l d.h) (.inr key) = some v) : Ev (tDGet (tVar i) (tC (.str key))) σ H v := by
  obtain ⟨q, l, rfl, hq, _⟩ := hs
  exact (p_dget (k := .inr key) (ev_var h) ev_c (.inl hq) (e l) mo_is rfl).ev
theorem p_chs {i : Nat} {one : V} (h : σ[i]? = some (some one)) (hs : SetSp Sr d one H) : EvP (tDGet (tVar i) (tC (.str "changes"))) σ H (Qe (.list d.es)) := by
  obtain ⟨q, l, rfl, hq, hl⟩ := hs
  exact p_dget (k := .inr "changes") (ev_var h) ev_c (.inl hq) rfl mo_qe hl
/-- (a, b) in one['changes'] -/
theorem et_inE {i : Nat} {one : V} {a b : Int} (h : σ[i]? = some (some one)) (hs : SetSp Sr d one H) (g : GoodD d) (ha : Ev ta σ H (.int a)) (hb : Ev tb σ H (.int b)) :
    EvT (tTest (tOp (rInD K) (tTup (tCons ta (tCons tb tNil))) (tDGet (tVar i) (tC (.str "changes"))))) σ H (inE d.es a b) :=
  et_test (ev_inD (d := .tuple [.int a, .int b]) (ds := d.es) (toDe (q_tup (ds := [.int a, .int b]) (ps_cons mo_qe (ev_qI ha) (ps_cons mo_qe (ev_qI hb) ps_nil)))) (toDe (p_chs h hs)) (pr_shaped a b) (es_shaped g))
end
end Fm
set_option maxHeartbeats 4000000
/-! k30: _law_rows. -/
namespace Fm
open PySem PySem.Spec PyProof.Rows L2 Evl Pd Gd Us Chk Lw
theorem d_asgT {σ : L2.St} {H : Hp} {ta tb : TE} {P1 P2 : PV} {D : Ends} {tz : TS} {i j : Nat} {K : PySem.W.Frag} (m1 : Mo P1) (m2 : Mo P2) (h1 : EvP ta σ H P1) (h2 : EvP tb σ H P2)
    (k : ∀ x y H1, Ex H H1 → P1 x H1 → P2 y H1 → tz D ((σ.set i (some x)).set j (some y)) H1) : tSeq (tAsg (tTup (tCons ta (tCons tb tNil))) (gTup K 2 (gCons (gName i) (gCons (gName j) gNil)))) tz D σ H :=
  h1 H (Ex.refl _) _ fun x H1 e1 p1 => h2 H1 e1 _ fun y H2 e2 p2 => ⟨show 2 ≤ sizeLine by decide, fun p np => Wlk.two_go upd_same (k x y _ ((e1.trans e2).trans (Ex.new np)) (m1 _ _ _ (e2.trans (Ex.new np)) p1) (m2 _ _ _ (Ex.new np) p2))⟩
theorem in_intsP {i : Int} {f : List Int} : inV (.int i) (f.map V.int) = decide (i ∈ f) := by
  have := in_ints (i := i) (f := f)
  revert this
  cases inV (.int i) (f.map V.int) <;> cases decide (i ∈ f) <;> simp
theorem ints_flat (f : List Int) : (f.map V.int).all flatV = true := by
  rw [List.all_map]
  exact List.all_eq_true.mpr fun _ _ => rfl
section
variable {K : PySem.W.Frag} {σ : L2.St} {H : Hp} {ta tb : TE}
theorem p_catInts {as bs : List Int} (h1 : EvP ta σ H (IntsL as)) (h2 : EvP tb σ H (IntsL bs)) (hz : as.length + bs.length ≤ 100000) : EvP (tOp rCat ta tb) σ H (IntsL (as ++ bs)) := fun H1 e Q q =>
  h1 H1 e _ fun x H2 e2 ⟨a, ex, ha⟩ => h2 H2 (e.trans e2) _ fun y H3 e3 ⟨b, ey, hb⟩ =>
    ⟨a, b, as.map V.int, bs.map V.int, ex, ey, e3 _ _ ha, hb, by rw [List.length_map, List.length_map]; exact sz_of hz, fun p hp => q (.ref p) _ (e2.trans (e3.trans (Ex.new hp))) ⟨p, rfl, by rw [upd_same, List.map_append]⟩⟩
theorem p_int1 {i : Int} (h : Ev ta σ H (.int i)) : EvP (tLst (tCons ta tNil)) σ H (IntsL [i]) := fun H1 e Q q => h H1 e _ fun H2 e2 => ⟨show 1 ≤ sizeLine by decide, fun p np => q (.ref p) _ (e2.trans (Ex.new np)) ⟨p, rfl, upd_same⟩⟩
theorem p_rows0 : EvP (tLst tNil) σ H (RowsI []) := fun H1 e Q q => ⟨show 0 ≤ sizeLine by decide, fun p np => q (.ref p) _ (Ex.new np) ⟨p, [], rfl, upd_same, trivial⟩⟩
end
section
variable {P : Program} {w : World} {K : PySem.W.Frag} {mg : Str → Option Value} {base : Heap}
end
end Fm
set_option maxHeartbeats 4000000
/-! k30: loops over rows; _law_pairs. -/
namespace Fm
open PySem PySem.Spec PyProof.Rows L2 Evl Pd Gd Us Chk Lw
/-- tuples and lists stay -/
def KeepT (H H' : Hp) : Prop := (∀ z zs, H z = some (.tup zs) → H' z = some (.tup zs)) ∧ ∀ z zs, H z = some (.lst zs) → H' z = some (.lst zs)
theorem KeepT.refl (H : Hp) : KeepT H H := ⟨fun _ _ h => h, fun _ _ h => h⟩
theorem KeepT.ex {H H1 H2 : Hp} (k : KeepT H H1) (e : Ex H1 H2) : KeepT H H2 := ⟨fun z zs h => e _ _ (k.1 z zs h), fun z zs h => e _ _ (k.2 z zs h)⟩
theorem KeepT.put {H H1 : Hp} {D : Addr} {ks : List (List Key × V)} {o : HO} (k : KeepT H H1) (hD : H1 D = some (.dT ks)) : KeepT H (upd H1 D o) :=
  ⟨fun z zs h => by rw [upd_ne (fun q => by have := k.1 z zs h; rw [q, hD] at this; cases this)]; exact k.1 z zs h, fun z zs h => by rw [upd_ne (fun q => by have := k.2 z zs h; rw [q, hD] at this; cases this)]; exact k.2 z zs h⟩
section
variable {K : PySem.W.Frag} {σ : L2.St} {H : Hp} {tl : TE} {tu tz : TS} {D : Ends} {j : Nat}
theorem q_forRows {rs : List (List Int)} (h : EvP tl σ H (RowsI rs)) (Pv : Hp → Nat → L2.St → Hp → Prop) (h0 : ∀ Hb, Ex H Hb → Pv Hb 0 σ Hb) (hk : ∀ Hb i σ' H', Pv Hb i σ' H' → KeepT Hb H')
    (hs : ∀ Hb i x r σ' H', Ex H Hb → rs[i]? = some r → RowI r x H' → Pv Hb i σ' H' → tu { D with nx := Pv Hb (i + 1), ct := Pv Hb (i + 1), bk := tz D } (σ'.set j (some x)) H') (hd : ∀ Hb σ' H', Ex H Hb → Pv Hb rs.length σ' H' → tz D σ' H') :
    tSeq (tFor (iList K tl) (gName j) tu) tz D σ H := by
  refine h H (Ex.refl H) _ fun v Hb eb ⟨a, xs, ev, ha, al⟩ => ?_
  subst ev
  have lx := al.len
  refine ⟨a, rfl, ⟨xs, sq_of ha⟩, for_it (D := { D with nx := tz D }) (walk_list (K := K) (a := a) (xs := xs)) (Pv Hb) (h0 Hb eb) (fun i σ' H' _ p => sq_of ((hk Hb i σ' H' p).2 _ _ ha)) (fun i x σ' H1 H2 hi p yy => ?_) fun σ' H' p => by rw [lx] at p; exact hd Hb σ' H' eb p⟩
  obtain ⟨rfl, hv⟩ := yy
  obtain ⟨r, hr, b, rfl, hb⟩ := al.at_ hv
  exact hs Hb i _ r σ' _ eb hr ⟨b, rfl, (hk Hb i σ' _ p).1 _ _ hb⟩ p
theorem s_forRow {r : List Int} (h : EvP tl σ H (RowI r)) (Pv : Hp → Nat → L2.St → Hp → Prop) (h0 : ∀ Hb, Ex H Hb → Pv Hb 0 σ Hb) (hk : ∀ Hb i σ' H', Pv Hb i σ' H' → KeepT Hb H')
    (hs : ∀ Hb i c σ' H', Ex H Hb → r[i]? = some c → Pv Hb i σ' H' → tu { D with nx := Pv Hb (i + 1), ct := Pv Hb (i + 1), bk := D.nx } (σ'.set j (some (.int c))) H') (hd : ∀ Hb σ' H', Ex H Hb → Pv Hb r.length σ' H' → D.nx σ' H') :
    tFor (iTup K tl) (gName j) tu D σ H := by
  refine h H (Ex.refl H) _ fun v Hb eb ⟨a, ev, ha⟩ => ?_
  subst ev
  refine ⟨a, rfl, ⟨_, st_of ha⟩, for_it (D := D) (walk_tup (K := K) (a := a) (xs := r.map V.int)) (Pv Hb) (h0 Hb eb) (fun i σ' H' _ p => st_of ((hk Hb i σ' H' p).1 _ _ ha)) (fun i x σ' H1 H2 hi p yy => ?_) fun σ' H' p => by rw [List.length_map] at p; exact hd Hb σ' H' eb p⟩
  obtain ⟨rfl, hv⟩ := yy
  rw [List.getElem?_map] at hv
  obtain ⟨c, hc, rfl⟩ := Option.map_eq_some_iff.mp hv
  exact hs Hb i c σ' _ eb hc p
/-- [int(v) for v in row] -/
theorem p_rowInts {r : List Int} {te : TE} {vs : List Nat} (h : EvP tl σ H (RowI r)) (lr : r.length ≤ 1000) (hw : ∀ x, wipe ((wipe σ vs).set j (some x)) vs = wipe σ vs) (he : ∀ c H1, Ev te ((wipe σ vs).set j (some (.int c))) H1 (.int c)) :
    EvP (tLc (iTup K tl) (gName j) tYes te vs) σ H (IntsL r) := fun H1 e Q q => h H1 e _ fun z H2 e2 hz => by
  obtain ⟨a, rfl, ha⟩ := hz
  refine ⟨a, rfl, ⟨_, st_of ha⟩, fun l nl => ?_⟩
  refine lc_it (walk_tup (K := K) (a := a) (xs := r.map V.int)) (fun i H' => Ex H2 H' ∧ H' l = some (.lst ((r.take i).map V.int))) ⟨Ex.new nl, upd_same⟩ (fun i H' _ p => st_of (p.1 _ _ ha)) (fun k v H3 H4 hi p yy => ?_) fun H' p => ?_
  · obtain ⟨ex, hl⟩ := p
    obtain ⟨rfl, hv0⟩ := yy
    rw [List.getElem?_map] at hv0
    obtain ⟨c, hc, rfl⟩ := Option.map_eq_some_iff.mp hv0
    refine ⟨hw _, ?_⟩
    unfold tYes
    simp only [if_true]
    refine he c _ _ (Ex.refl _) _ fun H5 e5 => ⟨_, e5 _ _ hl, ?_, (ex.trans e5).mut nl, ?_⟩
    · rw [List.length_map, List.length_take]
      exact sz_lt (by omega)
    · rw [upd_same, List.take_succ, hc, List.map_append]
      rfl
  · obtain ⟨ex, hl⟩ := p
    rw [List.length_map, List.take_length] at hl
    exact q (.ref l) H' (e2.trans ex) ⟨l, rfl, hl⟩
theorem p_max {r : List Int} (h : EvP tl σ H (IntsL r)) (ne : r ≠ []) : EvP (tCB (rMax K) (tCons tl tNil)) σ H (fun v _ => ∃ m, v = .int m ∧ m ∈ r ∧ ∀ y ∈ r, y ≤ m) := fun H1 e Q q =>
  h H1 e _ fun z H2 e2 ⟨a, ez, ha⟩ => ⟨a, r, by rw [ez], sq_of ha, List.length_pos_iff.mpr ne, fun m h1 h2 => q _ H2 e2 ⟨m, rfl, h1, h2⟩⟩
end
/-- the last of the sorted ones is the greatest -/
theorem last_max {r : List Int} {m : Int} (h1 : m ∈ r) (h2 : ∀ y ∈ r, y ≤ m) : ((sortI r).getLast?).getD 0 = m := by
  have ne : sortI r ≠ [] := fun z => by
    have := congrArg List.length z
    unfold sortI at this
    rw [List.length_mergeSort, List.length_nil] at this
    rw [List.length_eq_zero_iff.mp this] at h1
    cases h1
  have pm : ∀ x, x ∈ sortI r ↔ x ∈ r := fun x => by unfold sortI; exact (List.mergeSort_perm _ _).mem_iff
  have srt : (sortI r).Pairwise (fun a b => a ≤ b) := by
    unfold sortI
    rw [PySem.W.dataLe_int (fun i : Int => i)]
    exact (List.pairwise_mergeSort (le := fun a b : Int => decide (a ≤ b)) (fun a b c h1 h2 => by simp only [decide_eq_true_eq] at *; omega) (fun a b => by simp only [Bool.or_eq_true, decide_eq_true_eq]; omega) r).imp fun h => of_decide_eq_true h
  rw [List.getLast?_eq_some_getLast ne, Option.getD_some]
  have a : (sortI r).getLast ne ≤ m := h2 _ ((pm _).mp (List.getLast_mem ne))
  have b : m ≤ (sortI r).getLast ne := by
    have hm := (pm m).mpr h1
    rcases List.eq_nil_or_concat (sortI r) with z | ⟨i, l, z⟩
    · exact absurd z ne
    · rw [List.concat_eq_append] at z
      have gl : (sortI r).getLast ne = l := by simp [z]
      rw [gl]
      rw [z] at hm srt
      rcases List.mem_append.mp hm with h | h
      · exact (List.pairwise_append.mp srt).2.2 m h l (by simp)
      · rw [List.mem_singleton.mp h]
        exact Int.le_refl _
  omega
end Fm
set_option maxHeartbeats 4000000
/-! k30: _law_pairs. -/
namespace Fm
open PySem PySem.Spec PyProof.Rows L2 Evl Pd Gd Us Chk Lw
abbrev nPairsL : List Str := ["p", "word", "one", "maker", "use", "found", "row", "most", "judged", "made", "value"]
structure UseS (l r : Es) (s u : Str) : Prop where
  at_ : ∃ i : Nat, (selS l r (othL (ownN l s))).uses[i]? = some (s, u)
  nd : ((selS l r (othL (ownN l s))).uses.map (·.1)).Nodup
/-- all that the law knows of a word -/
structure WordL (l r : Es) (s : Str) (d : Ds) (m : Nat) (u : Str) : Prop where
  word : WordS l r s d
  good : GoodD d
  most : (selS l r (ownN l s)).most = ((m : Nat) : Int)
  m2 : m ≤ 2
  use : UseS l r s u
def spPairsL (K : PySem.W.Frag) : Sp := fun vs H Q _ => vs.length = 2 ∧ ∃ x s l r d m u, vs = [x, .str s] ∧ PactSp Sr K l r x H ∧ WordL l r s d m u ∧ ∀ z H', Ex H H' → DtV (onceK (metK d.h u (lawTo d m))) z H' → Q z H'
section
variable {K : PySem.W.Frag} {σ : L2.St} {H : Hp} {td tn ts : TE} {p : Addr} {l r : Es} {s : Str} {d : Ds} {u : Str} {m : Nat}
theorem ev_useL {n : Str} {x : V} (h : Ev td σ H x) (hn : Ev tn σ H (.str n)) (hs : Ev ts σ H (.str s)) (hp : PactSp Sr K l r x H) (en : n = othL (ownN l s)) (U : UseS l r s u) : Ev (tDGet (tDGet (tDGet td tn) (tC (.str "uses"))) ts) σ H (.str u) := by
  obtain ⟨p, a, b, rfl, hpp, hl, hr⟩ := hp
  have ok : n = "left" ∨ n = "right" := by
    rw [en]
    unfold othL
    split
    · exact .inr rfl
    · exact .inl rfl
  obtain ⟨⟨k, hk⟩, nd⟩ := U
  rw [← en] at hk nd
  have side : EndSp Sr K (selS l r n) (.ref (if n = "left" then a else b)) H := by
    unfold selS
    rcases ok with rfl | rfl
    · exact hl
    · exact hr
  obtain ⟨pl, dsl, dul, drl, ea, he⟩ := side
  obtain ⟨v1, v2, v3, g1, g2, g3, g4, i1, i2, i3⟩ := id he.ex
  have hit : (usesIt (selS l r n).uses)[k]? = some (.inr s, .d (.str u)) := by
    unfold usesIt
    rw [List.getElem?_map, hk]
    rfl
  obtain ⟨v, h1, h2⟩ := i2.at_ k _ _ hit
  have h2 : Dq H v (.str u) := h2
  cases h2
  have e0 := ev_side h hn hpp ok
  rw [V.ref.inj ea] at e0
  have nv : (v2.map (·.1)).Nodup := by
    rw [i2.keys, uses_keys]
    exact nodup_inr nd
  exact (p_dget (k := .inr s) (ev_part e0 g1 rfl) hs (.inl g3) (valV_at nv h1) mo_is rfl).ev
/-- {'sent': row[-1], 'answered': row[0], 'open': most}[one['hold']] -/
theorem ev_judgedL {i j k : Nat} {one y : V} {rw_ : List Int} (g : GoodD d) (h1 : σ[i]? = some (some one)) (hone : SetSp Sr d one H) (h2 : σ[j]? = some (some y)) (hy : RowI rw_ y H) (rne : rw_ ≠ []) (h3 : σ[k]? = some (some (.int (((sortI rw_).getLast?).getD 0)))) :
    EvP (tDGet (tDisp [(tC (.str "sent"), tOp (rIxT K) (tVar j) (tUn (rU fun i => .int (-i)) (tC (.int 1)))), (tC (.str "answered"), tOp (rIxT K) (tVar j) (tC (.int 0))), (tC (.str "open"), tVar k)]) (tDGet (tVar i) (tC (.str "hold")))) σ H (Is (.int (judgedBy d.h rw_))) := fun H1 e1 Q q => by
  obtain ⟨b, rfl, hb⟩ := hy
  have hh : d.h = "sent" ∨ d.h = "answered" ∨ d.h = "open" := by
    have := g.h
    unfold holdsOf at this
    split at this <;> simp only [List.mem_cons, List.not_mem_nil, or_false] at this
    · rcases this with h | h | h
      · exact .inl h
      · exact .inr (.inl h)
      · exact .inr (.inl h)
    · exact this
  have h0 : atI (rw_.map V.int) 0 = some (.int ((rw_[0]?).getD 0)) := by
    cases rw_ with
    | nil => exact absurd rfl rne
    | cons x t => exact Chk.atI_nat (show ((x :: t).map V.int)[0]? = some (.int x) from rfl)
  refine fun p np => ?_
  have ep := Ex.new (o := .dK []) np
  refine (ev_op (ev_var h2) (ev_un ev_c ru_neg) (rv_ixT (K := K) (st_of ((e1.trans ep) _ _ hb)) (at_last rne))) _ (Ex.refl _) _ fun H2 e2 => ?_
  refine (ev_op (ev_var h2) ev_c (rv_ixT (K := K) (st_of ((e1.trans (ep.trans e2)) _ _ hb)) h0)) _ (Ex.refl _) _ fun H3 e3 => ?_
  refine ⟨_, h3, ?_⟩
  have hp3 : H3 p = some (.dK []) := (e2.trans e3) _ _ upd_same
  have ex3 : Ex H1 (upd H3 p (.dK (mergeK [] [(.inr "sent", .int ((rw_.getLast?).getD 0)), (.inr "answered", .int ((rw_[0]?).getD 0)), (.inr "open", .int (((sortI rw_).getLast?).getD 0))]))) := (ep.trans (e2.trans e3)).mut np
  refine ⟨hp3, [(.inr "sent", .int ((rw_.getLast?).getD 0)), (.inr "answered", .int ((rw_[0]?).getD 0)), (.inr "open", .int (((sortI rw_).getLast?).getD 0))], rfl, by show 3 ≤ 15; decide, ?_⟩
  refine p_get h1 (mo_setSp _ _ _ (e1.trans ex3) hone) (fun _ => rfl) _ (Ex.refl _) _ fun H4 e4 => ?_
  have hd := (show (upd H3 p (.dK (mergeK [] [(.inr "sent", .int ((rw_.getLast?).getD 0)), (.inr "answered", .int ((rw_[0]?).getD 0)), (.inr "open", .int (((sortI rw_).getLast?).getD 0))]))) p = _ from upd_same)
  have hd4 := e4 _ _ hd
  have val : valV (mergeK [] [(.inr "sent", V.int ((rw_.getLast?).getD 0)), (.inr "answered", .int ((rw_[0]?).getD 0)), (.inr "open", .int (((sortI rw_).getLast?).getD 0))]) (.inr d.h) = some (.int (judgedBy d.h rw_)) := by
    rcases hh with e | e | e <;> rw [e] <;> rfl
  exact ⟨p, .int (judgedBy d.h rw_), rfl, rd_get (.inl hd4) val, q _ H4 (ex3.trans e4) rfl⟩
end
section
variable {P : Program} {w : World} {K : PySem.W.Frag} {mg : Str → Option Value} {base : Heap}
end
end Fm
set_option maxHeartbeats 4000000
/-! k30: _law_can_be_kept, _law_can_be_bad. -/
namespace Fm
open PySem PySem.Spec PyProof.Rows L2 Evl Pd Gd Us Chk Lw
def canK (k : Str) (a b : Int) : Bool := if k = "size" then true else if k = "table" then decide (a = b) else decide (a > 0) && decide (b > 0)
def canB (k : Str) (a b : Int) : Bool := if k = "table" then !decide (a = b) else decide (a > b)
def spCanK : Sp := fun vs H Q _ => vs.length = 3 ∧ ∃ k a b, vs = [.str k, .int a, .int b] ∧ ∀ H', Ex H H' → Q (.bl (canK k a b)) H'
def spCanB : Sp := fun vs H Q _ => vs.length = 3 ∧ ∃ k a b, vs = [.str k, .int a, .int b] ∧ ∀ H', Ex H H' → Q (.bl (canB k a b)) H'
section
variable {P : Program} {w : World} {K : PySem.W.Frag} {mg : Str → Option Value} {base : Heap}
theorem int_dec {a b : Int} : decide (V.int a = V.int b) = decide (a = b) := by
  rw [decide_eq_decide]
  exact ⟨fun z => V.int.inj z, fun z => by rw [z]⟩
end
end Fm
set_option maxHeartbeats 4000000
/-! k30: _law_fates. -/
namespace Fm
open PySem PySem.Spec PyProof.Rows L2 Evl Pd Gd Us Chk Lw
abbrev nFatesL : List Str := ["p", "word", "kind", "pairs", "bad", "found", "a", "b"]
def badOf (k : Str) : Str := if k = "size" then "refused" else if k = "table" then "garbled" else "passed"
def anyD (f : Int → Int → Bool) (ds : List PyData) : Bool := ds.any fun d => f (prs d).1 (prs d).2
def lawFates (k : Str) (ds : List PyData) : List Str := (if anyD (canK k) ds = true then [("kept" : Str)] else []) ++ (if anyD (canB k) ds = true then [badOf k] else [])
def pairsL (d : Ds) (m : Nat) (u : Str) : List PyData := (onceK (metK d.h u (lawTo d m))).map Chk.pairD
def spFatesL (K : PySem.W.Frag) : Sp := fun vs H Q _ => vs.length = 2 ∧ ∃ x s l r d m u, vs = [x, .str s] ∧ PactSp Sr K l r x H ∧ WordL l r s d m u ∧ ∀ z H', Ex H H' → Qe (.list ((lawFates d.so (pairsL d m u)).map PyData.str)) z H' → Q z H'
/-- a list of ones, as long as .. -/
def Ones (b : Bool) : PV := fun x H => ∃ l n, x = .ref l ∧ H l = some (.lst (List.replicate n (V.int 1))) ∧ (n == 0) = !b
theorem lto_ok {d : Ds} (g : GoodD d) (m : Nat) : ∀ q ∈ lawTo d m, q ≠ [] ∧ q.length ≤ m + 1 := by
  have lly := fun m => lawLy_ok g m
  induction m with
  | zero => exact fun q hq => by have := lly 0 q hq; exact ⟨this.2.1, by omega⟩
  | succ m ih =>
    intro q hq
    rcases List.mem_append.mp hq with h | h
    · have := ih q h; exact ⟨this.1, by omega⟩
    · have := lly (m + 1) q h; exact ⟨this.2.1, by omega⟩
theorem lto_rg {d : Ds} (g : GoodD d) (m : Nat) : In4 (lawTo d m) := by
  have lly := fun m => lawLy_ok g m
  induction m with
  | zero => exact fun q hq x hx => (lly 0 q hq).2.2 x hx
  | succ m ih =>
    intro q hq x hx
    rcases List.mem_append.mp hq with h | h
    · exact ih q h x hx
    · exact (lly (m + 1) q h).2.2 x hx
theorem lto_len {d : Ds} (g : GoodD d) {m : Nat} (m2 : m ≤ 2) : (lawTo d m).length ≤ 128 := by
  have a := lawTo_len g m
  have i2 : m = 0 ∨ m = 1 ∨ m = 2 := by omega
  have : 2 * 4 ^ (m + 1) ≤ 128 := by rcases i2 with rfl | rfl | rfl <;> decide
  omega
theorem pairsL_ok {d : Ds} {u : Str} (g : GoodD d) (m : Nat) : PrOk (pairsL d m u) := fun e he => by
  obtain ⟨k, hk, rfl⟩ := List.mem_map.mp he
  obtain ⟨i, j, rfl, a⟩ := metK_ok (lto_rg g m) (fun r hr => (lto_ok g m r hr).1) k (once_mem hk)
  exact ⟨i, j, rfl, a⟩
theorem pairsL_len {d : Ds} {u : Str} (g : GoodD d) {m : Nat} (m2 : m ≤ 2) : (pairsL d m u).length ≤ 512 := by
  unfold pairsL
  rw [List.length_map]
  have a := once_len (metK d.h u (lawTo d m))
  have b := metK_len (h := d.h) (u := u) (rs := lawTo d m) fun q hq => by have := (lto_ok g m q hq).2; omega
  have c := lto_len g m2
  omega
section
variable {K : PySem.W.Frag} {σ : L2.St} {H : Hp} {ta : TE} {E : XK}
theorem et_noNil {b : Bool} (h : EvP ta σ H (Ones b)) : EvT (tTest (tOp (rNil K) ta (tLst tNil))) σ H b := fun H1 e Q q =>
  h H1 e _ fun x H2 e2 ⟨l, n, ex, hl, hn⟩ => ⟨show 0 ≤ sizeLine by decide, fun p np => ⟨l, p, List.replicate n (V.int 1), ex, rfl, sq_of ((Ex.new np) _ _ hl), sq_of upd_same, fun z hz => by
    rw [List.eq_of_mem_replicate hz]
    exact .inl rfl, _, rfl, by
    have : (!(List.replicate n (V.int 1)).isEmpty) = b := by
      cases n with
      | zero =>
        cases b
        · rfl
        · cases hn
      | succ n =>
        cases b
        · cases hn
        · rfl
    rw [this]
    exact q _ (e2.trans (Ex.new np))⟩⟩
/-- [1 for a, b in pairs if can(kind, a, b)] -/
theorem p_ones {sp : Sp} {f : Int → Int → Bool} {k : Str} {ds : List PyData} {x y pv bd fd : V} (hsp : ∀ a b H2 Q, (∀ H3, Ex H2 H3 → Q (.bl (f a b)) H3) → ∀ E, sp [.str k, .int a, .int b] H2 Q E) (hd : Dq H pv (.list ds)) (ok : PrOk ds) (ld : ds.length ≤ 3000) :
    EvP (tLc (iList K (tVar 3)) (gTup K 2 (gCons (gName 6) (gCons (gName 7) gNil))) (tB (tCall sp [] E (tCons (tVar 2) (tCons (tVar 6) (tCons (tVar 7) tNil))))) (tC (.int 1)) [6, 7]) [some x, some y, some (.str k), some pv, some bd, some fd, none, none] H (Ones (anyD f ds)) := fun H1 e1 Q q => by
  cases dq_up e1 hd with
  | @lst a xs _ z ha hD =>
    have lx := dqAll_len hD
    refine ⟨.ref a, rfl, a, rfl, ⟨xs, sq_of ha⟩, fun l nl => ?_⟩
    refine lc_it (walk_list (K := K) (a := a) (xs := xs)) (fun i H' => Ex H1 H' ∧ ∃ n, H' l = some (.lst (List.replicate n (V.int 1))) ∧ n ≤ i ∧ (n == 0) = !(anyD f (ds.take i))) ⟨Ex.new nl, 0, upd_same, Nat.le_refl _, rfl⟩ (fun i H' _ p => sq_of (p.1 _ _ ha)) (fun i v H3 H4 hi p2 yy => ?_) fun H' p2 => ?_
    · obtain ⟨ex, n, hl, hn, hz⟩ := p2
      obtain ⟨rfl, hv⟩ := yy
      obtain ⟨d, hd1, hd2⟩ := dqAll_at hD hv
      have dm := List.mem_of_getElem? hd1
      obtain ⟨m, j, rfl, m0, m3, j0, j3⟩ := ok d dm
      have stp : anyD f (ds.take (i + 1)) = (anyD f (ds.take i) || f m j) := by
        unfold anyD
        rw [List.take_succ, hd1, List.any_append]
        show (_ || List.any [PyData.tuple [.int m, .int j]] _) = _
        simp [prs]
      cases dq_up ex hd2 with
      | @tup b ys _ hb hy =>
        cases hy with
        | cons h1 hy =>
          cases hy with
          | cons h2 hy =>
            cases hy
            cases h1
            cases h2
            refine Wlk.two_go hb ⟨rfl, ?_⟩
            refine ⟨.str k, rfl, .int m, rfl, .int j, rfl, hsp m j _ _ (fun H5 e5 => ⟨f m j, rfl, ?_⟩) _⟩
            have hl5 := e5 _ _ hl
            cases c : f m j with
            | true =>
              simp only [if_true]
              refine ⟨_, hl5, ?_, (ex.trans e5).mut nl, n + 1, ?_, by omega, by rw [stp, c]; simp⟩
              · rw [List.length_replicate]
                exact sz_lt (by omega)
              · rw [upd_same, List.replicate_succ']
            | false =>
              simp only [Bool.false_eq_true, if_false]
              exact ⟨ex.trans e5, n, hl5, by omega, by rw [stp, c, Bool.or_false]; exact hz⟩
    · obtain ⟨ex, n, hl, hn, hz⟩ := p2
      rw [lx, List.take_length] at hz
      exact q (.ref l) H' ex ⟨l, n, rfl, hl, hz⟩
end
end Fm
set_option maxHeartbeats 4000000
/-! k30: _law_fates, the def. -/
namespace Fm
open PySem PySem.Spec PyProof.Rows L2 Evl Pd Gd Us Chk Lw
section
variable {K : PySem.W.Frag} {σ : L2.St} {H : Hp}
/-- {'size': 'refused', ..}[kind] -/
theorem ev_badOf {i : Nat} {k : Str} (h1 : σ[i]? = some (some (.str k))) (hk : k ∈ sorts) :
    EvP (tDGet (tDisp [(tC (.str "size"), tC (.str "refused")), (tC (.str "table"), tC (.str "garbled")), (tC (.str "room"), tC (.str "passed"))]) (tVar i)) σ H (Is (.str (badOf k))) := fun H1 e1 Q q => by
  refine fun p np => ?_
  have ex : Ex H1 (upd (upd H1 p (.dK [])) p (.dK (mergeK [] [(.inr "size", .str "refused"), (.inr "table", .str "garbled"), (.inr "room", .str "passed")]))) := (Ex.new np).mut np
  refine ⟨upd_same, [(.inr "size", .str "refused"), (.inr "table", .str "garbled"), (.inr "room", .str "passed")], rfl, by show 3 ≤ 15; decide, ?_⟩
  have val : valV (mergeK [] [(.inr "size", V.str "refused"), (.inr "table", .str "garbled"), (.inr "room", .str "passed")]) (.inr k) = some (.str (badOf k)) := by
    unfold sorts at hk
    simp only [List.mem_cons, List.not_mem_nil, or_false] at hk
    rcases hk with e | e | e <;> rw [e] <;> rfl
  exact ⟨_, h1, p, .str (badOf k), rfl, rd_get (k := .inr k) (.inl upd_same) val, q _ _ ex rfl⟩
end
section
variable {P : Program} {w : World} {K : PySem.W.Frag} {mg : Str → Option Value} {base : Heap}
end
end Fm
set_option maxHeartbeats 2000000
/-! k30: _law_opened, _law_made, _law_words. -/
namespace Lw
open PySem PySem.Spec PyProof.Rows L2 Evl Pd Gd Us Chk Wlk LamX LamK LamG
theorem dq_strs {H : Hp} : ∀ ws : List Str, DqAll H (ws.map V.str) (ws.map PyData.str)
  | [] => .nil
  | s :: r => .cons (.str s) (dq_strs r)
def spOpened (K : PySem.W.Frag) : Sp := fun vs H Q _ => vs.length = 3 ∧ ∃ (a : Addr) (ns : List Int) (k m : Int), vs = [.ref a, .int k, .int m] ∧ SqL K H a (ns.map V.int) ∧ 0 ≤ k ∧ k ≤ 100 ∧ (ns ≠ [] → k < ns.length) ∧ 0 ≤ m ∧ m ≤ 1000 ∧ ∀ x H', Ex H H' → PoolV K x H' → Q x H'
section
variable {P : Program} {w : World} {K : PySem.W.Frag} {mg : Str → Option Value} {base : Heap}
end
theorem laidS {ws os : List Str} {sp : Es} (g : GoodE ws os sp) (h : (∀ x ∈ ws, PyData.canLay0 (.str x) = true) ∧ ∀ x ∈ os, PyData.canLay0 (.str x) = true) : Laid (endS sp) := ⟨words_start g h.1, uses_start g h.2⟩
theorem uses_eq {ws os vs : List Str} {l r : Es} (gl : GoodE ws os l) (gr : GoodE os vs r) : usesD (endS l) = Chk.wordsD (endS r) := congrArg PyData.list ((uses_words gl).trans (own_words gr).symm)
theorem neatP {wd : List Str × List Str} {l r : Es} (hw : wd ∈ wordsT) (gl : GoodE wd.1 wd.2 l) (gr : GoodE wd.2 wd.1 r) : NeatP (endS l) (endS r) := by
  have k := words_ok _ hw
  have s := strs_ok _ hw
  refine ⟨neatS gl k.1, neatS gr k.2, laidS gl s, laidS gr s.symm, ?_⟩
  unfold fitW
  rw [uses_eq gl gr, uses_eq gr gl, Bool.and_eq_true]
  exact ⟨SeqAt.eqv_refl _ (SeqAt.canLay_of_shaped (words_start gr s.2)), SeqAt.eqv_refl _ (SeqAt.canLay_of_shaped (words_start gl s.1))⟩
def spMadeP (K : PySem.W.Frag) (C CE CP : Addr) : Sp := fun vs H Q _ => vs.length = 1 ∧ ∃ x l r wd, vs = [x] ∧ PactSp Sr K l r x H ∧ wd ∈ wordsT ∧ GoodE wd.1 wd.2 l ∧ GoodE wd.2 wd.1 r ∧ ∀ v H', Ex H H' → PactV K C CE CP (endS l) (endS r) v H' → Q v H'
section
variable {P : Program} {w : World} {K : PySem.W.Frag} {mg : Str → Option Value} {base : Heap} {C CE CP CN CB CS CD CBE : Addr}
theorem p_madeE {σ : L2.St} {H : Hp} {te : TE} {E : XK} {ws os : List Str} {s : Es} (h : EvP te σ H (EndSp Sr K s)) (g : GoodE ws os s) (k : WordsOk ws os) : EvP (tCall (spMadeE K C CE) [] E (tCons te tNil)) σ H (EndV K C CE (endS s)) :=
  p_call (Ps := [EndSp Sr K s]) (ps_cons mo_endSp h ps_nil) fun xs H6 e ps Q' q' => by
    match xs, ps with
    | [y], ⟨py, _⟩ => exact ⟨rfl, y, s, ws, os, rfl, py, g, k, fun r H7 e7 p => q' r H7 e7 p⟩
end
section
variable {K : PySem.W.Frag} {C CE CP : Addr} {σ : L2.St} {H : Hp} {te td : TE} {E : XK} {l r : Es} {wd : List Str × List Str} {a : Addr} {vs : List (Key × V)} {ws : List Str}
theorem p_listK (h : Ev td σ H (.ref a)) (hd : H a = some (.dK vs)) (hk : vs.map (·.1) = ws.map Sum.inr) (hl : ws.length ≤ 1000) : EvP (tCB rListDK (tCons td tNil)) σ H (Qe (.list (ws.map PyData.str))) := fun H1 e Q q =>
  h H1 e _ fun H2 e2 => ⟨a, vs, rfl, .inl ((e.trans e2) _ _ hd), fun p hp => by
    have ek : (vs.map fun kv => kV kv.1) = ws.map V.str := by
      have : (vs.map fun kv => kV kv.1) = (vs.map (·.1)).map kV := by rw [List.map_map]; rfl
      rw [this, hk, List.map_map]
      rfl
    rw [ek]
    exact q (.ref p) _ (e2.trans (Ex.new hp)) (.lst (by rw [List.length_map]; omega) upd_same (dq_strs ws))⟩
theorem p_madeP (h : EvP te σ H (PactSp Sr K l r)) (hw : wd ∈ wordsT) (gl : GoodE wd.1 wd.2 l) (gr : GoodE wd.2 wd.1 r) : EvP (tCall (spMadeP K C CE CP) [] E (tCons te tNil)) σ H (PactV K C CE CP (endS l) (endS r)) :=
  p_call (Ps := [PactSp Sr K l r]) (ps_cons mo_pactSp h ps_nil) fun xs H6 e ps Q' q' => by
    match xs, ps with
    | [y], ⟨py, _⟩ => exact ⟨rfl, y, l, r, wd, rfl, py, hw, gl, gr, fun v H7 e7 p => q' v H7 e7 p⟩
theorem sit_keys {at_ : AtP} {own : List (Str × Ds)} {vs : List (Key × V)} {H : Hp} (h : SIt (SetSp at_) own vs H) : vs.map (·.1) = (own.map (·.1)).map Sum.inr := by
  rw [h.keys, List.map_map]
  rfl
end
def spWordsL (T : TabT) (K : PySem.W.Frag) : Sp := fun vs H Q _ => vs.length = 1 ∧ ∃ x l r wd, vs = [x] ∧ PactSp Sr K l r x H ∧ wd ∈ wordsT ∧ GoodE wd.1 wd.2 l ∧ GoodE wd.2 wd.1 r ∧ Tabs T H ∧ ∀ z H' (ws : List Str), ExtN H H' → Tabs T H' → (∀ s ∈ ws, s ∈ wd.1 ∨ s ∈ wd.2) → ws.length ≤ 4 → Qe (.list (ws.map PyData.str)) z H' → Q z H'
theorem strs_perm {es : List PyData} {ws : List Str} (h : es.Perm (ws.map PyData.str)) : ∃ vs : List Str, es = vs.map PyData.str ∧ ∀ s ∈ vs, s ∈ ws := by
  have : ∀ (es : List PyData), (∀ e ∈ es, ∃ s ∈ ws, e = .str s) → ∃ vs : List Str, es = vs.map PyData.str ∧ ∀ s ∈ vs, s ∈ ws := by
    intro es
    induction es with
    | nil => exact fun _ => ⟨[], rfl, fun _ h => nomatch h⟩
    | cons e t ih =>
      intro h
      obtain ⟨s, hs, rfl⟩ := h e List.mem_cons_self
      obtain ⟨vs, rfl, hv⟩ := ih fun x hx => h x (List.mem_cons_of_mem _ hx)
      exact ⟨s :: vs, rfl, fun x hx => by
        rcases List.mem_cons.mp hx with rfl | hx
        · exact hs
        · exact hv x hx⟩
  refine this es fun e he => ?_
  obtain ⟨s, hs, rfl⟩ := List.mem_map.mp (h.mem_iff.mp he)
  exact ⟨s, hs, rfl⟩
section
variable {P : Program} {w : World} {K : PySem.W.Frag} {mg : Str → Option Value} {base : Heap} {T : TabT}
end
end Lw
set_option maxHeartbeats 4000000
/-! k30: what the law's own body is made of. -/
namespace L2
open PySem PySem.Spec PyProof.Rows Gd
section
variable {X : Cx} {CX : CXT} {k j : Nat} {sp : Sp} {E : L2.St → XK} {x : Str} {p pos : Pos} {e : Expr} {es : List Expr} {t : TA} {ps : List Str}
/-- a call that may raise, its wish at the slots -/
theorem pe_useGXS (U : Lw.UseGX X.prog X.w X.K X.mg X.base k x ps sp) (hr : Room j X.A) (hk : k ≤ j) (hu : X.A.guards = some []) (hg : Gl X x) (hx : ∀ σ, PassesAt (L2.CX X.prog X.w) X σ (E σ)) (ha : PA X (e :: es) t)
    (hdb : (x == ("__debug__" : Str)) = false := by decide) (he : starEach (e :: es) X.env = (false, eval e X.env) :: starEach es X.env := by rfl) (hpl : (backTo pos (starEach es X.env)).any (·.1) = false := by rfl) :
    PE X (.Call (.Name x p) (e :: es) [] pos) (tCallS sp E t) := by
  obtain ⟨f, fd, hm, hkp, hb, F⟩ := U.ex
  refine ⟨fun pins s σ H Q I h => ?_⟩
  refine wpAny_Call_Name_kw (ld_glob I hg hm ?_ hdb)
  refine PySem.W.callWith_K (h₀ := X.base) I.ok.mod.kin hkp (thn (ha.run pos pins s σ H _ I h) fun us s1 ⟨vs, H1, I1, r, q⟩ => ⟨I1.kIn, ?_⟩) he hpl
  have hl : (us ++ []).length = ps.length := by rw [List.append_nil, ← Vals.length r]; exact F.len _ _ _ _ q
  have b := hb s1 us I1.kIn hl
  rw [List.append_nil] at b
  refine wpAny_call (codeAny_mono (F.run X.A X.stack s1 H1 ⟨us, []⟩ us vs Q (E σ) (hr.mono hk) hu I1.env0 b r q) fun r s' hq => ?_)
  cases r with
  | error e => exact hx σ pins H1 s1 e s' I1 hq
  | ok fl =>
    cases fl with
    | ret u => exact I1.after hq
    | next => exact hq.elim
    | brk => exact hq.elim
    | cont => exact hq.elim
end
end L2
namespace Fm
open PySem PySem.Spec PyProof.Rows L2 Evl Pd Gd Us Chk Lw LamX LamK TryAs
theorem dq_row (H : Hp) {b : Addr} {r : List Int} (h : H b = some (.tup (r.map V.int))) : Dq H (.ref b) (rowD r) := by
  refine .tup h ?_
  have : ∀ r : List Int, DqAll H (r.map V.int) (r.map PyData.int) := fun r => by
    induction r with
    | nil => exact .nil
    | cons i t ih => exact .cons (.int i) ih
  exact this r
theorem rowsI_q {rs : List (List Int)} {x : V} {H : Hp} (h : RowsI rs x H) (lr : rs.length ≤ 100000) : Qe (.list (rs.map rowD)) x H := by
  obtain ⟨a, xs, rfl, ha, al⟩ := h
  have ll := al.len
  refine .lst (by omega) ha ?_
  have : ∀ (xs : List V) (rs : List (List Int)), RowsAt H xs rs → DqAll H xs (rs.map rowD) := by
    intro xs
    induction xs with
    | nil =>
      intro rs h
      cases rs with
      | nil => exact .nil
      | cons _ _ => exact h.elim
    | cons x t ih =>
      intro rs h
      cases rs with
      | nil => exact h.elim
      | cons r rs =>
        obtain ⟨⟨b, rfl, hb⟩, h2⟩ := h
        exact .cons (dq_row H hb) (ih rs h2)
  exact this xs rs al
theorem rowsD_shaped (rs : List (List Int)) : SeqAt.shaped (.list (rs.map rowD)) = true := rows_shaped fun d hd => by
  obtain ⟨r, _, rfl⟩ := List.mem_map.mp hd
  exact ⟨r, rfl⟩
section
variable {K : PySem.W.Frag} {σ : L2.St} {H : Hp} {tl ta tb td te : TE} {tu tz : TS} {D : Ends} {i j : Nat} {vs : List Nat}
/-- (a, b) in pairs -/
theorem et_keyIn {a b : Int} {ks : List (List Key)} (ha : Ev ta σ H (.int a)) (hb : Ev tb σ H (.int b)) (hd : EvP td σ H (DtV ks)) : EvT (tB (tDIn (tTup (tCons ta (tCons tb tNil))) td)) σ H (ks.any fun x => decide (x = [.inl a, .inl b])) := fun H1 e Q q =>
  ha H1 e _ fun H2 e2 => hb H2 (e.trans e2) _ fun H3 e3 => ⟨show 2 ≤ sizeLine by decide, fun p np => hd _ (e.trans (e2.trans (e3.trans (Ex.new np)))) _ fun z H4 e4 ⟨D, ez, hD⟩ => by
    subst ez
    refine ⟨D, valV (trues ks) [.inl a, .inl b], rfl, .inr ⟨trues ks, [.inl a, .inl b], p, .inl hD, rfl, e4 _ _ upd_same, rfl⟩, _, rfl, ?_⟩
    rw [val_true]
    exact q H4 (e2.trans (e3.trans ((Ex.new np).trans e4)))⟩
/-- [(a, b) for b in xs] -/
theorem p_lcPair {a : Int} {ns : List Int} (h : EvP tl σ H (IntsL ns)) (ha : ∀ x, ((wipe σ vs).set j (some x))[i]? = some (some (.int a))) (ln : ns.length ≤ 1000) (hw : ∀ x, wipe ((wipe σ vs).set j (some x)) vs = wipe σ vs) (hv : ∀ x, ((wipe σ vs).set j (some x))[j]? = some (some x)) :
    EvP (tLc (iList K tl) (gName j) tYes (tTup (tCons (tVar i) (tCons (tVar j) tNil))) vs) σ H (RowsI (ns.map fun b => [a, b])) := fun H1 e Q q => h H1 e _ fun z H2 e2 hz => by
  obtain ⟨A, rfl, hA⟩ := hz
  refine ⟨A, rfl, ⟨_, sq_of hA⟩, fun l nl => ?_⟩
  refine lc_it (walk_list (K := K) (a := A) (xs := ns.map V.int)) (fun i H' => Ex H2 H' ∧ ∃ ys, H' l = some (.lst ys) ∧ RowsAt H' ys ((ns.take i).map fun b => [a, b])) ⟨Ex.new nl, [], upd_same, trivial⟩ (fun i H' _ p => sq_of (p.1 _ _ hA)) (fun k v H3 H4 hi p yy => ?_) fun H' p => ?_
  · obtain ⟨ex, ys, hl, al⟩ := p
    obtain ⟨rfl, hv0⟩ := yy
    rw [List.getElem?_map] at hv0
    obtain ⟨c, hc, rfl⟩ := Option.map_eq_some_iff.mp hv0
    refine ⟨hw _, ?_⟩
    unfold tYes
    simp only [if_true]
    refine ⟨.int a, ha _, .int c, hv _, show 2 ≤ sizeLine by decide, fun t nt => ?_⟩
    have x7 := Ex.new (o := .tup [V.int a, .int c]) nt
    have hl8 := x7 _ _ hl
    have nb : ∀ {z : Addr} {zs : List V}, (upd H4 t (.tup [V.int a, .int c])) z = some (.tup zs) → (upd (upd H4 t (.tup [V.int a, .int c])) l (.lst (ys ++ [.ref t]))) z = some (.tup zs) := fun {z zs} h => by
      rw [upd_ne (fun q => by rw [q, hl8] at h; cases h)]
      exact h
    have ll := al.len
    rw [List.length_map, List.length_take] at ll
    refine ⟨ys, hl8, sz_lt (by omega), (ex.trans x7).mut nl, ys ++ [.ref t], upd_same, ?_⟩
    rw [List.take_succ, hc, List.map_append]
    exact ((al.up fun b xs h => x7 _ _ h).up fun z xs h => nb h).app ⟨⟨t, rfl, nb upd_same⟩, trivial⟩
  · obtain ⟨ex, ys, hl, al⟩ := p
    rw [List.length_map, List.take_length] at al
    exact q (.ref l) H' (e2.trans ex) ⟨l, ys, rfl, hl, al⟩
/-- for a, b in pairs -/
theorem q_forPairs {rs : List (List Int)} (h : EvP tl σ H (RowsI rs)) (two : ∀ r ∈ rs, ∃ a b, r = [a, b]) (Pv : Hp → Nat → L2.St → Hp → Prop) (h0 : ∀ Hb, Ex H Hb → Pv Hb 0 σ Hb) (hk : ∀ Hb i σ' H', Pv Hb i σ' H' → KeepT Hb H')
    (hs : ∀ Hb n a b σ' H', Ex H Hb → rs[n]? = some [a, b] → Pv Hb n σ' H' → tu { D with nx := Pv Hb (n + 1), ct := Pv Hb (n + 1), bk := tz D } ((σ'.set i (some (.int a))).set j (some (.int b))) H') (hd : ∀ Hb σ' H', Ex H Hb → Pv Hb rs.length σ' H' → tz D σ' H') :
    tSeq (tFor (iList K tl) (gTup K 2 (gCons (gName i) (gCons (gName j) gNil))) tu) tz D σ H := by
  refine h H (Ex.refl H) _ fun v Hb eb ⟨A, xs, ev, hA, al⟩ => ?_
  subst ev
  have lx := al.len
  refine ⟨A, rfl, ⟨xs, sq_of hA⟩, for_it (D := { D with nx := tz D }) (walk_list (K := K) (a := A) (xs := xs)) (Pv Hb) (h0 Hb eb) (fun i σ' H' _ p => sq_of ((hk Hb i σ' H' p).2 _ _ hA)) (fun n x σ' H1 H2 hi p yy => ?_) fun σ' H' p => by rw [lx] at p; exact hd Hb σ' H' eb p⟩
  obtain ⟨rfl, hv⟩ := yy
  obtain ⟨r, hr, b, rfl, hb⟩ := al.at_ hv
  obtain ⟨x, y, rfl⟩ := two r (List.mem_of_getElem? hr)
  exact Wlk.two_go ((hk Hb n σ' _ p).1 _ _ hb) (hs Hb n x y σ' _ eb hr p)
theorem ev_max2 {a b : Int} (h1 : Ev ta σ H (.int a)) (h2 : Ev tb σ H (.int b)) : Ev (tCB (fun xs H Q => ∃ i j, xs = [V.int i, .int j] ∧ Q (.int (if j > i then j else i)) H) (tCons ta (tCons tb tNil))) σ H (.int (if b > a then b else a)) := fun H1 e Q q =>
  h1 H1 e _ fun H2 e2 => h2 H2 (e.trans e2) _ fun H3 e3 => ⟨a, b, rfl, q H3 (e2.trans e3)⟩
theorem ev_min2 {a b : Int} (h1 : Ev ta σ H (.int a)) (h2 : Ev tb σ H (.int b)) : Ev (tCB (fun xs H Q => ∃ i j, xs = [V.int i, .int j] ∧ Q (.int (if j < i then j else i)) H) (tCons ta (tCons tb tNil))) σ H (.int (if b < a then b else a)) := fun H1 e Q q =>
  h1 H1 e _ fun H2 e2 => h2 H2 (e.trans e2) _ fun H3 e3 => ⟨a, b, rfl, q H3 (e2.trans e3)⟩
end
/-! ### isinstance(e, C), e what the suite holds, with a dict of its own -/
def rIsX30 (K : PySem.W.Frag) (a : Addr) (cls : Value) (d : Option Addr) : List V → Hp → VK → Prop := fun xs H Q => ∃ (D dd : Addr) (fs : List (Str × V)) (c : V) (cv : Value) (b : Bool), xs = [.ref a, c] ∧ cls = .ref D ∧ d = some dd ∧ H dd = some (.xd fs) ∧ ExcC K D ∧ (∀ u, RelV c u → u = cv) ∧ PySem.W.kitOne K (.ref D) cv = some b ∧ Q (.bl b) H
theorem call_isX30 {X : Cx} {a : Addr} {oe : Obj} {cls : Value} {d : Option Addr} {pn : List (Addr × Obj)} (hz : Zc cls d oe) (hf : ∃ vs, oe.data = .fields vs) : CallR (X.suite a ((a, oe) :: pn)) (.builtin "isinstance") (rIsX30 X.K a cls d) := by
  intro pins s σ H xs us Q I r h
  obtain ⟨D, dd, fs, c, cv, b, rfl, ec, ed, hd, T, hcv, k1, q⟩ := h
  subst ec ed
  cases r with
  | cons rx rr =>
    cases rr with
    | cons rt rr =>
      cases rr
      cases rx
      have e2 := hcv _ rt
      subst e2
      obtain ⟨ha, _⟩ := I.pin (a, oe) (List.mem_append_left _ List.mem_cons_self)
      obtain ⟨vs, hv⟩ := hf
      have hx : ObjOk X.prog X.w H s.heap dd (.xd fs) := I.hok dd _ hd
      obtain ⟨mA, hns, _⟩ := hx
      obtain ⟨od, ho, _⟩ := lookIn_ns hns
      have J : PySem.W.InstAt s.heap a oe D (some od) := ⟨ha, hz.1, by unfold PySem.W.notCls; rw [hv] <;> rfl, by rw [hz.2]; exact ho⟩
      exact PySem.W.kia_one (Err.kit_err T) I.kIn ⟨oe, od, J⟩ k1 (fun z => nomatch z) fun tk => ⟨.bl b, H, I.kept (t' := tk) fun _ _ z => z, rfl, q⟩
section
variable {K : PySem.W.Frag} {σ : L2.St} {H : Hp} {te : TE} {tu tz : TS} {D : Ends}
theorem s_forQ {ds : List PyData} {j : Nat} (h : EvP te σ H (Qe (.list ds))) (Pv : L2.St → Hp → Prop) (h0 : ∀ H1, Ex H H1 → Pv σ H1)
    (hs : ∀ H1, Ex H H1 → ∀ d v σ' H', d ∈ ds → Dq H' v d → Pv σ' H' → Ex H1 H' → tu { D with nx := fun σ2 H2 => Pv σ2 H2 ∧ Ex H1 H2, ct := fun σ2 H2 => Pv σ2 H2 ∧ Ex H1 H2, bk := D.nx } (σ'.set j (some v)) H')
    (hd : ∀ σ' H', Pv σ' H' → D.nx σ' H') : tFor (iList K te) (gName j) tu D σ H := by
  unfold tFor iList
  refine h H (Ex.refl _) _ fun v H1 e1 p => ?_
  cases p with
  | @lst a xs _ z ha al =>
    refine ⟨a, rfl, ⟨xs, sq_of ha⟩, for_list (K := K) (xs := xs) (fun _ σ' H' => Pv σ' H' ∧ Ex H1 H') ⟨h0 H1 e1, Ex.refl _⟩ (fun i σ' H' _ p => sq_of (p.2 _ _ ha)) (fun i x σ' H' hx p => ?_) fun σ' H' p => hd σ' H' p.1⟩
    obtain ⟨d, hc, row⟩ := dqAll_at al hx
    exact hs H1 e1 d x σ' H' (List.mem_of_getElem? hc) (dq_up p.2 row) p.1 p.2
theorem q_forQ {ds : List PyData} {j : Nat} (h : EvP te σ H (Qe (.list ds))) (Pv : L2.St → Hp → Prop) (h0 : ∀ H1, Ex H H1 → Pv σ H1)
    (hs : ∀ H1, Ex H H1 → ∀ d v σ' H', d ∈ ds → Dq H' v d → Pv σ' H' → Ex H1 H' → tu { D with nx := fun σ2 H2 => Pv σ2 H2 ∧ Ex H1 H2, ct := fun σ2 H2 => Pv σ2 H2 ∧ Ex H1 H2, bk := tz D } (σ'.set j (some v)) H')
    (hd : ∀ σ' H', Pv σ' H' → tz D σ' H') : tSeq (tFor (iList K te) (gName j) tu) tz D σ H := s_forQ (D := { D with nx := tz D }) h Pv h0 hs hd
end
def reb (d : PyData) : Bool := (d.showable && !d.hasDict) && (decide (d.depth ≤ 40) && (decide (d.shown.length ≤ sizeLine) && (match d with
  | .int i => decide (i.natAbs.log2 < 1920)
  | _ => true)))
theorem reb_ok {d : PyData} (h : reb d = true) : Repable d := by
  unfold reb at h
  simp only [Bool.and_eq_true, decide_eq_true_eq, Bool.not_eq_true'] at h
  obtain ⟨⟨h1, h2⟩, h3, h4, h5⟩ := h
  refine ⟨h1, h2, h3, h4, fun i e => ?_⟩
  subst e
  simpa using h5
end Fm
set_option maxHeartbeats 4000000
/-! k40: rules of texts. -/
namespace N40
open PySem PySem.Spec PyProof.Rows L2 Evl Pd Gd Us Chk Lw
theorem starts_S (t : List Nat) (c : Nat) : Txt.startswith (SX.S t) (SX.S [c]) = decide (t.head? = some c) := by
  unfold Txt.startswith Builtin.Str.subAt
  rw [SX.S_len, SX.S_len]
  cases t with
  | nil => simp
  | cons a r =>
    have : ((SX.S (a :: r)).cps.extract 0 (0 + [c].length)) = #[a] := by simp [SX.S]
    rw [this, Bool.eq_iff_iff]
    simp
theorem cut_from (t : List Nat) (n : Nat) : cutS (SX.S t) (some (n : Int)) none = SX.S (t.drop n) := by
  unfold cutS HT.sIx
  show (⟨(List.take ((SX.S t).length - if (n : Int) < 0 then ((n : Int) + ((SX.S t).length : Nat)).toNat else min (n : Int).toNat (SX.S t).length) (List.drop (if (n : Int) < 0 then ((n : Int) + ((SX.S t).length : Nat)).toNat else min (n : Int).toNat (SX.S t).length) t)).toArray⟩ : Str) = SX.S (t.drop n)
  rw [if_neg (by omega), SX.S_len]
  show SX.S _ = SX.S _
  congr 1
  rw [show (n : Int).toNat = n by omega]
  rcases Nat.le_total n t.length with h | h
  · rw [Nat.min_eq_left h, List.take_of_length_le (by rw [List.length_drop]; exact Nat.le_refl _)]
  · rw [Nat.min_eq_right h, List.drop_eq_nil_of_le h, List.drop_eq_nil_of_le (Nat.le_refl _)]
    simp
theorem cut_to (t : List Nat) (n : Nat) : cutS (SX.S t) none (some (n : Int)) = SX.S (t.take n) := by
  unfold cutS HT.sIx
  show (⟨(List.take ((if (n : Int) < 0 then ((n : Int) + ((SX.S t).length : Nat)).toNat else min (n : Int).toNat (SX.S t).length) - 0) (List.drop 0 t)).toArray⟩ : Str) = SX.S (t.take n)
  rw [if_neg (by omega), SX.S_len]
  show SX.S _ = SX.S _
  congr 1
  rw [show (n : Int).toNat = n by omega, List.drop_zero, Nat.sub_zero]
  rcases Nat.le_total n t.length with h | h
  · rw [Nat.min_eq_left h]
  · rw [Nat.min_eq_right h, List.take_of_length_le h, List.take_of_length_le (Nat.le_refl _)]
section
variable {X : Cx}
theorem mt_lstripC : MtR X "str.lstrip" fun x xs H Q => ∃ a b, x = .str a ∧ xs = [.str b] ∧ a.length ≤ sizeLine ∧ Q (.str (Txt.lstripChars a b)) H := by
  intro pins s σ H x xs v us Q I rx rs h
  obtain ⟨a, b, rfl, rfl, hl, q⟩ := h
  obtain ⟨t, rfl⟩ := rx
  obtain ⟨u, rfl, tk, rfl⟩ := vals1 rs
  exact PySem.SC.lstripChars (fun t' k => ⟨.str _, H, I.tok k, ⟨t', rfl⟩, q⟩) hl
theorem mt_rstripC : MtR X "str.rstrip" fun x xs H Q => ∃ a b, x = .str a ∧ xs = [.str b] ∧ a.length ≤ sizeLine ∧ Q (.str (Txt.rstripChars a b)) H := by
  intro pins s σ H x xs v us Q I rx rs h
  obtain ⟨a, b, rfl, rfl, hl, q⟩ := h
  obtain ⟨t, rfl⟩ := rx
  obtain ⟨u, rfl, tk, rfl⟩ := vals1 rs
  exact PySem.SC.rstripChars (fun t' k => ⟨.str _, H, I.tok k, ⟨t', rfl⟩, q⟩) hl
end
theorem tw_len {p : Nat → Bool} (t : List Nat) : t.drop (t.takeWhile p).length = t.dropWhile p := by
  induction t with
  | nil => rfl
  | cons a r ih =>
    cases h : p a with
    | true => simp [List.takeWhile_cons, List.dropWhile_cons, h, ih]
    | false => simp [List.takeWhile_cons, List.dropWhile_cons, h]
theorem lstrip_S (t cs : List Nat) : Txt.lstripChars (SX.S t) (SX.S cs) = SX.S (t.dropWhile fun x => (SX.S cs).cps.contains x) := by
  unfold Txt.lstripChars
  rw [stripBy_eq]
  refine TL.ext_tl ?_
  rw [TL.tl_strSub]
  show List.take ((SX.S t).length - (t.takeWhile (SX.S cs).cps.contains).length) (t.drop (t.takeWhile (SX.S cs).cps.contains).length) = t.dropWhile _
  rw [tw_len, SX.S_len, List.take_of_length_le]
  have := congrArg List.length (tw_len (p := (SX.S cs).cps.contains) t)
  rw [List.length_drop] at this
  omega
theorem rstrip_S (t cs : List Nat) : Txt.rstripChars (SX.S t) (SX.S cs) = SX.S ((t.reverse.dropWhile fun x => (SX.S cs).cps.contains x).reverse) := by
  unfold Txt.rstripChars
  rw [stripBy_eq]
  refine TL.ext_tl ?_
  rw [TL.tl_strSub]
  show List.take ((SX.S t).length - (t.reverse.takeWhile (SX.S cs).cps.contains).length - 0) (t.drop 0) = (t.reverse.dropWhile _).reverse
  rw [← tw_len, SX.S_len, List.drop_zero, Nat.sub_zero, List.drop_reverse, List.reverse_reverse]
end N40
set_option maxHeartbeats 4000000
/-! k40: is_integer_text. -/
namespace N40
open PySem PySem.Spec PyProof.Rows L2 Evl Pd Gd Us Chk Lw Wlk
abbrev sIsIntT : Stmt := Tp.s_is_integer_text
abbrev nIsIntT : List Str := ["text", "digits", "sign"]
theorem scIsIntT : FnScope nIsIntT ["text"] (defScope sIsIntT) := ⟨rfl, rfl, rfl, by decide +kernel, rfl, by decide +kernel, by decide +kernel⟩
def digitsS : Str := "0123456789"
def lettersS : Str := "abcdefghijklmnopqrstuvwxyz"
theorem dig_in (c : Nat) : decide (c ∈ digitsS.cps.toList) = isDig c := by
  have e : digitsS.cps.toList = [48, 49, 50, 51, 52, 53, 54, 55, 56, 57] := by decide +kernel
  rw [e, Bool.eq_iff_iff, decide_eq_true_eq]
  unfold isDig
  simp only [List.mem_cons, List.not_mem_nil, or_false, Bool.and_eq_true, decide_eq_true_eq]
  omega
theorem let_in (c : Nat) : decide (c ∈ lettersS.cps.toList) = isLet c := by
  have e : lettersS.cps.toList = (List.range 26).map (· + 97) := by decide +kernel
  rw [e, Bool.eq_iff_iff, decide_eq_true_eq]
  unfold isLet
  simp only [List.mem_map, List.mem_range, Bool.and_eq_true, decide_eq_true_eq]
  constructor
  · rintro ⟨k, hk, rfl⟩; omega
  · intro h; exact ⟨c - 97, by omega, by omega⟩
abbrev inSign : R2 := fun x y H Q => ∃ (c : Nat) (z : Str), x = .str ⟨#[c]⟩ ∧ y = .str z ∧ Q (.bl (decide (c ∈ z.cps.toList))) H
section
variable {K : PySem.W.Frag} {σ : L2.St} {H : Hp} {te : TE}
/-- all([sign in L for sign in z]) -/
theorem ev_allIn {t : List Nat} {L : Str} {j : Nat} {vs : List Nat} (h : Ev te σ H (.str (SX.S t))) (ln : t.length ≤ 40000) (hw : ∀ x, wipe ((wipe σ vs).set j (some x)) vs = wipe σ vs) (hv : ∀ x, ((wipe σ vs).set j (some x))[j]? = some (some x)) :
    Ev (tCB (rAll K) (tCons (tLc (iStr te) (gName j) tYes (tOp inSign (tVar j) (tC (.str L))) vs) tNil)) σ H (.bl (t.all fun c => decide (c ∈ L.cps.toList))) := by
  have e : (t.all fun c => decide (c ∈ L.cps.toList)) = (((List.range (SX.S t).cps.size).map fun i => ((SX.S t).cps[i]?).elim false fun c => decide (c ∈ L.cps.toList)).all id) := by
    have gen : ∀ (t : List Nat), ((List.range t.length).map fun i => (t[i]?).elim false fun c => decide (c ∈ L.cps.toList)) = t.map fun c => decide (c ∈ L.cps.toList) := fun t => by
      refine List.ext_getElem (by simp) fun i h1 h2 => ?_
      simp only [List.length_map, List.length_range] at h1
      simp [List.getElem?_eq_getElem h1]
    have g := gen t
    have s1 : (SX.S t).cps.size = t.length := by simp [SX.S]
    have s2 : ∀ i : Nat, (SX.S t).cps[i]? = t[i]? := fun i => by simp [SX.S]
    simp only [s1, s2]
    rw [g, List.all_map]
    rfl
  rw [e]
  refine ev_all fun H2 e2 Q' q' => ?_
  refine el_lcW (wi := iStr te) (g := gName j) (vs := vs) (t := tYes) (te := tOp inSign (tVar j) (tC (.str L))) (σ := σ) (H := H) (fun _ => true) (fun i => V.bl (((SX.S t).cps[i]?).elim false fun c => decide (c ∈ L.cps.toList))) (walk_str (z := SX.S t)) (by simp [SX.S]; exact ln) ?wi (fun _ _ => trivial) ?step H2 e2 Q' ?fin
  case wi => exact fun H3 e3 R r => h H3 e3 _ fun H4 e4 => ⟨_, rfl, r H4 e4⟩
  case fin => intro p H3 h1 h2 h3; exact q' p H3 h1 h2 (by rw [h3, given_map, List.map_map]; rfl)
  case step =>
    rintro i y H3 H4 hi e3 ⟨rfl, c, hc, rfl⟩
    refine ⟨Ex.refl _, _, fun k hk => hk, hw _, fun H5 _ Q5 q5 => q5 H5 (Ex.refl _), fun _ => ?_⟩
    rw [hc]
    exact ev_op (ev_var (hv _)) ev_c fun H5 e5 Q5 q5 => ⟨c, L, rfl, rfl, q5 H5 (Ex.refl _)⟩
theorem ev_lenS {t : List Nat} (h : Ev te σ H (.str (SX.S t))) (ln : t.length ≤ 40000) : Ev (tCB (fun xs H Q => ∃ z : Str, xs = [.str z] ∧ z.length ≤ sizeLine ∧ Q (.int z.length) H) (tCons te tNil)) σ H (.int (t.length : Int)) := fun H1 e Q q =>
  h H1 e _ fun H2 e2 => ⟨SX.S t, rfl, by rw [SX.S_len]; exact sz_of (by omega), by rw [SX.S_len]; exact q H2 e2⟩
/-- text[0] -/
theorem ev_item {a : Nat} {r : List Nat} (h : Ev te σ H (.str (SX.S (a :: r)))) : Ev (tOp (fun x y H Q => ∃ (z : Str) (i : Int) (c : Nat), x = .str z ∧ y = .int i ∧ 0 ≤ i ∧ i < 2 ^ 63 ∧ i < (z.length : Int) ∧ z.cps[i.toNat]? = some c ∧ Q (.str ⟨#[c]⟩) H) te (tC (.int 0))) σ H (.str (SX.S [a])) := fun H1 e Q q =>
  h H1 e _ fun H2 e2 => ⟨SX.S (a :: r), 0, a, rfl, rfl, by decide, by decide, by rw [SX.S_len]; simp, by simp [SX.S], q H2 e2⟩
/-- text[n:] -/
theorem ev_from {t : List Nat} {n : Nat} {tn : TE} (h : Ev te σ H (.str (SX.S t))) (hn : Ev tn σ H (.int (n : Int))) (ln : t.length ≤ 40000) : Ev (tSl rSlS te (tPart tn) tNoPart) σ H (.str (SX.S (t.drop n))) := fun H1 e Q q =>
  h H1 e _ fun H2 e2 => hn H2 (e.trans e2) _ fun H3 e3 => ⟨(n : Int), rfl, SX.S t, rfl, by rw [SX.S_len]; exact sz_of (by omega), by rw [cut_from]; exact q H3 (e2.trans e3)⟩
/-- text[:n] -/
theorem ev_upto {t : List Nat} {n : Nat} {tn : TE} (h : Ev te σ H (.str (SX.S t))) (hn : Ev tn σ H (.int (n : Int))) (ln : t.length ≤ 40000) : Ev (tSl rSlS te tNoPart (tPart tn)) σ H (.str (SX.S (t.take n))) := fun H1 e Q q =>
  h H1 e _ fun H2 e2 => hn H2 (e.trans e2) _ fun H3 e3 => ⟨(n : Int), rfl, SX.S t, rfl, by rw [SX.S_len]; exact sz_of (by omega), by rw [cut_to]; exact q H3 (e2.trans e3)⟩
/-- text.startswith(c) -/
theorem ev_starts {t : List Nat} {c : Nat} {tc : TE} (h : Ev te σ H (.str (SX.S t))) (h2 : Ev tc σ H (.str (SX.S [c]))) : Ev (tM1 (fun x xs H Q => ∃ a b, x = .str a ∧ xs = [.str b] ∧ Q (.bl (Txt.startswith a b)) H) te tc) σ H (.bl (decide (t.head? = some c))) := fun H1 e Q q =>
  h H1 e _ fun H2 e2 => ⟨⟨_, rfl⟩, h2 H2 (e.trans e2) _ fun H3 e3 => ⟨_, _, rfl, rfl, by rw [starts_S]; exact q H3 (e2.trans e3)⟩⟩
end
theorem s_dec (a b : List Nat) : decide (V.str (SX.S a) = V.str (SX.S b)) = decide (a = b) := by
  rw [decide_eq_decide]
  exact ⟨fun z => SX.S_inj (V.str.inj z), fun z => by rw [z]⟩
def spIsIntT : Sp := fun vs H Q _ => vs.length = 1 ∧ ∃ t : List Nat, vs = [.str (SX.S t)] ∧ t.length ≤ 30000 ∧ ∀ H', Ex H H' → Q (.bl (isInt t)) H'
section
variable {P : Program} {w : World} {K : PySem.W.Frag} {mg : Str → Option Value} {base : Heap}
theorem ok_isIntT (D : Dn K mg "is_integer_text" sIsIntT) (BL : mg "len" = none) (BA : mg "all" = none) (GM : IntG mg "MOST_DIGITS" 40) (GD : StG mg "DIGITS" digitsS) : Use P w K mg base 1 "is_integer_text" ["text"] spIsIntT := by
  refine use_of D scIsIntT (fun f fd F => F.binds (ps := ["text"]) fun _ _ _ _ _ _ us hl => match us, hl with | [_], _ => rfl) (fun vs H Q E h => h.1) (fun f cdv A outer s H vs Q E hr h => ?_)
  obtain ⟨_, t, rfl, ln, q⟩ := h
  obtain ⟨uM, mM, rM⟩ := GM
  obtain ⟨uD, mD, rD⟩ := GD
  have nd := scIsIntT.nd
  refine ⟨_, pss_cons (ps_set (i := 1) nd rfl (Or.inl rfl) (pe_ifExp (pt_val (pe_m1 PySem.F.slot_str_startswith (by rfl) mt_startswith (pv 0) pe_str)) (pe_slice (r := rSlS) sl_str (pv 0) (po_some pe_int) po_none) (pv 0)))
    (pss_cons (ps_if (PW.pt (pw_or (pt_not (pt_chain op_le op_le pe_int (pe_callB call_len_str (by rfl) BL PySem.boot_len (pa_cons (pv 1) pa_nil)) (pe_glob (by rfl) mM rM))) (pw_or1 (pt_not (pt_val (pe_callB (cr_all rfl) (by rfl) BA (by decide +kernel) (pa_cons (pe_lc (own := [("sign", 2)]) (g := gName 2) (tt := tYes) rfl nd (pi_str (pv 1)) (blkOk_by (N := nIsIntT) (sc := defScope sIsIntT) (by decide +kernel))
      (fun _ _ _ _ _ => pg_name (i := 2) nd rfl (Or.inl rfl)) (fun _ _ _ _ _ => pts_nil) (fun _ _ _ _ _ => pe_cmpR op_in_sign (pv 2) (pe_glob (by rfl) mD rD) (by rfl))) pa_nil))))))) (pss_one (ps_ret pe_bl)) pss_nil)
    (pss_one (ps_ret (pe_or (pe_cmpR op_ne (pe_item_str (pv 1) pe_int (fun _ _ => rfl)) pe_str (nomark _)) (pe_one (pe_cmpR op_eq (pv 0) pe_str (nomark _))))))), ?_⟩
  refine d_asg (P := Is (.str (SX.S (digsOf t)))) (.of (ev_if (b := decide (t.head? = some 45)) (et_B (ev_starts (ev_var rfl) (c := 45) ev_c)) (fun c => ?_) fun c => ?_) mo_is rfl) fun v H1 e1 ev => ?_
  · rw [show digsOf t = t.drop 1 from if_pos (of_decide_eq_true c)]
    exact ev_from (n := 1) (ev_var rfl) ev_c (by omega)
  · rw [show digsOf t = t from if_neg (of_decide_eq_false c)]
    exact ev_var rfl
  cases ev
  have dl : (digsOf t).length ≤ t.length := by unfold digsOf; split <;> simp
  have al : ((digsOf t).all fun c => decide (c ∈ digitsS.cps.toList)) = (digsOf t).all isDig := by congr 1; funext c; exact dig_in c
  refine q_when (b := !(decide ((1 : Int) ≤ ((digsOf t).length : Int)) && decide (((digsOf t).length : Int) ≤ 40)) || !((digsOf t).all isDig)) (et_or (et_not (et_test (ev_chain ev_c (ev_lenS (ev_var rfl) (by omega)) ev_c))) fun _ => et_not (et_B (ev_is (ev_allIn (j := 2) (vs := [2]) (L := digitsS) (ev_var rfl) (by omega) (fun _ => rfl) (fun _ => rfl)) (congrArg V.bl al)))) (fun c H2 e2 => ?_) fun c H2 e2 => ?_
  · have : isInt t = false := by
      unfold isInt
      simp only [Bool.or_eq_true, Bool.not_eq_true', Bool.and_eq_false_iff, decide_eq_false_iff_not] at c
      rw [Bool.eq_false_iff]
      intro z
      simp only [Bool.and_eq_true, decide_eq_true_eq] at z
      obtain ⟨z1, z2, z3, _⟩ := z
      rcases c with (c | c) | c
      · exact c (by omega)
      · exact c (by omega)
      · rw [z3] at c; cases c
    rw [this] at q
    exact s_ret ev_c fun H3 e3 => q H3 (e1.trans (e2.trans e3))
  · simp only [Bool.or_eq_false_iff, Bool.not_eq_false', Bool.and_eq_true, decide_eq_true_eq] at c
    obtain ⟨⟨c1, c2⟩, c3⟩ := c
    obtain ⟨a, r, ed⟩ : ∃ a r, digsOf t = a :: r := by
      cases h : digsOf t with
      | nil => rw [h] at c1; simp at c1
      | cons a r => exact ⟨a, r, rfl⟩
    have : isInt t = (!decide (a = 48) || decide (t = [48])) := by
      unfold isInt
      rw [c3, decide_eq_true (show 1 ≤ (digsOf t).length by omega), decide_eq_true (show (digsOf t).length ≤ 40 by omega)]
      rw [ed]
      simp
    rw [this] at q
    refine s_ret (ev_orV (a := !decide (a = 48)) (b := decide (t = [48])) (ev_is (ev_op (ev_item (a := a) (r := r) (by rw [ed]; exact ev_var rfl)) ev_c (rv_ne rfl)) ?_) fun _ => ev_is (ev_op (ev_var rfl) ev_c (rv_eq rfl)) ?_) fun H3 e3 => q H3 (e1.trans (e2.trans e3))
    · rw [show (V.str ("0" : Str)) = V.str (SX.S [48]) from rfl, s_dec]
      simp
    · rw [show (V.str ("0" : Str)) = V.str (SX.S [48]) from rfl, s_dec]
end
end N40
set_option maxHeartbeats 4000000
/-! k40: is_plain_text, plain_value. -/
namespace N40
open PySem PySem.Spec PyProof.Rows L2 Evl Pd Gd Us Chk Lw Wlk
abbrev sIsPlainT : Stmt := Tp.s_is_plain_text
abbrev sPlainV : Stmt := Tp.s_plain_value
theorem scIsPlainT : FnScope ["text", "sign"] ["text"] (defScope sIsPlainT) := ⟨rfl, rfl, rfl, by decide +kernel, rfl, by decide +kernel, by decide +kernel⟩
theorem scPlainV : FnScope ["text"] ["text"] (defScope sPlainV) := ⟨rfl, rfl, rfl, by decide +kernel, rfl, by decide +kernel, by decide +kernel⟩
/-- what isInt takes, int reads -/
theorem int_text {t : List Nat} (h : isInt t = true) : intText? (SX.S t) = some (valI t) := by
  have key : ∃ n, intText? (SX.S t) = some n := by
    unfold isInt at h
    simp only [Bool.and_eq_true, decide_eq_true_eq] at h
    obtain ⟨h1, h2, h3, _⟩ := h
    have ad : NumText.AllDigits (digsOf t) := fun c hc => by
      have := (List.all_eq_true.mp h3) c hc
      unfold isDig at this
      simp only [Bool.and_eq_true, decide_eq_true_eq] at this
      exact this
    have ne : digsOf t ≠ [] := fun z => by rw [z] at h1; simp at h1
    unfold digsOf at ad ne h2
    cases t with
    | nil => simp at ne
    | cons a r =>
      by_cases c : a = 45
      · subst c
        simp only [List.head?_cons, if_true, List.drop_succ_cons, List.drop_zero] at ad ne h2
        exact ⟨_, intText_neg (cs := r) (by simp [SX.S]) ad ne (by rw [SX.S_len, List.length_cons]; omega)⟩
      · have e : (if (a :: r).head? = some 45 then (a :: r).drop 1 else a :: r) = a :: r := if_neg (by simpa using c)
        rw [e] at ad ne h2
        exact ⟨_, intText_digits (x := SX.S (a :: r)) (by simpa [SX.S] using ad) (by simp [SX.S]) (by rw [SX.S_len]; omega)⟩
  obtain ⟨n, hn⟩ := key
  unfold valI
  rw [hn]
  rfl
/-- CONSTANTS -/
def constVv (t : List Nat) : Option V := if t = [78, 111, 110, 101] then some .non else if t = [84, 114, 117, 101] then some (.bl true) else if t = [70, 97, 108, 115, 101] then some (.bl false) else none
structure ConG (K : PySem.W.Frag) (w : World) (mg : Str → Option Value) : Prop where
  ex : ∃ d es n, mg "CONSTANTS" = some (.ref d) ∧ KDict K w d es n ∧ (∀ t, constVv t = none → PySem.W.nsIn K d (SX.S t) = some none) ∧ ∀ t v, constVv t = some v → KDct K w d (SX.S t) v ∧ ∃ u, PySem.W.nsIn K d (SX.S t) = some (some u)
theorem const_some {t : List Nat} : (constVv t).isSome = (constOf t).isSome := by
  unfold constVv constOf
  split
  · rfl
  · split
    · rfl
    · split <;> rfl
/-- a plain value, as it lies -/
def plainVv (t : List Nat) : V := match constVv t with
  | some v => v
  | none => if isInt t then .int (valI t) else .str (SX.S t)
theorem plain_dq (t : List Nat) (H : Hp) : Dq H (plainVv t) (plainVal t) := by
  unfold plainVv plainVal constVv constOf
  by_cases c1 : t = [78, 111, 110, 101]
  · rw [if_pos c1, if_pos c1]; exact .non
  · rw [if_neg c1, if_neg c1]
    by_cases c2 : t = [84, 114, 117, 101]
    · rw [if_pos c2, if_pos c2]; exact .bl true
    · rw [if_neg c2, if_neg c2]
      by_cases c3 : t = [70, 97, 108, 115, 101]
      · rw [if_pos c3, if_pos c3]; exact .bl false
      · rw [if_neg c3, if_neg c3]
        show Dq H (if isInt t then .int (valI t) else .str (SX.S t)) (if isInt t then .int (valI t) else .str (SX.S t))
        split
        · exact .int _
        · exact .str _
def spIsPlainT : Sp := fun vs H Q _ => vs.length = 1 ∧ ∃ t : List Nat, vs = [.str (SX.S t)] ∧ t.length ≤ 30000 ∧ ∀ H', Ex H H' → Q (.bl (isPlain t)) H'
def spPlainV : Sp := fun vs H Q _ => vs.length = 1 ∧ ∃ t : List Nat, vs = [.str (SX.S t)] ∧ t.length ≤ 30000 ∧ ∀ H', Ex H H' → Q (plainVv t) H'
section
variable {K : PySem.W.Frag} {σ : L2.St} {H : Hp} {te : TE}
theorem ev_isIntT {t : List Nat} {E : XK} (h : Ev te σ H (.str (SX.S t))) (ln : t.length ≤ 30000) : Ev (tCall spIsIntT [] E (tCons te tNil)) σ H (.bl (isInt t)) := fun H1 e Q q =>
  h H1 e _ fun H2 e2 => ⟨rfl, t, rfl, ln, fun H3 e3 => q H3 (e2.trans e3)⟩
theorem ev_inCon {t : List Nat} {d : Addr} (h : Ev te σ H (.str (SX.S t))) (c1 : ∀ t, constVv t = none → PySem.W.nsIn K d (SX.S t) = some none) (c2 : ∀ t v, constVv t = some v → ∃ u, PySem.W.nsIn K d (SX.S t) = some (some u)) :
    Ev (tOp (fun x y H Q => ∃ (z : Str) (r : Option Value), x = .str z ∧ y = .ref d ∧ PySem.W.nsIn K d z = some r ∧ Q (.bl r.isSome) H) te (tC (.ref d))) σ H (.bl (constVv t).isSome) := fun H1 e Q q =>
  h H1 e _ fun H2 e2 => by
    cases hc : constVv t with
    | none => exact ⟨SX.S t, none, rfl, rfl, c1 t hc, by have := q H2 e2; rw [hc] at this; exact this⟩
    | some v =>
      obtain ⟨u, hu⟩ := c2 t v hc
      exact ⟨SX.S t, some u, rfl, rfl, hu, by have := q H2 e2; rw [hc] at this; exact this⟩
end
section
variable {P : Program} {w : World} {K : PySem.W.Frag} {mg : Str → Option Value} {base : Heap}
theorem ok_isPlainT (D : Dn K mg "is_plain_text" sIsPlainT) (BA : mg "all" = none) (GL : StG mg "LETTERS" lettersS) (GC : ConG K w mg) (UI : Use P w K mg base 1 "is_integer_text" ["text"] spIsIntT) : Use P w K mg base 2 "is_plain_text" ["text"] spIsPlainT := by
  refine use_of D scIsPlainT (fun f fd F => F.binds (ps := ["text"]) fun _ _ _ _ _ _ us hl => match us, hl with | [_], _ => rfl) (fun vs H Q E h => h.1) (fun f cdv A outer s H vs Q E hr h => ?_)
  obtain ⟨_, t, rfl, ln, q⟩ := h
  obtain ⟨uL, mL, rL⟩ := GL
  obtain ⟨d, es, n, mC, kd, c1, c2⟩ := GC.ex
  have nd := scIsPlainT.nd
  refine ⟨_, pss_cons (ps_if (pt_cmpR op_eq (pv 0) pe_str (nomark _)) (pss_one (ps_ret pe_bl)) pss_nil)
    (pss_one (ps_ret (pe_or (pe_cmpR (op_in_kd kd) (pv 0) (pe_gref (by rfl) mC) (by rfl)) (pe_or (pe_callB (cr_all rfl) (by rfl) BA (by decide +kernel) (pa_cons (pe_lc (own := [("sign", 1)]) (g := gName 1) (tt := tYes) rfl nd (pi_str (pv 0)) (blkOk_by (N := ["text", "sign"]) (sc := defScope sIsPlainT) (by decide +kernel))
      (fun _ _ _ _ _ => pg_name (i := 1) nd rfl (Or.inl rfl)) (fun _ _ _ _ _ => pts_nil) (fun _ _ _ _ _ => pe_cmpR op_in_sign (pv 1) (pe_glob (by rfl) mL rL) (by rfl))) pa_nil)) (pe_one (pe_use UI hr (by decide) (by rfl) (pa_cons (pv 0) pa_nil))))))), ?_⟩
  refine q_when (b := decide (t = [])) (et_test (ev_is (ev_op (ev_var rfl) ev_c (rv_eq rfl)) (congrArg V.bl (s_dec t [])))) (fun c H1 e1 => ?_) fun c H1 e1 => ?_
  · have : isPlain t = false := by unfold isPlain; rw [c]; rfl
    rw [this] at q
    exact s_ret ev_c fun H2 e2 => q H2 (e1.trans e2)
  · have al : (t.all fun c => decide (c ∈ lettersS.cps.toList)) = t.all isLet := by congr 1; funext c; exact let_in c
    have : isPlain t = ((constVv t).isSome || (t.all isLet || isInt t)) := by unfold isPlain; rw [c, const_some]; rfl
    rw [this] at q
    exact s_ret (ev_orV (ev_inCon (ev_var rfl) c1 fun t v h => (c2 t v h).2) fun _ => ev_orV (ev_is (ev_allIn (j := 1) (vs := [1]) (L := lettersS) (ev_var rfl) (by omega) (fun _ => rfl) (fun _ => rfl)) (congrArg V.bl al)) fun _ => ev_isIntT (ev_var rfl) ln) fun H2 e2 => q H2 (e1.trans e2)
theorem ok_plainV (D : Dn K mg "plain_value" sPlainV) (BI : mg "int" = none) (GC : ConG K w mg) (UI : Use P w K mg base 1 "is_integer_text" ["text"] spIsIntT) : Use P w K mg base 2 "plain_value" ["text"] spPlainV := by
  refine use_of D scPlainV (fun f fd F => F.binds (ps := ["text"]) fun _ _ _ _ _ _ us hl => match us, hl with | [_], _ => rfl) (fun vs H Q E h => h.1) (fun f cdv A outer s H vs Q E hr h => ?_)
  obtain ⟨_, t, rfl, ln, q⟩ := h
  obtain ⟨d, es, n, mC, kd, c1, c2⟩ := GC.ex
  refine ⟨_, pss_cons (ps_if (pt_cmpR (op_in_kd kd) (pv 0) (pe_gref (by rfl) mC) (by rfl)) (pss_one (ps_ret (pe_ix ix_kdict (pe_gref (by rfl) mC) (pv 0) (fun _ _ => rfl)))) pss_nil)
    (pss_one (ps_ret (pe_ifExp (pt_val (pe_use UI hr (by decide) (by rfl) (pa_cons (pv 0) pa_nil))) (pe_callTy call_int_str (by rfl) BI Chk.boot_int (pa_cons (pv 0) pa_nil)) (pv 0)))), ?_⟩
  refine q_when (b := (constVv t).isSome) (et_test (ev_inCon (ev_var rfl) c1 fun t v h => (c2 t v h).2)) (fun c H1 e1 => ?_) fun c H1 e1 => ?_
  · obtain ⟨v, hv⟩ := Option.isSome_iff_exists.mp c
    have : plainVv t = v := by unfold plainVv; rw [hv]
    rw [this] at q
    exact s_ret (fun H2 e2 Q' q' => ⟨_, rfl, d, SX.S t, v, rfl, rfl, (c2 t v hv).1, q' H2 (Ex.refl _)⟩) fun H2 e2 => q H2 (e1.trans e2)
  · have hn : constVv t = none := by
      cases h : constVv t with
      | none => rfl
      | some v => rw [h] at c; cases c
    have : plainVv t = if isInt t = true then .int (valI t) else .str (SX.S t) := by unfold plainVv; rw [hn]
    rw [this] at q
    refine s_ret (ev_if (et_B (ev_isIntT (ev_var rfl) ln)) (fun c => ?_) fun c => ?_) fun H2 e2 => q H2 (e1.trans e2)
    · rw [if_pos c]
      have l40 : t.length ≤ 41 := by
        unfold isInt at c
        simp only [Bool.and_eq_true, decide_eq_true_eq] at c
        obtain ⟨_, c2, _⟩ := c
        unfold digsOf at c2
        split at c2
        · rw [List.length_drop] at c2; omega
        · omega
      exact fun H2 e2 Q' q' => ⟨_, rfl, SX.S t, valI t, rfl, int_text c, by rw [SX.S_len]; omega, q' H2 (Ex.refl _)⟩
    · rw [if_neg (by rw [c]; decide)]
      exact ev_var rfl
end
end N40
set_option maxHeartbeats 4000000
/-! k40: take: the levels, as they lie. -/
namespace N40
open PySem PySem.Spec PyProof.Rows L2 Evl Pd Gd Us Chk Lw Wlk
abbrev sTake : Stmt := Tp.s_take
abbrev nTake : List Str := ["levels", "piece", "behind", "plain", "openers", "closers", "sign", "closer", "inside"]
theorem scTake : FnScope nTake ["levels", "piece"] (defScope sTake) := ⟨rfl, rfl, rfl, by decide +kernel, rfl, by decide +kernel, by decide +kernel⟩
def cloS (k : Nat) : Str := if k = 0 then SX.S [] else SX.S [k]
/-- open levels, the innermost first: the tuple, its list, what the list holds (as data of W) -/
inductive Lv (H W : Hp) : St → List Addr → List Addr → Prop
  | nil : Lv H W [] [] []
  | cons {k : Nat} {ds : List PyData} {st : St} {r l : Addr} {rs ls : List Addr} {xs : List V} : H r = some (.tup [.str (cloS k), .ref l]) → H l = some (.lst xs) → DqAll W xs ds → ds.length ≤ 50000 → Lv H W st rs ls → Lv H W ((k, ds) :: st) (r :: rs) (l :: ls)
theorem Lv.up {H H' W : Hp} {st : St} {rs ls : List Addr} (h : Lv H W st rs ls) (k : ∀ b o, b ∈ rs ∨ b ∈ ls → H b = some o → H' b = some o) : Lv H' W st rs ls := by
  induction h with
  | nil => exact .nil
  | cons h1 h2 h3 h4 _ ih => exact .cons (k _ _ (.inl List.mem_cons_self) h1) (k _ _ (.inr List.mem_cons_self) h2) h3 h4 (ih fun b o m => k b o (m.imp (List.mem_cons_of_mem _) (List.mem_cons_of_mem _)))
theorem Lv.data {H W W' : Hp} {st : St} {rs ls : List Addr} (h : Lv H W st rs ls) (e : Ex W W') : Lv H W' st rs ls := by
  induction h with
  | nil => exact .nil
  | cons h1 h2 h3 h4 _ ih => exact .cons h1 h2 (dqAll_up e h3) h4 ih
theorem Lv.len {H W : Hp} {st : St} {rs ls : List Addr} (h : Lv H W st rs ls) : rs.length = st.length ∧ ls.length = st.length := by
  induction h with
  | nil => exact ⟨rfl, rfl⟩
  | cons _ _ _ _ _ ih => exact ⟨congrArg Nat.succ ih.1, congrArg Nat.succ ih.2⟩
theorem Lv.tup {H W : Hp} {st : St} {rs ls : List Addr} (h : Lv H W st rs ls) : ∀ r ∈ rs, ∃ xs, H r = some (.tup xs) := by
  induction h with
  | nil => exact fun r h => nomatch h
  | cons h1 _ _ _ _ ih =>
    intro r h
    rcases List.mem_cons.mp h with rfl | h
    · exact ⟨_, h1⟩
    · exact ih r h
theorem Lv.lst {H W : Hp} {st : St} {rs ls : List Addr} (h : Lv H W st rs ls) : ∀ l ∈ ls, ∃ xs, H l = some (.lst xs) := by
  induction h with
  | nil => exact fun r h => nomatch h
  | cons _ h2 _ _ _ ih =>
    intro l h
    rcases List.mem_cons.mp h with rfl | h
    · exact ⟨_, h2⟩
    · exact ih l h
/-- .., in a heap whose other part is W -/
structure Lev (H W : Hp) (L : Addr) (st : St) (rs ls : List Addr) : Prop where
  at_ : H L = some (.lst (rs.reverse.map V.ref))
  lv : Lv H W st rs ls
  nd : (L :: ls).Nodup
  rest : ∀ b o, W b = some o → H b = some o ∧ b ∉ L :: ls
theorem upd_other {H : Hp} {a b : Addr} {o u : HO} (h : H b = some u) (n : b ≠ a) : (upd H a o) b = some u := by rw [upd_ne n]; exact h
/-- more is laid -/
theorem Lev.up {H H' W : Hp} {L : Addr} {st : St} {rs ls : List Addr} (h : Lev H W L st rs ls) (e : Ex H H') : Lev H' W L st rs ls :=
  ⟨e _ _ h.at_, h.lv.up fun b o _ hb => e b o hb, h.nd, fun b o hb => ⟨e _ _ (h.rest b o hb).1, (h.rest b o hb).2⟩⟩
/-- a level more: l, r new -/
theorem Lev.push {H W : Hp} {L l r : Addr} {st : St} {rs ls : List Addr} {k : Nat} (h : Lev H W L st rs ls) (nl : H l = none) (nr : (upd H l (.lst [])) r = none) :
    Lev (upd (upd (upd H l (.lst [])) r (.tup [.str (cloS k), .ref l])) L (.lst (((r :: rs).reverse).map V.ref))) W L ((k, []) :: st) (r :: rs) (l :: ls) := by
  have nlr : r ≠ l := fun z => by rw [z, upd_same] at nr; cases nr
  have nr' : H r = none := by rwa [upd_ne nlr] at nr
  have Ll : L ≠ l := fun z => by have := h.at_; rw [z, nl] at this; cases this
  have Lr : L ≠ r := fun z => by have := h.at_; rw [z, nr'] at this; cases this
  have old : ∀ b o, b ≠ L → H b = some o → (upd (upd (upd H l (.lst [])) r (.tup [.str (cloS k), .ref l])) L (.lst (((r :: rs).reverse).map V.ref))) b = some o := fun b o n hb =>
    upd_other (upd_other (upd_other hb fun z => by rw [z, nl] at hb; cases hb) fun z => by rw [z, nr'] at hb; cases hb) n
  have nls : L ∉ ls := (List.nodup_cons.mp h.nd).1
  have lls : l ∉ ls := fun z => by
    obtain ⟨xs, hx⟩ := h.lv.lst l z
    rw [nl] at hx
    cases hx
  refine ⟨upd_same, .cons (xs := []) ?_ ?_ .nil (Nat.zero_le _) (h.lv.up fun b o m hb => old b o (fun z => ?_) hb), ?_, fun b o hb => ⟨old b o (fun z => (h.rest b o hb).2 (z ▸ List.mem_cons_self)) (h.rest b o hb).1, ?_⟩⟩
  · exact upd_other upd_same (fun z => Lr z.symm)
  · exact upd_other (upd_other upd_same fun z => nlr z.symm) fun z => Ll z.symm
  · rcases m with m | m
    · obtain ⟨xs, hx⟩ := h.lv.tup b m
      rw [z, h.at_] at hx
      cases hx
    · exact nls (z ▸ m)
  · refine List.nodup_cons.mpr ⟨fun z => ?_, List.nodup_cons.mpr ⟨lls, (List.nodup_cons.mp h.nd).2⟩⟩
    rcases List.mem_cons.mp z with z | z
    · exact Ll z
    · exact nls z
  · intro z
    rcases List.mem_cons.mp z with z | z
    · exact (h.rest b o hb).2 (z ▸ List.mem_cons_self)
    · rcases List.mem_cons.mp z with z | z
      · have := (h.rest b o hb).1
        rw [z, nl] at this
        cases this
      · exact (h.rest b o hb).2 (List.mem_cons_of_mem _ z)
/-- a value more in the innermost level -/
theorem Lev.add {H W W' : Hp} {L r l : Addr} {st : St} {rs ls : List Addr} {k : Nat} {ds : List PyData} {v : V} {d : PyData} {xs : List V} (h : Lev H W L ((k, ds) :: st) (r :: rs) (l :: ls)) (hx : H l = some (.lst xs)) (e : Ex W W') (hv : Dq W' v d) (ln : ds.length + 1 ≤ 50000) (hw : ∀ b o, W' b = some o → H b = some o ∧ b ∉ L :: l :: ls) :
    Lev (upd H l (.lst (xs ++ [v]))) W' L ((k, ds ++ [d]) :: st) (r :: rs) (l :: ls) := by
  cases h.lv with
  | @cons _ _ _ _ _ _ _ xs' h1 h2 h3 h4 h5 =>
    rw [hx] at h2
    cases h2
    have nd := List.nodup_cons.mp h.nd
    have Ll : L ≠ l := fun z => nd.1 (z ▸ List.mem_cons_self)
    have rl : r ≠ l := fun z => by rw [z, hx] at h1; cases h1
    have dapp : ∀ {ys : List V} {es : List PyData}, DqAll W' ys es → DqAll W' (ys ++ [v]) (es ++ [d]) := by
      intro ys
      induction ys with
      | nil => intro es h; cases h; exact .cons hv .nil
      | cons y ys ih => intro es h; cases h with | cons a b => exact .cons a (ih b)
    refine ⟨upd_other h.at_ Ll, .cons (upd_other h1 rl) upd_same (dapp (dqAll_up e h3)) (by rw [List.length_append]; exact ln) ((h5.data e).up fun b o m hb => upd_other hb fun z => ?_), h.nd, fun b o hb => ⟨upd_other (hw b o hb).1 fun z => (hw b o hb).2 (by rw [z]; exact List.mem_cons_of_mem _ List.mem_cons_self), (hw b o hb).2⟩⟩
    rcases m with m | m
    · obtain ⟨ys, hy⟩ := h5.tup b m
      rw [z, hx] at hy
      cases hy
    · exact (List.nodup_cons.mp nd.2).1 (z ▸ m)
/-- the innermost level goes -/
theorem Lev.pop {H W : Hp} {L r l : Addr} {st : St} {rs ls : List Addr} {k : Nat} {ds : List PyData} (h : Lev H W L ((k, ds) :: st) (r :: rs) (l :: ls)) : Lev (upd H L (.lst (rs.reverse.map V.ref))) W L st rs ls := by
  cases h.lv with
  | cons h1 h2 h3 h4 h5 =>
    have nd := List.nodup_cons.mp h.nd
    refine ⟨upd_same, h5.up fun b o m hb => upd_other hb fun z => ?_, List.nodup_cons.mpr ⟨fun z => nd.1 (List.mem_cons_of_mem _ z), (List.nodup_cons.mp nd.2).2⟩, fun b o hb => ⟨upd_other (h.rest b o hb).1 fun z => (h.rest b o hb).2 (z ▸ List.mem_cons_self), fun z => (h.rest b o hb).2 ?_⟩⟩
    · rcases m with m | m
      · obtain ⟨ys, hy⟩ := h5.tup b m
        rw [z, h.at_] at hy
        cases hy
      · exact nd.1 (by rw [← z]; exact List.mem_cons_of_mem _ m)
    · rcases List.mem_cons.mp z with z | z
      · rw [z]; exact List.mem_cons_self
      · exact List.mem_cons_of_mem _ (List.mem_cons_of_mem _ z)
end N40
set_option maxHeartbeats 4000000
/-! k40: take. -/
namespace N40
open PySem PySem.Spec PyProof.Rows L2 Evl Pd Gd Us Chk Lw Wlk
theorem open_take (p : List Nat) : p.take (p.length - (behind p).length) = openers p := by
  have e : openers p ++ behind p = p := List.takeWhile_append_dropWhile
  have l : (openers p).length + (behind p).length = p.length := by rw [← List.length_append, e]
  calc p.take (p.length - (behind p).length) = (openers p ++ behind p).take (openers p).length := by rw [e, ← l, Nat.add_sub_cancel]
    _ = openers p := List.take_left
theorem close_drop (b : List Nat) : b.drop (plainOf b).length = closers b := by
  have e : plainOf b ++ closers b = b := by
    unfold plainOf closers
    rw [← List.reverse_append, List.takeWhile_append_dropWhile, List.reverse_reverse]
  calc b.drop (plainOf b).length = (plainOf b ++ closers b).drop (plainOf b).length := by rw [e]
    _ = closers b := List.drop_left
theorem behind_len (p : List Nat) : (behind p).length ≤ p.length ∧ (openers p).length ≤ p.length := by
  have e : openers p ++ behind p = p := List.takeWhile_append_dropWhile
  have l : (openers p).length + (behind p).length = p.length := by rw [← List.length_append, e]
  omega
theorem plain_len (b : List Nat) : (plainOf b).length ≤ b.length ∧ (closers b).length ≤ b.length := by
  have e : plainOf b ++ closers b = b := by
    unfold plainOf closers
    rw [← List.reverse_append, List.takeWhile_append_dropWhile, List.reverse_reverse]
  have l : (plainOf b).length + (closers b).length = b.length := by rw [← List.length_append, e]
  omega
theorem all_tw {p : Nat → Bool} {t : List Nat} {i c : Nat} (h : (t.takeWhile p)[i]? = some c) : p c = true := by
  have m := List.mem_of_getElem? h
  induction t generalizing i with
  | nil => cases m
  | cons a r ih =>
    rw [List.takeWhile_cons] at m
    cases hp : p a with
    | false => rw [hp] at m; cases m
    | true =>
      rw [hp] at m
      rcases List.mem_cons.mp m with rfl | m
      · exact hp
      · obtain ⟨j, hj, e⟩ := List.getElem_of_mem m
        exact ih (i := j) (by rw [List.getElem?_eq_getElem hj, e]) m
theorem open_or {c : Nat} (h : isOpen c = true) : c = 40 ∨ c = 91 := by
  unfold isOpen at h
  simpa [Bool.or_eq_true, beq_iff_eq] using h
theorem close_or {c : Nat} (h : isClose c = true) : c = 41 ∨ c = 93 := by
  unfold isClose at h
  simpa [Bool.or_eq_true, beq_iff_eq] using h
theorem at_lastA (r : Addr) (rs : List Addr) : atI (((r :: rs).reverse).map V.ref) (-1) = some (.ref r) := by
  have e : ((r :: rs).reverse).map V.ref = rs.reverse.map V.ref ++ [.ref r] := by simp
  rw [e]
  have el : (rs.reverse.map V.ref ++ [V.ref r]).length = rs.length + 1 := by simp
  unfold atI ixN
  rw [el, if_neg (by decide), if_pos (by omega)]
  show (rs.reverse.map V.ref ++ [V.ref r])[(-1 + ((rs.length + 1 : Nat) : Int)).toNat]? = _
  rw [show (-1 + ((rs.length + 1 : Nat) : Int)).toNat = rs.length by omega, List.getElem?_append_right (by simp)]
  simp
def Base (st : St) : Prop := ∃ a ds, st = a ++ [(0, ds)]
theorem base_push {st : St} (h : Base st) : ∀ o : List Nat, Base (pushes st o) := by
  intro o
  unfold pushes
  induction o generalizing st with
  | nil => exact h
  | cons x o ih =>
    obtain ⟨a, ds, rfl⟩ := h
    exact ih ⟨(clo x, []) :: a, ds, rfl⟩
theorem Base.ne {st : St} (h : Base st) : st ≠ [] := by
  obtain ⟨a, ds, rfl⟩ := h
  simp
theorem Base.add {k : Nat} {ds es : List PyData} {st : St} (h : Base ((k, ds) :: st)) : Base ((k, es) :: st) := by
  obtain ⟨a, d0, e⟩ := h
  cases a with
  | nil => cases e; exact ⟨[], es, rfl⟩
  | cons x a => cases e; exact ⟨(k, es) :: a, d0, rfl⟩
theorem Base.tail {k : Nat} {ds : List PyData} {st : St} (h : Base ((k, ds) :: st)) (hk : k ≠ 0) : Base st := by
  obtain ⟨a, d0, e⟩ := h
  cases a with
  | nil => cases e; exact absurd rfl hk
  | cons x a => cases e; exact ⟨a, d0, rfl⟩
section
variable {K : PySem.W.Frag} {σ : L2.St} {H : Hp} {te tc ta tb : TE} {tu tz : TS} {D : Ends} {j : Nat}
theorem ev_lstrip {t : List Nat} (h : Ev te σ H (.str (SX.S t))) (ln : t.length ≤ 30000) : Ev (tM1 (fun x xs H Q => ∃ a b, x = .str a ∧ xs = [.str b] ∧ a.length ≤ sizeLine ∧ Q (.str (Txt.lstripChars a b)) H) te (tC (.str ("([" : Str)))) σ H (.str (SX.S (behind t))) := fun H1 e Q q =>
  h H1 e _ fun H2 e2 => ⟨⟨_, rfl⟩, _, _, rfl, rfl, by rw [SX.S_len]; exact sz_of (by omega), by
    rw [show (("([" : Str)) = SX.S [40, 91] from rfl, lstrip_S, show (fun x => (SX.S [40, 91]).cps.contains x) = isOpen from funext fun x => by rw [Bool.eq_iff_iff]; simp [SX.S, isOpen]]
    exact q H2 e2⟩
theorem ev_rstrip {t : List Nat} (h : Ev te σ H (.str (SX.S t))) (ln : t.length ≤ 30000) : Ev (tM1 (fun x xs H Q => ∃ a b, x = .str a ∧ xs = [.str b] ∧ a.length ≤ sizeLine ∧ Q (.str (Txt.rstripChars a b)) H) te (tC (.str (")]" : Str)))) σ H (.str (SX.S (plainOf t))) := fun H1 e Q q =>
  h H1 e _ fun H2 e2 => ⟨⟨_, rfl⟩, _, _, rfl, rfl, by rw [SX.S_len]; exact sz_of (by omega), by
    rw [show ((")]" : Str)) = SX.S [41, 93] from rfl, rstrip_S, show (fun x => (SX.S [41, 93]).cps.contains x) = isClose from funext fun x => by rw [Bool.eq_iff_iff]; simp [SX.S, isClose]]
    exact q H2 e2⟩
/-- for c in text -/
theorem q_forStr {t : List Nat} (h : Ev te σ H (.str (SX.S t))) (Pv : Nat → L2.St → Hp → Prop) (h0 : ∀ H1, Ex H H1 → Pv 0 σ H1) (hs : ∀ (i c : Nat) σ' H', t[i]? = some c → Pv i σ' H' → tu { D with nx := Pv (i + 1), ct := Pv (i + 1), bk := tz D } (σ'.set j (some (.str (SX.S [c])))) H') (hd : ∀ σ' H', Pv t.length σ' H' → tz D σ' H') :
    tSeq (tFor (iStr te) (gName j) tu) tz D σ H := by
  refine h H (Ex.refl H) _ fun H1 e1 => ⟨SX.S t, rfl, for_it (D := { D with nx := tz D }) (walk_str (z := SX.S t)) Pv (h0 H1 e1) (fun _ _ _ _ _ => trivial) (fun i x σ' H2 H3 hi p yy => ?_) fun σ' H' p => ?_⟩
  · obtain ⟨rfl, c, hc, rfl⟩ := yy
    exact hs i c σ' _ (by simpa [SX.S] using hc) p
  · have z : (SX.S t).cps.size = t.length := by simp [SX.S]
    rw [z] at p
    exact hd σ' H' p
theorem q_mid {X : TS} (Mid : Hp → Prop) (hx : ∀ N : L2.St → Hp → Prop, (∀ H', Mid H' → N σ H') → X { D with nx := N } σ H) (k : ∀ H', Mid H' → tz D σ H') : tSeq X tz D σ H := hx (tz D) k
theorem ev_plainT {t : List Nat} {E : XK} (h : Ev te σ H (.str (SX.S t))) (ln : t.length ≤ 30000) : Ev (tCall spIsPlainT [] E (tCons te tNil)) σ H (.bl (isPlain t)) := fun H1 e Q q =>
  h H1 e _ fun H2 e2 => ⟨rfl, t, rfl, ln, fun H3 e3 => q H3 (e2.trans e3)⟩
/-- levels[-1][1] -/
theorem ev_topL {L r l : Addr} {W : Hp} {k : Nat} {ds : List PyData} {st : St} {rs ls : List Addr} (h : Lev H W L ((k, ds) :: st) (r :: rs) (l :: ls)) (h0 : σ[0]? = some (some (.ref L))) : Ev (tOp (rIxT K) (tOp (rIxL K) (tVar 0) (tUn (rU fun i => V.int (-i)) (tC (.int 1)))) (tC (.int 1))) σ H (.ref l) := by
  cases h.lv with
  | cons h1 h2 h3 h4 h5 => exact ev_op (ev_op (ev_var h0) (ev_un ev_c ru_neg) (rv_ixL (sq_of h.at_) (at_lastA r rs))) ev_c (rv_ixT (st_of h1) rfl)
/-- levels[-1][1].append(e) -/
theorem s_addL {L r l : Addr} {W : Hp} {k : Nat} {ds : List PyData} {st : St} {rs ls : List Addr} {d : PyData} (h : Lev H W L ((k, ds) :: st) (r :: rs) (l :: ls)) (h0 : σ[0]? = some (some (.ref L))) (ln : ds.length + 1 ≤ 50000)
    (hv : ∀ H1, Ex H H1 → ∀ Q : VK, (∀ v H2 W', Ex H1 H2 → Ex W W' → Dq W' v d → (∀ b o, W' b = some o → H2 b = some o ∧ b ∉ L :: l :: ls) → Q v H2) → te σ H1 Q) (q : ∀ H' W', Ex W W' → Lev H' W' L ((k, ds ++ [d]) :: st) (r :: rs) (l :: ls) → D.nx σ H') :
    tDrop (tBM K "list" rAppend (tOp (rIxT K) (tOp (rIxL K) (tVar 0) (tUn (rU fun i => V.int (-i)) (tC (.int 1)))) (tC (.int 1))) (tCons te tNil)) D σ H := by
  refine ev_topL h h0 H (Ex.refl H) _ fun H1 e1 => ?_
  have hh := h.lv
  cases hh with
  | @cons _ _ _ _ _ _ _ xs h1 h2 h3 h4 h5 =>
    refine ⟨.inl ⟨rfl, xs, sq_of (e1 _ _ h2)⟩, hv H1 e1 _ fun v H2 W' e2 eW dv hw => ?_⟩
    have hx := e2 _ _ (e1 _ _ h2)
    refine ⟨l, xs, v, rfl, rfl, hx, ?_, q _ W' eW ((h.up (e1.trans e2)).add hx eW dv ln hw)⟩
    rw [dqAll_len h3]
    exact sz_lt (by omega)
/-- levels.append((c, [])) -/
theorem s_pushL {L : Addr} {W : Hp} {st : St} {rs ls : List Addr} {k : Nat} (h : Lev H W L st rs ls) (sl : st.length ≤ 30000) (ha : Ev ta σ H (.ref L)) (hc : Ev tc σ H (.str (cloS k))) (q : ∀ H' rs' ls', Lev H' W L ((k, []) :: st) rs' ls' → D.nx σ H') :
    tDrop (tBM K "list" rAppend ta (tCons (tTup (tCons tc (tCons (tLst tNil) tNil))) tNil)) D σ H := by
  refine ha H (Ex.refl H) _ fun H1 e1 => ⟨.inl ⟨rfl, _, sq_of (h.up e1).at_⟩, ?_⟩
  refine hc H1 e1 _ fun H2 e2 => ⟨Nat.zero_le _, fun l nl => ⟨show 2 ≤ sizeLine by decide, fun r nr => ?_⟩⟩
  have h2 := h.up (e1.trans e2)
  have Ll : L ≠ l := fun z => by have := h2.at_; rw [z, nl] at this; cases this
  have nlr : r ≠ l := fun z => by rw [z, upd_same] at nr; cases nr
  have Lr : L ≠ r := fun z => by have := h2.at_; rw [z] at this; rw [upd_ne nlr, this] at nr; cases nr
  refine ⟨L, rs.reverse.map V.ref, .ref r, rfl, rfl, upd_other (upd_other h2.at_ Ll) Lr, ?_, ?_⟩
  · rw [List.length_map, List.length_reverse, h2.lv.len.1]
    exact sz_lt (by omega)
  · have := h2.push (k := k) nl nr
    refine q _ (r :: rs) (l :: ls) ?_
    rw [show rs.reverse.map V.ref ++ [.ref r] = ((r :: rs).reverse).map V.ref by simp]
    exact this
end
structure CloG (K : PySem.W.Frag) (w : World) (mg : Str → Option Value) : Prop where
  ex : ∃ d, mg "CLOSERS" = some (.ref d) ∧ KDct K w d (SX.S [40]) (.str (SX.S [41])) ∧ KDct K w d (SX.S [91]) (.str (SX.S [93]))
def spTake : Sp := fun vs H Q _ => vs.length = 2 ∧ ∃ (L : Addr) (p : List Nat) (W : Hp) (st : St) (rs ls : List Addr) (B : Nat), vs = [.ref L, .str (SX.S p)] ∧ Lev H W L st rs ls ∧ Base st ∧ (∀ e ∈ st, e.2.length ≤ B) ∧ B + p.length + 2 ≤ 50000 ∧ st.length ≤ 100 ∧ p.length ≤ 20000 ∧
  (takeL st p = none → ∀ H', Ex W H' → Q (.bl false) H') ∧ (∀ st', takeL st p = some st' → Base st' → (∀ e ∈ st', e.2.length ≤ B + p.length + 1) → st'.length ≤ 21 → ∀ H' W' rs' ls', Ex W W' → Lev H' W' L st' rs' ls' → Q (.bl true) H')
section
variable {P : Program} {w : World} {K : PySem.W.Frag} {mg : Str → Option Value} {base : Heap}
theorem ok_take (D : Dn K mg "take" sTake) (BL : mg "len" = none) (BT : mg "tuple" = none) (GC : CloG K w mg) (GM : IntG mg "DEEPEST" 20) (UP : Use P w K mg base 2 "is_plain_text" ["text"] spIsPlainT) (UV : Use P w K mg base 2 "plain_value" ["text"] spPlainV) : Use P w K mg base 3 "take" ["levels", "piece"] spTake := by
  refine use_of D scTake (fun f fd F => F.binds (ps := ["levels", "piece"]) fun _ _ _ _ _ _ us hl => match us, hl with | [_, _], _ => rfl) (fun vs H Q E h => h.1) (fun f cdv A outer s H vs Q E hr h => ?_)
  obtain ⟨_, L, p, W, st, rs, ls, B, rfl, hL, sb, slen, Bp, sl, pl, qf, qt⟩ := h
  obtain ⟨d, mC, k1, k2⟩ := GC.ex
  obtain ⟨uM, mM, rM⟩ := GM
  have nd := scTake.nd
  refine ⟨_, pss_cons (ps_set (i := 2) nd rfl (Or.inl rfl) (pe_m1 PySem.F.slot_str_lstrip (by rfl) mt_lstripC (pv 1) pe_str))
    (pss_cons (ps_set (i := 3) nd rfl (Or.inl rfl) (pe_m1 PySem.F.slot_str_rstrip (by rfl) mt_rstripC (pv 2) pe_str))
    (pss_cons (ps_set (i := 4) nd rfl (Or.inl rfl) (pe_slice (r := rSlS) sl_str (pv 1) po_none (po_some (pe_op op_sub (pe_callB call_len_str (by rfl) BL PySem.boot_len (pa_cons (pv 1) pa_nil)) (pe_callB call_len_str (by rfl) BL PySem.boot_len (pa_cons (pv 2) pa_nil))))))
    (pss_cons (ps_set (i := 5) nd rfl (Or.inl rfl) (pe_slice (r := rSlS) sl_str (pv 2) (po_some (pe_callB call_len_str (by rfl) BL PySem.boot_len (pa_cons (pv 3) pa_nil))) po_none))
    (pss_cons (ps_for PassesOwn.never rfl (pi_str (pv 4)) (pg_name (i := 6) nd rfl (Or.inl rfl)) (pss_one (ps_expr (pe_bm PySem.F.plainAttrs_list PySem.F.slot_list_append PySem.F.type_list_append mt_append (pv 0) (pa_cons (pe_tup (pa_cons (pe_ix ix_kdict (pe_gref (by rfl) mC) (pv 6) (fun _ _ => rfl)) (pa_cons (pe_lst pa_nil) pa_nil))) pa_nil)))))
    (pss_cons (ps_if (pt_cmpR op_gt (pe_callB call_len_seq (by rfl) BL PySem.boot_len (pa_cons (pv 0) pa_nil)) (pe_op op_add (pe_glob (by rfl) mM rM) pe_int) (nomark _)) (pss_one (ps_ret pe_bl)) pss_nil)
    (pss_cons (ps_if (pt_val (pe_use UP hr (by decide) (by rfl) (pa_cons (pv 3) pa_nil))) (pss_one (ps_expr (pe_bm PySem.F.plainAttrs_list PySem.F.slot_list_append PySem.F.type_list_append mt_append (pe_ix (r := rIxT K) ix_tup (pe_ix (r := rIxL K) ix_list (pv 0) (pe_un un_neg pe_int) (fun _ _ => rfl)) pe_int (fun _ _ => rfl)) (pa_cons (pe_use UV hr (by decide) (by rfl) (pa_cons (pv 3) pa_nil)) pa_nil))))
      (pss_one (ps_if (PW.pt (pw_or (pt_cmpR op_ne (pv 3) pe_str (nomark _)) (pw_or (pt_cmpR op_eq (pv 4) pe_str (nomark _)) (pw_or1 (pt_cmpR op_eq (pv 5) pe_str (nomark _)))))) (pss_one (ps_ret pe_bl)) pss_nil)))
    (pss_cons (ps_for PassesOwn.never rfl (pi_str (pv 5)) (pg_name (i := 6) nd rfl (Or.inl rfl))
      (pss_cons (ps_asg (pe_ix (r := rIxL K) ix_list (pv 0) (pe_un un_neg pe_int) (fun _ _ => rfl)) (pg_tup rfl (pgs_cons (pg_name (i := 7) nd rfl (Or.inl rfl)) (pgs_cons (pg_name (i := 8) nd rfl (Or.inl rfl)) pgs_nil))))
      (pss_cons (ps_if (pt_cmpR op_ne (pv 7) (pv 6) (nomark _)) (pss_one (ps_ret pe_bl)) pss_nil)
      (pss_cons (ps_expr (pe_bm0 PySem.F.plainAttrs_list PySem.F.slot_list_pop PySem.F.type_list_pop mt_pop (pv 0)))
      (pss_one (ps_expr (pe_bm PySem.F.plainAttrs_list PySem.F.slot_list_append PySem.F.type_list_append mt_append (pe_ix (r := rIxT K) ix_tup (pe_ix (r := rIxL K) ix_list (pv 0) (pe_un un_neg pe_int) (fun _ _ => rfl)) pe_int (fun _ _ => rfl)) (pa_cons (pe_ifExp (pt_cmpR op_eq (pv 6) pe_str (nomark _)) (pe_callTy call_tuple_of (by rfl) BT Chk.boot_tuple (pa_cons (pv 8) pa_nil)) (pv 8)) pa_nil))))))))
    (pss_one (ps_ret pe_bl))))))))), ?_⟩
  have bl := behind_len p
  have pll := plain_len (behind p)
  refine d_asg (P := Is (.str (SX.S (behind p)))) (.of (ev_lstrip (ev_var rfl) (by omega)) mo_is rfl) fun v H1 e1 ev => ?_
  cases ev
  refine d_asg (P := Is (.str (SX.S (plainOf (behind p))))) (.of (ev_rstrip (ev_var rfl) (by omega)) mo_is rfl) fun v H2 e2 ev => ?_
  cases ev
  refine d_asg (P := Is (.str (SX.S (openers p)))) (.of ?op mo_is rfl) fun v H3 e3 ev => ?_
  case op =>
    have := ev_upto (t := p) (n := p.length - (behind p).length) (tn := tOp (rI0 fun i j => V.int (i - j)) (tCB (fun xs H Q => ∃ z : Str, xs = [.str z] ∧ z.length ≤ sizeLine ∧ Q (.int z.length) H) (tCons (tVar 1) tNil)) (tCB (fun xs H Q => ∃ z : Str, xs = [.str z] ∧ z.length ≤ sizeLine ∧ Q (.int z.length) H) (tCons (tVar 2) tNil))) (te := tVar 1) (σ := [some (.ref L), some (.str (SX.S p)), some (.str (SX.S (behind p))), some (.str (SX.S (plainOf (behind p)))), none, none, none, none, none]) (H := H2) (ev_var rfl) (ev_is (ev_op (ev_lenS (ev_var rfl) (by omega)) (ev_lenS (ev_var rfl) (by omega)) rv_I0) (by congr 1; omega)) (by omega)
    rw [open_take] at this
    exact this
  cases ev
  refine d_asg (P := Is (.str (SX.S (closers (behind p))))) (.of ?cl mo_is rfl) fun v H4 e4 ev => ?_
  case cl =>
    have := ev_from (t := behind p) (n := (plainOf (behind p)).length) (tn := tCB (fun xs H Q => ∃ z : Str, xs = [.str z] ∧ z.length ≤ sizeLine ∧ Q (.int z.length) H) (tCons (tVar 3) tNil)) (te := tVar 2) (σ := [some (.ref L), some (.str (SX.S p)), some (.str (SX.S (behind p))), some (.str (SX.S (plainOf (behind p)))), some (.str (SX.S (openers p))), none, none, none, none]) (H := H3) (ev_var rfl) (ev_lenS (ev_var rfl) (by omega)) (by omega)
    rw [close_drop] at this
    exact this
  cases ev
  dsimp only [List.set]
  have hL4 := hL.up (e1.trans (e2.trans (e3.trans e4)))
  refine q_forStr (t := openers p) (ev_var rfl) (fun i σ' H' => ∃ v6, σ' = [some (.ref L), some (.str (SX.S p)), some (.str (SX.S (behind p))), some (.str (SX.S (plainOf (behind p)))), some (.str (SX.S (openers p))), some (.str (SX.S (closers (behind p)))), v6, none, none] ∧ ∃ rs' ls', Lev H' W L (pushes st ((openers p).take i)) rs' ls') (fun H5 e5 => ⟨_, rfl, rs, ls, hL4.up e5⟩) ?push ?rest
  case push =>
    rintro i c σ' H5 hc ⟨v6, rfl, rs', ls', hL5⟩
    dsimp only [List.set]
    have oc := open_or (all_tw hc)
    have tk : pushes st ((openers p).take (i + 1)) = (clo c, []) :: pushes st ((openers p).take i) := by
      rw [List.take_succ, hc]
      exact pushes_snoc st _ c
    refine s_pushL (k := clo c) hL5 (by rw [pushes_len, List.length_take]; omega) (ev_var rfl) (fun H6 e6 Q' q' => ?_) fun H6 rs2 ls2 h6 => ⟨_, rfl, rs2, ls2, by rw [tk]; exact h6⟩
    rcases oc with rfl | rfl
    · exact ⟨_, rfl, d, SX.S [40], .str (SX.S [41]), rfl, rfl, k1, q' H6 (Ex.refl _)⟩
    · exact ⟨_, rfl, d, SX.S [91], .str (SX.S [93]), rfl, rfl, k2, q' H6 (Ex.refl _)⟩
  case rest =>
    rintro σ' H5 ⟨v6, rfl, rs', ls', hL5⟩
    rw [List.take_length] at hL5
    have sb1 := base_push sb (openers p)
    have l1 := pushes_len st (openers p)
    have b1 : ∀ e ∈ pushes st (openers p), e.2.length ≤ B := by
      have : ∀ (o : List Nat) (st : St), (∀ e ∈ st, e.2.length ≤ B) → ∀ e ∈ o.foldl (fun st x => (clo x, []) :: st) st, e.2.length ≤ B := by
        intro o
        induction o with
        | nil => exact fun st h => h
        | cons x o ih =>
          intro st h
          refine ih _ fun e he => ?_
          rcases List.mem_cons.mp (show e ∈ (clo x, []) :: st from he) with rfl | he
          · exact Nat.zero_le _
          · exact h e he
      exact this (openers p) st slen
    have low : ∀ {Hx : Hp}, Ex H5 Hx → Ex W Hx := fun ex b o hb => ex _ _ (hL5.rest b o hb).1
    have c1 : takeL st p = if (pushes st (openers p)).length > 21 then none else if isPlain (plainOf (behind p)) then (addAll [plainVal (plainOf (behind p))] (pushes st (openers p))).bind fun s => (closers (behind p)).foldlM popL s else if plainOf (behind p) ≠ [] ∨ openers p = [] ∨ closers (behind p) = [] then none else (closers (behind p)).foldlM popL (pushes st (openers p)) := rfl
    generalize hst1 : pushes st (openers p) = st1 at *
    have hll := hL5.lv.len
    -- too deep
    refine q_when (b := decide ((st1.length : Int) > 21)) (et_test (ev_is (ev_op (x := .int (st1.length : Int)) (y := .int 21) (fun H6 e6 Q' q' => ⟨_, rfl, L, _, rfl, .inl (sq_of (e6 _ _ hL5.at_)), by rw [List.length_map, List.length_reverse, hll.1]; exact q' H6 (Ex.refl _)⟩) (ev_op ev_c ev_c rv_I0) rv_I0) rfl)) (fun c H6 e6 => ?_) fun c H6 e6 => ?_
    · have c := of_decide_eq_true c
      exact s_ret ev_c fun H7 e7 => qf (by rw [c1, if_pos (by omega)]) H7 (low (e6.trans e7))
    have c := of_decide_eq_false c
    rw [if_neg (by omega)] at c1
    have hL6 := hL5.up e6
    refine q_mid (fun H8 => ∃ (st2 : St) (W2 : Hp) (rs2 ls2 : List Addr), takeL st p = (closers (behind p)).foldlM popL st2 ∧ Base st2 ∧ (∀ e ∈ st2, e.2.length ≤ B + 1) ∧ st2.length ≤ 21 ∧ Ex W W2 ∧ Lev H8 W2 L st2 rs2 ls2) (fun N n => ?mid) fun H8 ⟨st2, W2, rs2, ls2, c2, sb2, b2, l2, eW, hL8⟩ => ?loop
    case mid =>
      refine s_if (b := isPlain (plainOf (behind p))) (et_B (ev_plainT (ev_var rfl) (by omega))) (fun c3 H7 e7 => ?_) fun c3 H7 e7 => ?_
      · rw [if_pos c3] at c1
        have hL7 := hL6.up e7
        have hll7 := hL7.lv.len
        cases st1 with
        | nil => exact absurd rfl sb1.ne
        | cons top st1 =>
          obtain ⟨k, ds⟩ := top
          cases rs' with
          | nil => cases hll7.1
          | cons r rs' =>
            cases ls' with
            | nil => cases hll7.2
            | cons l ls' =>
              have bk := b1 (k, ds) List.mem_cons_self
              refine s_addL (d := plainVal (plainOf (behind p))) hL7 rfl (by simp only at bk; omega) (fun H8 e8 Q' q' => ⟨_, rfl, rfl, plainOf (behind p), rfl, by omega, fun H9 e9 => q' _ H9 W e9 (Ex.refl _) (plain_dq _ _) fun b o hb => ⟨e9 _ _ (e8 _ _ (hL7.rest b o hb).1), (hL7.rest b o hb).2⟩⟩) fun H8 W2 eW h8 => n H8 ⟨_, W2, _, _, c1, sb1.add, fun e he => ?_, by simp only [List.length_cons] at c ⊢; omega, eW, h8⟩
              rcases List.mem_cons.mp he with rfl | he
              · simp only [List.length_append, List.length_singleton] at bk ⊢; omega
              · have := b1 e (List.mem_cons_of_mem _ he); omega
      · rw [if_neg (by rw [c3]; decide)] at c1
        refine s_when (b := !(decide (plainOf (behind p) = [])) || (decide (openers p = []) || decide (closers (behind p) = []))) (et_or (et_test (ev_is (ev_op (ev_var rfl) ev_c (rv_ne rfl)) (congrArg (fun b => V.bl !b) (s_dec _ [])))) fun _ => et_or (et_test (ev_is (ev_op (ev_var rfl) ev_c (rv_eq rfl)) (congrArg V.bl (s_dec _ [])))) fun _ => et_test (ev_is (ev_op (ev_var rfl) ev_c (rv_eq rfl)) (congrArg V.bl (s_dec _ [])))) (fun c4 H8 e8 => ?_) fun c4 H8 e8 => ?_
        · simp only [Bool.or_eq_true, Bool.not_eq_true', decide_eq_true_eq, decide_eq_false_iff_not] at c4
          exact s_ret ev_c fun H9 e9 => qf (by rw [c1, if_pos c4]) H9 (low (e6.trans (e7.trans (e8.trans e9))))
        · simp only [Bool.or_eq_false_iff, Bool.not_eq_false', decide_eq_true_eq, decide_eq_false_iff_not] at c4
          refine n H8 ⟨st1, W, rs', ls', by rw [c1, if_neg (by rintro (z | z | z); exact z c4.1; exact c4.2.1 z; exact c4.2.2 z)], sb1, fun e he => by have := b1 e he; omega, by omega, Ex.refl _, hL6.up (e7.trans e8)⟩
    case loop =>
      have cx : ∀ {i x : Nat}, (closers (behind p))[i]? = some x → isClose x = true := fun {i x} h => by
        have m := List.mem_of_getElem? h
        unfold closers at m
        have m := List.mem_reverse.mp m
        obtain ⟨j, hj, e⟩ := List.getElem_of_mem m
        exact all_tw (i := j) (t := (behind p).reverse) (by rw [List.getElem?_eq_getElem hj, e])
      refine q_forStr (t := closers (behind p)) (ev_var rfl) (fun i σ' H' => ∃ v6 v7 v8, σ' = [some (.ref L), some (.str (SX.S p)), some (.str (SX.S (behind p))), some (.str (SX.S (plainOf (behind p)))), some (.str (SX.S (openers p))), some (.str (SX.S (closers (behind p)))), v6, v7, v8] ∧ ∃ (st3 : St) (W3 : Hp) (rs3 ls3 : List Addr), ((closers (behind p)).take i).foldlM popL st2 = some st3 ∧ Base st3 ∧ (∀ e ∈ st3, e.2.length ≤ B + 1 + i) ∧ st3.length ≤ 21 ∧ Ex W W3 ∧ Lev H' W3 L st3 rs3 ls3)
        (fun H9 e9 => ⟨_, _, _, rfl, st2, W2, rs2, ls2, rfl, sb2, b2, l2, eW, hL8.up e9⟩) ?pop ?done
      case done =>
        rintro σ' H9 ⟨v6, v7, v8, rfl, st3, W3, rs3, ls3, hf, sb3, b3, l3, eW3, hL9⟩
        rw [List.take_length] at hf
        exact s_ret ev_c fun H10 e10 => qt st3 (by rw [c2, hf]) sb3 (fun e he => by have := b3 e he; omega) l3 H10 W3 rs3 ls3 eW3 (hL9.up e10)
      case pop =>
        rintro i x σ' H9 hx ⟨v6, v7, v8, rfl, st3, W3, rs3, ls3, hf, sb3, b3, l3, eW3, hL9⟩
        have ox := close_or (cx hx)
        have il : i < (closers (behind p)).length := (List.getElem?_eq_some_iff.mp hx).1
        have tot : (closers (behind p)).foldlM popL st2 = (popL st3 x).bind fun s => ((closers (behind p)).drop (i + 1)).foldlM popL s := by
          have e : closers (behind p) = (closers (behind p)).take i ++ x :: (closers (behind p)).drop (i + 1) := by
            have := List.drop_eq_getElem_cons il
            rw [(List.getElem?_eq_some_iff.mp hx).2] at this
            rw [← this, List.take_append_drop]
          have g : ∀ cs, cs = (closers (behind p)).take i ++ x :: (closers (behind p)).drop (i + 1) → cs.foldlM popL st2 = (popL st3 x).bind fun s => ((closers (behind p)).drop (i + 1)).foldlM popL s := fun cs ec => by
            rw [ec, List.foldlM_append, hf]
            rfl
          exact g _ e
        have hll9 := hL9.lv.len
        cases st3 with
        | nil => exact absurd rfl sb3.ne
        | cons top st4 =>
          obtain ⟨k, ds⟩ := top
          cases rs3 with
          | nil => cases hll9.1
          | cons r rs4 =>
            cases ls3 with
            | nil => cases hll9.2
            | cons l ls4 =>
              have hlv := hL9.lv
              cases hlv with
              | @cons _ _ _ _ _ _ _ xs h1 h2 h3 h4 h5 =>
                dsimp only [List.set]
                refine (ev_op (ev_var rfl) (ev_un ev_c ru_neg) (rv_ixL (sq_of hL9.at_) (at_lastA r rs4))) _ (Ex.refl _) _ fun HA eA => ?_
                refine Wlk.two_go (eA _ _ h1) ?_
                dsimp only [List.set]
                have sx : cloS k = SX.S [x] → k = x := fun z => by
                  unfold cloS at z
                  by_cases k0 : k = 0
                  · rw [if_pos k0] at z
                    have := SX.S_inj z
                    cases this
                  · rw [if_neg k0] at z
                    have := SX.S_inj z
                    injection this
                refine q_when (b := !(decide (cloS k = SX.S [x]))) (et_test (ev_is (ev_op (ev_var rfl) (ev_var rfl) (rv_ne rfl)) (congrArg (fun b => V.bl !b) (str_dec _ _)))) (fun c5 HB eB => ?_) fun c5 HB eB => ?_
                · have nk : k ≠ x := fun z => by
                    have : cloS k = SX.S [x] := by unfold cloS; rw [if_neg (by omega), z]
                    rw [decide_eq_true this] at c5
                    cases c5
                  have pn : popL ((k, ds) :: st4) x = none := by
                    cases st4 with
                    | nil => rfl
                    | cons t2 st5 => obtain ⟨k2, ys⟩ := t2; exact pop_other nk
                  refine s_ret ev_c fun HC eC => qf (by rw [c2, tot, pn]; rfl) HC fun b o hb => eC _ _ (eB _ _ (eA _ _ (hL9.rest b o (eW3 b o hb)).1))
                · have kx : k = x := sx (by simpa using c5)
                  subst kx
                  have sb4 := sb3.tail (by omega)
                  have hLB := hL9.up (eA.trans eB)
                  refine ⟨_, rfl, .inl ⟨rfl, _, sq_of hLB.at_⟩, L, _, .ref r, rfl, rfl, hLB.at_, by simp, ?_⟩
                  have dl : ((r :: rs4).reverse.map V.ref).dropLast = rs4.reverse.map V.ref := by simp
                  rw [dl]
                  have hP := hLB.pop
                  have hll4 := hP.lv.len
                  have nd9 := List.nodup_cons.mp hLB.nd
                  have hl9 := (eA.trans eB) _ _ h2
                  have Ll : l ≠ L := fun z => nd9.1 (z ▸ List.mem_cons_self)
                  cases st4 with
                  | nil => exact absurd rfl sb4.ne
                  | cons t2 st5 =>
                    obtain ⟨k2, ys⟩ := t2
                    cases rs4 with
                    | nil => cases hll4.1
                    | cons r2 rs5 =>
                      cases ls4 with
                      | nil => cases hll4.2
                      | cons l2 ls5 =>
                        have by_ := b3 (k2, ys) (List.mem_cons_of_mem _ List.mem_cons_self)
                        refine s_addL (d := mkV k ds) hP rfl (by simp only at by_; omega) (fun H1 e1 Q' q' => ?val) fun H' W' eW' h' => ⟨_, _, _, rfl, _, W', _, _, ?fold, sb4.add, fun e he => ?bnd, by simp only [List.length_cons] at l3 ⊢; omega, eW3.trans eW', h'⟩
                        case fold =>
                          rw [List.take_succ, hx, List.foldlM_append, hf]
                          show (popL ((k, ds) :: (k2, ys) :: st5) k >>= fun s => some s) = _
                          rw [pop_same]
                          rfl
                        case bnd =>
                          rcases List.mem_cons.mp he with rfl | he
                          · simp only [List.length_append, List.length_singleton] at by_ ⊢; omega
                          · have := b3 e (List.mem_cons_of_mem _ (List.mem_cons_of_mem _ he)); omega
                        case val =>
                          have hl1 : H1 l = some (.lst xs) := e1 _ _ (upd_other hl9 Ll)
                          have Wl : W3 l = none := by
                            cases hw : W3 l with
                            | none => rfl
                            | some o => exact absurd (List.mem_cons_of_mem _ List.mem_cons_self) (hL9.rest l o hw).2
                          refine (et_test (ev_is (ev_op (ev_var rfl) ev_c (rv_eq rfl)) (congrArg V.bl (s_dec [k] [41])))) H1 (Ex.refl _) _ fun H2 e2 => ?_
                          by_cases k41 : k = 41
                          · rw [if_pos (by rw [k41]; rfl)]
                            refine ⟨_, rfl, l, xs, rfl, .inl ⟨sq_of (e2 _ _ hl1), fun tN nt => ?_⟩⟩
                            have low2 : ∀ b o, W3 b = some o → H2 b = some o ∧ b ∉ L :: l2 :: ls5 := fun b o hb => ⟨e2 _ _ (e1 _ _ (hP.rest b o hb).1), (hP.rest b o hb).2⟩
                            have nW : W3 tN = none := by
                              cases hw : W3 tN with
                              | none => rfl
                              | some o => have := (low2 tN o hw).1; rw [nt] at this; cases this
                            refine q' (.ref tN) _ (upd W3 tN (.tup xs)) (e2.trans (Ex.new nt)) (Ex.new nW) ?_ fun b o hb => ?_
                            · rw [show mkV k ds = .tuple ds by unfold mkV; rw [if_pos k41]]
                              exact .tup upd_same (dqAll_up (Ex.new nW) h3)
                            · by_cases z : b = tN
                              · subst z
                                rw [upd_same] at hb
                                cases hb
                                refine ⟨upd_same, fun m => ?_⟩
                                rcases List.mem_cons.mp m with m | m
                                · have := e2 _ _ (e1 _ _ hP.at_); rw [← m, nt] at this; cases this
                                · obtain ⟨zs, hz⟩ := hP.lv.lst b m
                                  have := e2 _ _ (e1 _ _ hz)
                                  rw [nt] at this
                                  cases this
                              · rw [upd_ne z] at hb
                                exact ⟨upd_other (low2 b o hb).1 z, (low2 b o hb).2⟩
                          · rw [if_neg (by simp [k41])]
                            refine ⟨_, rfl, q' (.ref l) H2 (upd W3 l (.lst xs)) e2 (Ex.new Wl) ?_ fun b o hb => ?_⟩
                            · rw [show mkV k ds = .list ds by unfold mkV; rw [if_neg k41]]
                              exact .lst (by rw [dqAll_len h3]; omega) upd_same (dqAll_up (Ex.new Wl) h3)
                            · by_cases z : b = l
                              · subst z
                                rw [upd_same] at hb
                                cases hb
                                refine ⟨e2 _ _ hl1, fun m => ?_⟩
                                rcases List.mem_cons.mp m with m | m
                                · exact Ll m
                                · exact (List.nodup_cons.mp nd9.2).1 m
                              · rw [upd_ne z] at hb
                                exact ⟨e2 _ _ (e1 _ _ (hP.rest b o hb).1), (hP.rest b o hb).2⟩
end
end N40
set_option maxHeartbeats 4000000
/-! k40: read_value. -/
namespace N40
open PySem PySem.Spec PyProof.Rows L2 Evl Pd Gd Us Chk Lw Wlk
abbrev sRead : Stmt := Tp.s_read_value
abbrev nRead : List Str := ["text", "levels", "piece", "outermost"]
theorem scRead : FnScope nRead ["text"] (defScope sRead) := ⟨rfl, rfl, rfl, by decide +kernel, rfl, by decide +kernel, by decide +kernel⟩
theorem spl_join_back (t : List Nat) : TL.joinL [32] (TL.spl [32] 0 [] t) = t := by
  have e := PySem.StrLaws.join_split (SX.S t) (SX.S [32])
  rw [SX.split_S (by decide) (by decide), ← TL.join_eq, SX.join_S] at e
  exact SX.S_inj e
theorem join_len : ∀ {ps : List (List Nat)}, ps ≠ [] → (TL.joinL [32] ps).length + 1 = (ps.map fun p => p.length + 1).sum
  | [], h => absurd rfl h
  | [p], _ => by rw [join_one]; simp
  | p :: q :: ps, _ => by
    have ih := join_len (ps := q :: ps) (by simp)
    rw [join_cons, List.map_cons, List.sum_cons, ← ih]
    simp only [List.length_append, List.length_cons, List.length_nil]
    omega
theorem spl_sum (t : List Nat) : ((TL.spl [32] 0 [] t).map fun p => p.length + 1).sum ≤ t.length + 1 := by
  cases h : TL.spl [32] 0 [] t with
  | nil => exact Nat.zero_le _
  | cons p ps =>
    have := join_len (ps := p :: ps) (by simp)
    rw [← h, spl_join_back] at this
    rw [← h]
    omega
theorem sum_take_le (l : List Nat) : ∀ i, (l.take i).sum ≤ l.sum := by
  induction l with
  | nil => intro i; simp
  | cons a r ih => intro i; cases i with
    | zero => simp
    | succ i => simp only [List.take_succ_cons, List.sum_cons]; have := ih i; omega
theorem at0 {α : Type} {xs : List α} {x : α} (h : xs[0]? = some x) : atI xs 0 = some x := by
  have l : 0 < xs.length := (List.getElem?_eq_some_iff.mp h).1
  unfold atI ixN
  rw [if_pos (by decide), if_pos (by omega)]
  exact h
theorem Lv.bottom {H W : Hp} {st : St} {rs ls : List Addr} (h : Lv H W st rs ls) (ne : st ≠ []) : ∃ (r l : Addr) (c : V) (xs : List V), (rs.reverse.map V.ref)[0]? = some (.ref r) ∧ H r = some (.tup [c, .ref l]) ∧ H l = some (.lst xs) ∧ ∀ k ds, st = [(k, ds)] → DqAll W xs ds := by
  induction h with
  | nil => exact absurd rfl ne
  | @cons k ds st r l rs ls xs h1 h2 h3 h4 h5 ih =>
    cases st with
    | nil => cases h5; exact ⟨r, l, _, xs, rfl, h1, h2, fun k' ds' e => by cases e; exact h3⟩
    | cons a st =>
      obtain ⟨r2, l2, c, ys, g1, g2, g3, _⟩ := ih (by simp)
      refine ⟨r2, l2, c, ys, ?_, g2, g3, fun k' ds' e => by cases e⟩
      have lt : 0 < (rs.reverse.map V.ref).length := (List.getElem?_eq_some_iff.mp g1).1
      rw [List.reverse_cons, List.map_append, List.getElem?_append_left lt]
      exact g1
def spRead (CB : Addr) : Sp := fun vs H Q E => vs.length = 1 ∧ ((∃ t : List Nat, vs = [.str (SX.S t)] ∧ t.length ≤ 15000 ∧ (∀ d, readL t = some d → ∀ v H', Ex H H' → Dq H' v d → Q v H') ∧ (readL t = none → ErrQ CB (.str (SX.S t)) H E)) ∨ ∃ x d, vs = [x] ∧ Dq H x d ∧ isS d = false ∧ ErrQ CB x H E)
section
variable {P : Program} {w : World} {K : PySem.W.Frag} {mg : Str → Option Value} {base : Heap} {CB fB : Addr}
theorem ok_read (D : Dn K mg "read_value" sRead) (B : Bc mg) (EB : Err.ErrC K CB fB "value") (mB : mg "BadText" = some (.ref CB)) (UT : Use P w K mg base 3 "take" ["levels", "piece"] spTake) : UseX P w K mg base 4 "read_value" ["text"] (spRead CB) := by
  refine useX_of D scRead (fun f fd F => F.binds (ps := ["text"]) fun _ _ _ _ _ _ us hl => match us, hl with | [_], _ => rfl) (fun vs H Q E h => h.1) (fun f cdv A outer s H vs Q E hr h => ?_)
  have nd := scRead.nd
  refine ⟨_, pss_cons (ps_if (pt_not (pt_val (pe_isi (by rfl) B.isi (by rfl) B.str Chk.boot_str (pv 0)))) (pss_one (ps_raise rfl (takes_of rfl rfl rfl rfl) (Err.pmk_err EB pf_value (hr.mono (by decide)) mB (by rfl) (pv 0) (fun _ _ _ _ _ _ _ _ _ _ _ _ _ _ => rfl)))) pss_nil)
    (pss_cons (ps_set (i := 1) nd rfl (Or.inl rfl) (pe_lst (pa_cons (pe_tup (pa_cons pe_str (pa_cons (pe_lst pa_nil) pa_nil))) pa_nil)))
    (pss_cons (ps_for (passes_of rfl) rfl (pi_list (pe_split (pv 0) pe_str)) (pg_name (i := 2) nd rfl (Or.inl rfl)) (pss_one (ps_if (pt_not (pt_val (pe_use UT hr (by decide) (by rfl) (pa_cons (pv 1) (pa_cons (pv 2) pa_nil))))) (pss_one (ps_raise rfl (takes_of rfl rfl rfl rfl) (Err.pmk_err EB pf_value (hr.mono (by decide)) mB (by rfl) (pv 0) (fun _ _ _ _ _ _ _ _ _ _ _ _ _ _ => rfl)))) pss_nil)))
    (pss_cons (ps_set (i := 3) nd rfl (Or.inl rfl) (pe_ix (r := rIxT K) ix_tup (pe_ix (r := rIxL K) ix_list (pv 1) pe_int (fun _ _ => rfl)) pe_int (fun _ _ => rfl)))
    (pss_cons (ps_if (PW.pt (pw_or (pt_cmpR op_gt (pe_callB call_len_seq (by rfl) B.len PySem.boot_len (pa_cons (pv 1) pa_nil)) pe_int (nomark _)) (pw_or1 (pt_cmpR op_ne (pe_callB call_len_seq (by rfl) B.len PySem.boot_len (pa_cons (pv 3) pa_nil)) pe_int (nomark _))))) (pss_one (ps_raise rfl (takes_of rfl rfl rfl rfl) (Err.pmk_err EB pf_value (hr.mono (by decide)) mB (by rfl) (pv 0) (fun _ _ _ _ _ _ _ _ _ _ _ _ _ _ => rfl)))) pss_nil)
    (pss_one (ps_ret (pe_ix (r := rIxL K) ix_list (pv 3) pe_int (fun _ _ => rfl)))))))), ?_⟩
  obtain ⟨_, ⟨t, rfl, lt, good, bad⟩ | ⟨x, d, rfl, hd, nS, bad⟩⟩ := h
  case inr =>
    exact q_when (b := true) (et_is (et_not (et_B (ev_isi (K := K) (kit_str d) (p_var rfl mo_de (dq_dp hd))))) (by rw [nS]; rfl)) (fun _ H1 e1 => ⟨x, rfl, fun o ho => bad o H1 e1 ho⟩) fun z => nomatch z
  refine q_when (b := false) (et_is (et_not (et_B (ev_isi (K := K) (d := .str (SX.S t)) (kit_str _) (p_var rfl mo_de (.str _))))) rfl) (fun z => nomatch z) fun _ H1 e1 => ?_
  -- levels = [('', [])]
  refine ⟨Nat.zero_le _, fun l nl => ⟨show 2 ≤ sizeLine by decide, fun r nr => ⟨show 1 ≤ sizeLine by decide, fun L nL => ?_⟩⟩⟩
  have nlr : r ≠ l := fun z => by rw [z, upd_same] at nr; cases nr
  have nrH : H1 r = none := by rwa [upd_ne nlr] at nr
  have Lr : L ≠ r := fun z => by rw [z, upd_same] at nL; cases nL
  have Ll : L ≠ l := fun z => by rw [z, upd_ne (fun q => nlr q.symm), upd_same] at nL; cases nL
  have nLH : H1 L = none := by rwa [upd_ne Lr, upd_ne Ll] at nL
  have lev0 : Lev (upd (upd (upd H1 l (.lst [])) r (.tup [.str "", .ref l])) L (.lst [.ref r])) H1 L [(0, [])] [r] [l] := by
    refine ⟨upd_same, .cons (xs := []) (upd_other (show _ = some (.tup [.str (cloS 0), .ref l]) from upd_same) (fun z => Lr z.symm)) (upd_other (upd_other upd_same fun z => nlr z.symm) fun z => Ll z.symm) .nil (Nat.zero_le _) .nil, by simp [Ll], fun b o hb => ⟨upd_other (upd_other (upd_other hb (fun z => by rw [z, nl] at hb; cases hb)) (fun z => by rw [z, nrH] at hb; cases hb)) (fun z => by rw [z, nLH] at hb; cases hb), fun m => ?_⟩⟩
    simp only [List.mem_cons, List.not_mem_nil, or_false] at m
    rcases m with m | m
    · rw [m, nLH] at hb; cases hb
    · rw [m, nl] at hb; cases hb
  dsimp only [List.set]
  refine ⟨.str (SX.S t), rfl, ⟨_, rfl⟩, SX.S t, SX.S [32], rfl, rfl, by rw [SX.S_len]; rfl, by rw [SX.S_len]; exact sz_of (by omega), fun a na => ?_⟩
  rw [SX.split_S (by decide) (by decide)]
  have sm := spl_sum t
  generalize hps : TL.spl [32] 0 [] t = ps at *
  have rdL : readL t = readP ps := by unfold readL; rw [hps]
  have La : a ≠ L := fun z => by rw [z, upd_same] at na; cases na
  have ra : a ≠ r := fun z => by rw [z, upd_ne (fun q => Lr q.symm), upd_same] at na; cases na
  have la : a ≠ l := fun z => by rw [z, upd_ne (fun q => Ll q.symm), upd_ne (fun q => nlr q.symm), upd_same] at na; cases na
  have naH : H1 a = none := by rwa [upd_ne La, upd_ne ra, upd_ne la] at na
  have lev1 : Lev (upd (upd (upd (upd H1 l (.lst [])) r (.tup [.str "", .ref l])) L (.lst [.ref r])) a (.lst ((ps.map SX.S).map V.str))) (upd H1 a (.lst ((ps.map SX.S).map V.str))) L [(0, [])] [r] [l] := by
    have u := lev0.up (Ex.new (o := .lst ((ps.map SX.S).map V.str)) na)
    refine ⟨u.at_, u.lv.data (Ex.new naH), u.nd, fun b o hb => ?_⟩
    by_cases z : b = a
    · subst z
      rw [upd_same] at hb
      cases hb
      exact ⟨upd_same, by simp [La, la]⟩
    · rw [upd_ne z] at hb
      exact u.rest b o hb
  refine ⟨a, rfl, ⟨_, sq_of upd_same⟩, for_it (walk_list (K := K) (a := a) (xs := (ps.map SX.S).map V.str)) (fun i σ' H' => ∃ v2, σ' = [some (.str (SX.S t)), some (.ref L), v2, none] ∧ ∃ (st : St) (W : Hp) (rs ls : List Addr), (ps.take i).foldlM takeL [(0, [])] = some st ∧ Base st ∧ (∀ e ∈ st, e.2.length ≤ ((ps.take i).map fun p => p.length + 1).sum) ∧ st.length ≤ 21 ∧ Ex (upd H1 a (.lst ((ps.map SX.S).map V.str))) W ∧ Lev H' W L st rs ls)
    ⟨_, rfl, [(0, [])], _, [r], [l], rfl, ⟨[], [], rfl⟩, fun e he => by rw [List.mem_singleton.mp he]; exact Nat.zero_le _, by decide, Ex.refl _, lev1⟩ (fun i σ' H' _ ⟨_, _, _, W, _, _, _, _, _, _, eW, hL⟩ => sq_of (hL.rest a _ (eW a _ upd_same)).1) (fun i x σ' H5 H6 hi p yy => ?_) fun σ' H5 p => ?_⟩
  · obtain ⟨v2, rfl, st, W, rs, ls, hf, sb, bd, sl, eW, hL⟩ := p
    obtain ⟨rfl, hv⟩ := yy
    rw [List.map_map, List.getElem?_map] at hv
    obtain ⟨p, hp, rfl⟩ := Option.map_eq_some_iff.mp hv
    have il : i < ps.length := (List.getElem?_eq_some_iff.mp hp).1
    have bsum : ((ps.take (i + 1)).map fun p => p.length + 1).sum = ((ps.take i).map fun p => p.length + 1).sum + (p.length + 1) := by
      rw [List.take_succ, hp, List.map_append, List.sum_append]
      simp
    have ble : ((ps.take (i + 1)).map fun p => p.length + 1).sum ≤ t.length + 1 := by
      rw [List.map_take]
      exact Nat.le_trans (sum_take_le _ _) sm
    have tk : ∀ o, takeL st p = o → (ps.take (i + 1)).foldlM takeL [(0, [])] = o := fun o ho => by
      rw [List.take_succ, hp, List.foldlM_append, hf]
      show (takeL st p >>= fun s => some s) = o
      rw [ho]
      cases o <;> rfl
    have none_all : takeL st p = none → readL t = none := fun z => by
      rw [rdL]
      refine readP_none ?_
      have e : ps = ps.take (i + 1) ++ ps.drop (i + 1) := (List.take_append_drop _ _).symm
      have g : ∀ qs, qs = ps.take (i + 1) ++ ps.drop (i + 1) → qs.foldlM takeL [(0, [])] = none := fun qs eq => by
        rw [eq, List.foldlM_append, tk none z]
        rfl
      exact g _ e
    dsimp only [gName, List.set]
    have low : ∀ {Hx : Hp}, Ex W Hx → Ex H1 Hx := fun ex b o hb => ex _ _ (eW b o (upd_other hb fun z => by rw [z, naH] at hb; cases hb))
    refine ⟨_, rfl, _, rfl, rfl, L, p, W, st, rs, ls, ((ps.take i).map fun p => p.length + 1).sum, rfl, hL, sb, bd, by omega, by omega, by omega, fun z H' ex => ⟨false, rfl, ?_⟩, fun st' z sb' bd' sl' H' W' rs' ls' eW' hL' => ⟨true, rfl, ?_⟩⟩
    · dsimp only
      rw [if_pos (show (!false) = true from rfl)]
      exact ⟨_, rfl, fun o ho => bad (none_all z) o H' (e1.trans (low ex)) ho⟩
    · dsimp only
      rw [if_neg (by decide)]
      exact ⟨_, rfl, st', W', rs', ls', tk _ z, sb', fun e he => by have := bd' e he; omega, sl', eW.trans eW', hL'⟩
  · obtain ⟨v2, rfl, st, W, rs, ls, hf, sb, bd, sl, eW, hL⟩ := p
    rw [List.take_of_length_le (by simp)] at hf
    have low : ∀ {Hx : Hp}, Ex H5 Hx → Ex H Hx := fun ex b o hb => ex _ _ (hL.rest b o (eW b o (upd_other (e1 _ _ hb) fun z => by have := e1 _ _ hb; rw [z, naH] at this; cases this))).1
    obtain ⟨rb, lb, cb, xs, g1, g2, g3, g4⟩ := hL.lv.bottom sb.ne
    have hll := hL.lv.len
    refine d_asg (P := Is (.ref lb)) (.of (ev_op (ev_op (ev_var rfl) ev_c (rv_ixL (sq_of hL.at_) (at0 g1))) ev_c (rv_ixT (st_of g2) rfl)) mo_is rfl) fun v H6 e6 ev => ?_
    cases ev
    dsimp only [List.set]
    have hL6 := hL.up e6
    refine q_when (b := decide ((st.length : Int) > 1) || !(decide (V.int (xs.length : Int) = V.int 1))) (et_or (et_test (ev_is (ev_op (x := .int (st.length : Int)) (y := .int 1) (fun H7 e7 Q' q' => ⟨_, rfl, L, _, rfl, .inl (sq_of (e7 _ _ hL6.at_)), by rw [List.length_map, List.length_reverse, hll.1]; exact q' H7 (Ex.refl _)⟩) ev_c rv_I0) rfl)) fun _ => et_test (ev_is (ev_op (x := .int (xs.length : Int)) (y := .int 1) (fun H7 e7 Q' q' => ⟨_, rfl, lb, _, rfl, .inl (sq_of (e7 _ _ (e6 _ _ g3))), q' H7 (Ex.refl _)⟩) ev_c (rv_ne rfl)) rfl)) (fun c H7 e7 => ?_) fun c H7 e7 => ?_
    · refine ⟨_, rfl, fun o ho => bad ?_ o H7 (low (e6.trans e7)) ho⟩
      rw [rdL]
      unfold readP
      rw [hf]
      cases st with
      | nil => rfl
      | cons a st =>
        cases st with
        | cons b st =>
          obtain ⟨k, ds⟩ := a
          cases ds with
          | nil => rfl
          | cons d1 ds => cases ds <;> rfl
        | nil =>
          obtain ⟨k, ds⟩ := a
          have dl := dqAll_len (g4 k ds rfl)
          cases ds with
          | nil => rfl
          | cons d1 ds =>
            cases ds with
            | cons d2 ds => rfl
            | nil =>
              rw [dl] at c
              simp at c
    · have c1 : ¬ ((st.length : Int) > 1) := fun z => by rw [decide_eq_true z] at c; cases c
      have c2 : V.int (xs.length : Int) = V.int 1 := by
        cases h : decide (V.int (xs.length : Int) = V.int 1) with
        | true => exact of_decide_eq_true h
        | false => rw [h, Bool.or_comm] at c; cases c
      have x1 : xs.length = 1 := by have := V.int.inj c2; omega
      cases st with
      | nil => exact absurd rfl sb.ne
      | cons a st =>
        cases st with
        | cons b st => exact absurd (by simp only [List.length_cons]; omega) c1
        | nil =>
          obtain ⟨k, ds⟩ := a
          have dq := g4 k ds rfl
          cases dq with
          | nil => cases x1
          | @cons v vs d1 ds1 hd hds =>
            cases hds with
            | cons _ _ => simp at x1
            | nil =>
              have rd : readL t = some d1 := by rw [rdL]; unfold readP; rw [hf]
              exact s_ret (ev_op (ev_var rfl) ev_c (rv_ixL (sq_of (e7 _ _ (e6 _ _ g3))) (at0 rfl))) fun H8 e8 => good d1 rd v H8 (low (e6.trans (e7.trans e8))) (dq_up (fun b o hb => e8 _ _ (e7 _ _ (hL6.rest b o hb).1)) hd)
end
end N40
set_option maxHeartbeats 4000000
/-! k40: str of a leaf. -/
namespace N40
open PySem PySem.Spec PyProof.Rows L2 Evl Pd Gd Us Chk Lw Wlk
def leafD : PyData → Bool
  | .none => true
  | .bool _ => true
  | .int i => decide (i.natAbs.log2 < 1920)
  | .str _ => true
  | _ => false
def rStrLeaf : List V → Hp → VK → Prop := fun xs H Q => ∃ x d, xs = [x] ∧ Dq H x d ∧ leafD d = true ∧ Q (.str (SX.S (wrL d))) H
section
variable {X : Cx}
theorem call_strLeaf : CallR X (.type "str") rStrLeaf := by
  intro pins s σ H xs us Q I r h
  obtain ⟨x, d, rfl, hd, hl, q⟩ := h
  obtain ⟨u, rfl, ru⟩ := vals1 r
  cases hd with
  | non =>
    have e : u = Value.none := ru
    subst e
    exact PySem.P.str_of_none ⟨.str _, H, I.tok _, ⟨_, rfl⟩, q⟩
  | bl b =>
    have e : u = Value.bool b := ru
    subst e
    refine PySem.P.str_of_bool ⟨.str _, H, I.tok _, ⟨_, rfl⟩, ?_⟩
    cases b <;> exact q
  | int i =>
    obtain ⟨t, rfl⟩ := ru
    refine PySem.P.str_of_int (of_decide_eq_true hl) ⟨.str _, H, I.tok _, ⟨_, rfl⟩, ?_⟩
    have : SX.S (wrL (.int i)) = Str.ofString (toString i) := SX.S_tl _
    rw [← this]
    exact q
  | str y =>
    obtain ⟨t, rfl⟩ := ru
    refine PySem.P.str_of_str ⟨.str y, H, I, ⟨_, rfl⟩, ?_⟩
    have : SX.S (wrL (.str y)) = y := SX.S_tl _
    rw [← this]
    exact q
  | lst _ _ _ => cases hl
  | tup _ _ => cases hl
end
end N40
set_option maxHeartbeats 4000000
/-! k40: write_value. -/
namespace N40
open PySem PySem.Spec PyProof.Rows L2 Evl Pd Gd Us Chk Lw Wlk
abbrev sWrite : Stmt := Tp.s_write_value
theorem scWrite : FnScope ["value", "one"] ["value"] (defScope sWrite) := ⟨rfl, rfl, rfl, by decide +kernel, rfl, by decide +kernel, by decide +kernel⟩
/-- what may be written, at most so deep -/
def Wr : Nat → PyData → Prop
  | 0, d => leafD d = true
  | n + 1, d => leafD d = true ∨ ∃ ds : List PyData, ds.length ≤ 1000 ∧ (∀ x ∈ ds, Wr n x) ∧ (wrL d).length ≤ 20000 ∧ (d = .tuple ds ∨ d = .list ds)
def spWrite (n : Nat) : Sp := fun vs H Q _ => vs.length = 1 ∧ ∃ x d, vs = [x] ∧ Dq H x d ∧ Wr n d ∧ ∀ H', Ex H H' → Q (.str (SX.S (wrL d))) H'
section
variable {P : Program} {w : World} {K : PySem.W.Frag} {mg : Str → Option Value} {base : Heap}
theorem leaf_not {d : PyData} (h : leafD d = true) : isT d = false ∧ isL d = false := by cases d <;> first | exact ⟨rfl, rfl⟩ | cases h
theorem ok_write0 (D : Dn K mg "write_value" sWrite) (B : Bc mg) : Use P w K mg base 1 "write_value" ["value"] (spWrite 0) := by
  refine use_of D scWrite (fun f fd F => F.binds (ps := ["value"]) fun _ _ _ _ _ _ us hl => match us, hl with | [_], _ => rfl) (fun vs H Q E h => h.1) (fun f cdv A outer s H vs Q E hr h => ?_)
  obtain ⟨_, x, d, rfl, hd, hw, q⟩ := h
  refine ⟨_, pss_cons (ps_if (pt_val (pe_isi (by rfl) B.isi (by rfl) B.tuple Chk.boot_tuple (pv 0))) (pss_one ps_never) pss_nil)
    (pss_cons (ps_if (pt_val (pe_isi (by rfl) B.isi (by rfl) B.list Chk.boot_list (pv 0))) (pss_one ps_never) pss_nil)
    (pss_one (ps_ret (pe_callTy call_strLeaf (by rfl) B.str Chk.boot_str (pa_cons (pv 0) pa_nil))))), ?_⟩
  have n := leaf_not hw
  refine q_when (b := false) (et_is (et_B (ev_isi (K := K) (kit_tuple d) (p_var rfl mo_de (dq_dp hd)))) n.1) (fun z => nomatch z) fun _ H1 e1 => ?_
  refine q_when (b := false) (et_is (et_B (ev_isi (K := K) (kit_list d) (p_var rfl mo_de (dq_dp (dq_up e1 hd))))) n.2) (fun z => nomatch z) fun _ H2 e2 => ?_
  exact s_ret (fun H3 e3 Q' q' => ⟨_, rfl, x, d, rfl, dq_up (e1.trans (e2.trans e3)) hd, hw, q' H3 (Ex.refl _)⟩) fun H3 e3 => q H3 (e1.trans (e2.trans e3))
theorem ev_joinW {σ : L2.St} {H : Hp} {te : TE} {ds : List PyData} (h : EvL te σ H (ds.map fun d => V.str (SX.S (wrL d)))) (ln : (TL.joinL [32] (ds.map wrL)).length ≤ 20000) :
    Ev (tM1 (fun x xs H Q => ∃ (a : Str) (p : Addr) (ys : List Str), x = .str a ∧ xs = [.ref p] ∧ (SqL K H p (ys.map V.str) ∨ SqT K H p (ys.map V.str)) ∧ (ys.map fun x => x.length).sum + ys.length * a.length ≤ 16777216 ∧ Q (.str (Txt.join a ys)) H) (tC (.str (" " : Str))) te) σ H (.str (SX.S (TL.joinL [32] (ds.map wrL)))) := fun H1 e Q q => by
  refine ⟨⟨_, rfl⟩, h H1 e _ fun p H2 np e2 hp => ?_⟩
  refine ⟨SX.S [32], p, (ds.map wrL).map SX.S, rfl, rfl, .inl (sq_of (by rw [hp]; simp [List.map_map, Function.comp_def])), ?_, by rw [SX.join_S]; exact q H2 e2⟩
  cases ds with
  | nil => decide
  | cons d ds =>
    have j := join_len (ps := (d :: ds).map wrL) (by simp)
    have g : ∀ l : List (List Nat), ((l.map SX.S).map fun x => x.length).sum + (l.map SX.S).length * (SX.S [32]).length = (l.map fun p => p.length + 1).sum := by
      intro l
      induction l with
      | nil => rfl
      | cons a r ih =>
        simp only [List.map_cons, List.sum_cons, List.length_cons, SX.S_len, List.length_map, List.length_nil] at ih ⊢
        omega
    rw [g, ← j]
    omega
theorem wr_sub {n : Nat} {ds : List PyData} {H : Hp} {xs : List V} (al : DqAll H xs ds) (hw : ∀ x ∈ ds, Wr n x) (lx : ds.length ≤ 1000) {σ : L2.St} {E : XK} (hs : ∀ x, ((wipe σ [1]).set 1 (some x))[1]? = some (some x)) (hp : ∀ x, wipe ((wipe σ [1]).set 1 (some x)) [1] = wipe σ [1]) {wi : TI} {J : It} {G : Hp → Prop} (w : Walk J xs.length G fun i H v H' => H' = H ∧ xs[i]? = some v)
    (hwi : ∀ H1, Ex H H1 → ∀ R : It → Hp → Prop, (∀ H2, Ex H1 H2 → R J H2) → wi σ H1 R) (hG : ∀ H1, Ex H H1 → G H1) : EvL (tLc wi (gName 1) tYes (tCall (spWrite n) [] E (tCons (tVar 1) tNil)) [1]) σ H (ds.map fun d => V.str (SX.S (wrL d))) := fun H2 e2 Q' q' => by
  have ll := dqAll_len al
  refine el_lcW (wi := wi) (g := gName 1) (vs := [1]) (t := tYes) (te := tCall (spWrite n) [] E (tCons (tVar 1) tNil)) (σ := σ) (H := H) (fun _ => true) (fun i => (ds[i]?).elim .non fun d => V.str (SX.S (wrL d))) w (by omega) hwi hG ?step H2 e2 Q' ?fin
  case fin =>
    intro p H3 h1 h2 h3
    refine q' p H3 h1 h2 ?_
    rw [h3, given_map]
    congr 2
    refine List.ext_getElem (by simp [ll]) fun i h1 h2 => ?_
    simp only [List.length_map, List.length_range] at h1
    simp [List.getElem?_eq_getElem (show i < ds.length by omega)]
  case step =>
    rintro i y H3 H4 hi e3 ⟨rfl, hv⟩
    obtain ⟨d, hd, dq⟩ := dqAll_at al hv
    refine ⟨Ex.refl _, _, fun k hk => hk, hp _, fun H5 _ Q5 q5 => q5 H5 (Ex.refl _), fun _ => ?_⟩
    rw [hd]
    exact fun H5 e5 Q5 q5 => ⟨y, hs _, rfl, y, d, rfl, dq_up (e3.trans e5) dq, hw d (List.mem_of_getElem? hd), fun H6 e6 => q5 H6 e6⟩
end
end N40
set_option maxHeartbeats 4000000
/-! k40: write_value, a depth more. -/
namespace N40
open PySem PySem.Spec PyProof.Rows L2 Evl Pd Gd Us Chk Lw Wlk
section
variable {P : Program} {w : World} {K : PySem.W.Frag} {mg : Str → Option Value} {base : Heap}
theorem ev_cat2 {σ : L2.St} {H : Hp} {te tb td : TE} {a t b : List Nat} (h1 : Ev tb σ H (.str (SX.S a))) (h2 : Ev te σ H (.str (SX.S t))) (h3 : Ev td σ H (.str (SX.S b))) (ln : a.length + t.length + b.length ≤ 40000) :
    Ev (tOp (fun x y H Q => ∃ i j : Str, x = .str i ∧ y = .str j ∧ i.length + j.length ≤ sizeLine ∧ Q (.str (i ++ j)) H) (tOp (fun x y H Q => ∃ i j : Str, x = .str i ∧ y = .str j ∧ i.length + j.length ≤ sizeLine ∧ Q (.str (i ++ j)) H) tb te) td) σ H (.str (SX.S (a ++ (t ++ b)))) := by
  refine ev_is (ev_op (x := .str (SX.S (a ++ t))) (ev_op h1 h2 fun H1 e Q q => ⟨_, _, rfl, rfl, by rw [SX.S_len, SX.S_len]; exact sz_of (by omega), by rw [SX.S_cat]; exact q H1 (Ex.refl _)⟩) h3 fun H1 e Q q => ⟨_, _, rfl, rfl, by rw [SX.S_len, SX.S_len, List.length_append]; exact sz_of (by omega), by rw [SX.S_cat]; exact q H1 (Ex.refl _)⟩) (by rw [List.append_assoc])
theorem ok_writeS {n : Nat} (D : Dn K mg "write_value" sWrite) (B : Bc mg) (U : Use P w K mg base (n + 1) "write_value" ["value"] (spWrite n)) : Use P w K mg base (n + 2) "write_value" ["value"] (spWrite (n + 1)) := by
  refine use_of D scWrite (fun f fd F => F.binds (ps := ["value"]) fun _ _ _ _ _ _ us hl => match us, hl with | [_], _ => rfl) (fun vs H Q E h => h.1) (fun f cdv A outer s H vs Q E hr h => ?_)
  obtain ⟨_, x, d, rfl, hd, hw, q⟩ := h
  have nd := scWrite.nd
  refine ⟨_, pss_cons (ps_if (pt_val (pe_isi (by rfl) B.isi (by rfl) B.tuple Chk.boot_tuple (pv 0))) (pss_one (ps_ret (pe_op op_add_str (pe_op op_add_str pe_str (pe_join pe_str (pe_lc (own := [("one", 1)]) (g := gName 1) (tt := tYes) rfl nd (pi_tup (pv 0)) (blkOk_by (N := ["value", "one"]) (sc := defScope sWrite) (by decide +kernel))
      (fun _ _ _ _ _ => pg_name (i := 1) nd rfl (Or.inl rfl)) (fun _ _ _ _ _ => pts_nil) (fun _ _ _ _ _ => pe_use U hr (Nat.le_refl _) (by rfl) (pa_cons (pv 1) pa_nil))))) pe_str))) pss_nil)
    (pss_cons (ps_if (pt_val (pe_isi (by rfl) B.isi (by rfl) B.list Chk.boot_list (pv 0))) (pss_one (ps_ret (pe_op op_add_str (pe_op op_add_str pe_str (pe_join pe_str (pe_lc (own := [("one", 1)]) (g := gName 1) (tt := tYes) rfl nd (pi_list (pv 0)) (blkOk_by (N := ["value", "one"]) (sc := defScope sWrite) (by decide +kernel))
      (fun _ _ _ _ _ => pg_name (i := 1) nd rfl (Or.inl rfl)) (fun _ _ _ _ _ => pts_nil) (fun _ _ _ _ _ => pe_use U hr (Nat.le_refl _) (by rfl) (pa_cons (pv 1) pa_nil))))) pe_str))) pss_nil)
    (pss_one (ps_ret (pe_callTy call_strLeaf (by rfl) B.str Chk.boot_str (pa_cons (pv 0) pa_nil))))), ?_⟩
  have e0 : ∀ {H1 : Hp}, Ex H H1 → EvP (tVar 0) (L2.start ["value", "one"] [x]) H1 (De K d) := fun e => p_var rfl mo_de (dq_dp (dq_up e hd))
  rcases hw with hl | ⟨ds, l1, hw, ll, e⟩
  · have nn := leaf_not hl
    refine q_when (b := false) (et_is (et_B (ev_isi (K := K) (kit_tuple d) (e0 (Ex.refl _)))) nn.1) (fun z => nomatch z) fun _ H1 e1 => ?_
    refine q_when (b := false) (et_is (et_B (ev_isi (K := K) (kit_list d) (e0 e1))) nn.2) (fun z => nomatch z) fun _ H2 e2 => ?_
    exact s_ret (fun H3 e3 Q' q' => ⟨_, rfl, x, d, rfl, dq_up (e1.trans (e2.trans e3)) hd, hl, q' H3 (Ex.refl _)⟩) fun H3 e3 => q H3 (e1.trans (e2.trans e3))
  · rcases e with rfl | rfl
    · have wl : wrL (.tuple ds) = [40] ++ (TL.joinL [32] (ds.map wrL) ++ [41]) := by rw [← wrAll_map]; rfl
      rw [wl] at q ll
      simp only [List.length_append, List.length_singleton] at ll
      refine q_when (b := true) (et_is (et_B (ev_isi (K := K) (kit_tuple (.tuple ds)) (e0 (Ex.refl _)))) rfl) (fun _ H1 e1 => ?_) fun z => nomatch z
      cases hd with
      | @tup a xs _ ha al =>
        have sub : EvL (tLc (iTup K (tVar 0)) (gName 1) tYes (tCall (spWrite n) [] (fun _ _ _ => False) (tCons (tVar 1) tNil)) [1]) (L2.start ["value", "one"] [.ref a]) H1 (ds.map fun d => V.str (SX.S (wrL d))) := wr_sub (dqAll_up e1 al) hw l1 (fun _ => rfl) (fun _ => rfl) (walk_tup (K := K) (a := a) (xs := xs)) (fun H3 e3 R r => ⟨_, rfl, a, rfl, ⟨_, st_of (e3 _ _ (e1 _ _ ha))⟩, r H3 (Ex.refl _)⟩) fun H3 e3 => st_of (e3 _ _ (e1 _ _ ha))
        exact s_ret (ev_cat2 (a := [40]) (b := [41]) ev_c (ev_joinW (K := K) sub (by omega)) ev_c (by show 1 + _ + 1 ≤ 40000; omega)) fun H2 e2 => q H2 (e1.trans e2)
    · have wl : wrL (.list ds) = [91] ++ (TL.joinL [32] (ds.map wrL) ++ [93]) := by rw [← wrAll_map]; rfl
      rw [wl] at q ll
      simp only [List.length_append, List.length_singleton] at ll
      refine q_when (b := false) (et_is (et_B (ev_isi (K := K) (kit_tuple (.list ds)) (e0 (Ex.refl _)))) rfl) (fun z => nomatch z) fun _ H0 e0' => ?_
      refine q_when (b := true) (et_is (et_B (ev_isi (K := K) (kit_list (.list ds)) (e0 e0'))) rfl) (fun _ H1 e1' => ?_) fun z => nomatch z
      have e1 := e0'.trans e1'
      cases hd with
      | @lst a xs _ _ ha al =>
        have sub : EvL (tLc (iList K (tVar 0)) (gName 1) tYes (tCall (spWrite n) [] (fun _ _ _ => False) (tCons (tVar 1) tNil)) [1]) (L2.start ["value", "one"] [.ref a]) H1 (ds.map fun d => V.str (SX.S (wrL d))) := wr_sub (dqAll_up e1 al) hw l1 (fun _ => rfl) (fun _ => rfl) (walk_list (K := K) (a := a) (xs := xs)) (fun H3 e3 R r => ⟨_, rfl, a, rfl, ⟨_, sq_of (e3 _ _ (e1 _ _ ha))⟩, r H3 (Ex.refl _)⟩) fun H3 e3 => sq_of (e3 _ _ (e1 _ _ ha))
        exact s_ret (ev_cat2 (a := [91]) (b := [93]) ev_c (ev_joinW (K := K) sub (by omega)) ev_c (by show 1 + _ + 1 ≤ 40000; omega)) fun H2 e2 => q H2 (e1.trans e2)
theorem ok_write (D : Dn K mg "write_value" sWrite) (B : Bc mg) : ∀ n, Use P w K mg base (n + 1) "write_value" ["value"] (spWrite n)
  | 0 => ok_write0 D B
  | n + 1 => ok_writeS D B (ok_write D B n)
end
end N40
set_option maxHeartbeats 4000000
/-! k40: _law_text. -/
namespace N40
open PySem PySem.Spec PyProof.Rows L2 Evl Pd Gd Us Chk Lw Wlk
abbrev sLText : Stmt := Tp.s__law_text
theorem scLText : FnScope ["value", "one"] ["value"] (defScope sLText) := ⟨rfl, rfl, rfl, by decide +kernel, rfl, by decide +kernel, by decide +kernel⟩
section
variable {P : Program} {w : World} {K : PySem.W.Frag} {mg : Str → Option Value} {base : Heap}
theorem ok_text0 (D : Dn K mg "_law_text" sLText) (B : Bc mg) : Use P w K mg base 1 "_law_text" ["value"] (spWrite 0) := by
  refine use_of D scLText (fun f fd F => F.binds (ps := ["value"]) fun _ _ _ _ _ _ us hl => match us, hl with | [_], _ => rfl) (fun vs H Q E h => h.1) (fun f cdv A outer s H vs Q E hr h => ?_)
  obtain ⟨_, x, d, rfl, hd, hw, q⟩ := h
  refine ⟨_, pss_cons (ps_if (pt_val (pe_isi (by rfl) B.isi (by rfl) B.str Chk.boot_str (pv 0))) (pss_one (ps_ret (pv 0))) pss_nil)
    (pss_cons (ps_if (pt_val (pe_isi (by rfl) B.isi (by rfl) B.tuple Chk.boot_tuple (pv 0))) (pss_one ps_never) pss_nil)
    (pss_cons (ps_if (pt_val (pe_isi (by rfl) B.isi (by rfl) B.list Chk.boot_list (pv 0))) (pss_one ps_never) pss_nil)
    (pss_one (ps_ret (pe_callTy call_strLeaf (by rfl) B.str Chk.boot_str (pa_cons (pv 0) pa_nil)))))), ?_⟩
  refine q_when (b := isS d) (et_is (et_B (ev_isi (K := K) (kit_str d) (p_var rfl mo_de (dq_dp hd)))) rfl) (fun c H0 eZ => ?strcase) fun c H0 eZ => ?_
  case strcase =>
    cases hd with
    | str y =>
      have es : SX.S (wrL (.str y)) = y := SX.S_tl _
      rw [es] at q
      exact s_ret (ev_var rfl) fun H3 e3 => q H3 (eZ.trans e3)
    | _ => cases c
  replace hd := dq_up eZ hd
  replace q := fun H' (e : Ex H0 H') => q H' (eZ.trans e)
  have n := leaf_not hw
  refine q_when (b := false) (et_is (et_B (ev_isi (K := K) (kit_tuple d) (p_var rfl mo_de (dq_dp hd)))) n.1) (fun z => nomatch z) fun _ H1 e1 => ?_
  refine q_when (b := false) (et_is (et_B (ev_isi (K := K) (kit_list d) (p_var rfl mo_de (dq_dp (dq_up e1 hd))))) n.2) (fun z => nomatch z) fun _ H2 e2 => ?_
  exact s_ret (fun H3 e3 Q' q' => ⟨_, rfl, x, d, rfl, dq_up (e1.trans (e2.trans e3)) hd, hw, q' H3 (Ex.refl _)⟩) fun H3 e3 => q H3 (e1.trans (e2.trans e3))
theorem ok_textS {n : Nat} (D : Dn K mg "_law_text" sLText) (B : Bc mg) (U : Use P w K mg base (n + 1) "_law_text" ["value"] (spWrite n)) : Use P w K mg base (n + 2) "_law_text" ["value"] (spWrite (n + 1)) := by
  refine use_of D scLText (fun f fd F => F.binds (ps := ["value"]) fun _ _ _ _ _ _ us hl => match us, hl with | [_], _ => rfl) (fun vs H Q E h => h.1) (fun f cdv A outer s H vs Q E hr h => ?_)
  obtain ⟨_, x, d, rfl, hd, hw, q⟩ := h
  have nd := scLText.nd
  refine ⟨_, pss_cons (ps_if (pt_val (pe_isi (by rfl) B.isi (by rfl) B.str Chk.boot_str (pv 0))) (pss_one (ps_ret (pv 0))) pss_nil)
    (pss_cons (ps_if (pt_val (pe_isi (by rfl) B.isi (by rfl) B.tuple Chk.boot_tuple (pv 0))) (pss_one (ps_ret (pe_op op_add_str (pe_op op_add_str pe_str (pe_join pe_str (pe_lc (own := [("one", 1)]) (g := gName 1) (tt := tYes) rfl nd (pi_tup (pv 0)) (blkOk_by (N := ["value", "one"]) (sc := defScope sLText) (by decide +kernel))
      (fun _ _ _ _ _ => pg_name (i := 1) nd rfl (Or.inl rfl)) (fun _ _ _ _ _ => pts_nil) (fun _ _ _ _ _ => pe_use U hr (Nat.le_refl _) (by rfl) (pa_cons (pv 1) pa_nil))))) pe_str))) pss_nil)
    (pss_cons (ps_if (pt_val (pe_isi (by rfl) B.isi (by rfl) B.list Chk.boot_list (pv 0))) (pss_one (ps_ret (pe_op op_add_str (pe_op op_add_str pe_str (pe_join pe_str (pe_lc (own := [("one", 1)]) (g := gName 1) (tt := tYes) rfl nd (pi_list (pv 0)) (blkOk_by (N := ["value", "one"]) (sc := defScope sLText) (by decide +kernel))
      (fun _ _ _ _ _ => pg_name (i := 1) nd rfl (Or.inl rfl)) (fun _ _ _ _ _ => pts_nil) (fun _ _ _ _ _ => pe_use U hr (Nat.le_refl _) (by rfl) (pa_cons (pv 1) pa_nil))))) pe_str))) pss_nil)
    (pss_one (ps_ret (pe_callTy call_strLeaf (by rfl) B.str Chk.boot_str (pa_cons (pv 0) pa_nil)))))), ?_⟩
  refine q_when (b := isS d) (et_is (et_B (ev_isi (K := K) (kit_str d) (p_var rfl mo_de (dq_dp hd)))) rfl) (fun c H0 eZ => ?strcase) fun c H0 eZ => ?_
  case strcase =>
    cases hd with
    | str y =>
      have es : SX.S (wrL (.str y)) = y := SX.S_tl _
      rw [es] at q
      exact s_ret (ev_var rfl) fun H3 e3 => q H3 (eZ.trans e3)
    | _ => cases c
  replace hd := dq_up eZ hd
  replace q := fun H' (e : Ex H0 H') => q H' (eZ.trans e)
  have e0 : ∀ {H1 : Hp}, Ex H0 H1 → EvP (tVar 0) (L2.start ["value", "one"] [x]) H1 (De K d) := fun e => p_var rfl mo_de (dq_dp (dq_up e hd))
  rcases hw with hl | ⟨ds, l1, hw, ll, e⟩
  · have nn := leaf_not hl
    refine q_when (b := false) (et_is (et_B (ev_isi (K := K) (kit_tuple d) (e0 (Ex.refl _)))) nn.1) (fun z => nomatch z) fun _ H1 e1 => ?_
    refine q_when (b := false) (et_is (et_B (ev_isi (K := K) (kit_list d) (e0 e1))) nn.2) (fun z => nomatch z) fun _ H2 e2 => ?_
    exact s_ret (fun H3 e3 Q' q' => ⟨_, rfl, x, d, rfl, dq_up (e1.trans (e2.trans e3)) hd, hl, q' H3 (Ex.refl _)⟩) fun H3 e3 => q H3 (e1.trans (e2.trans e3))
  · rcases e with rfl | rfl
    · have wl : wrL (.tuple ds) = [40] ++ (TL.joinL [32] (ds.map wrL) ++ [41]) := by rw [← wrAll_map]; rfl
      rw [wl] at q ll
      simp only [List.length_append, List.length_singleton] at ll
      refine q_when (b := true) (et_is (et_B (ev_isi (K := K) (kit_tuple (.tuple ds)) (e0 (Ex.refl _)))) rfl) (fun _ H1 e1 => ?_) fun z => nomatch z
      cases hd with
      | @tup a xs _ ha al =>
        have sub : EvL (tLc (iTup K (tVar 0)) (gName 1) tYes (tCall (spWrite n) [] (fun _ _ _ => False) (tCons (tVar 1) tNil)) [1]) (L2.start ["value", "one"] [.ref a]) H1 (ds.map fun d => V.str (SX.S (wrL d))) := wr_sub (dqAll_up e1 al) hw l1 (fun _ => rfl) (fun _ => rfl) (walk_tup (K := K) (a := a) (xs := xs)) (fun H3 e3 R r => ⟨_, rfl, a, rfl, ⟨_, st_of (e3 _ _ (e1 _ _ ha))⟩, r H3 (Ex.refl _)⟩) fun H3 e3 => st_of (e3 _ _ (e1 _ _ ha))
        exact s_ret (ev_cat2 (a := [40]) (b := [41]) ev_c (ev_joinW (K := K) sub (by omega)) ev_c (by show 1 + _ + 1 ≤ 40000; omega)) fun H2 e2 => q H2 (e1.trans e2)
    · have wl : wrL (.list ds) = [91] ++ (TL.joinL [32] (ds.map wrL) ++ [93]) := by rw [← wrAll_map]; rfl
      rw [wl] at q ll
      simp only [List.length_append, List.length_singleton] at ll
      refine q_when (b := false) (et_is (et_B (ev_isi (K := K) (kit_tuple (.list ds)) (e0 (Ex.refl _)))) rfl) (fun z => nomatch z) fun _ H0 e0' => ?_
      refine q_when (b := true) (et_is (et_B (ev_isi (K := K) (kit_list (.list ds)) (e0 e0'))) rfl) (fun _ H1 e1' => ?_) fun z => nomatch z
      have e1 := e0'.trans e1'
      cases hd with
      | @lst a xs _ _ ha al =>
        have sub : EvL (tLc (iList K (tVar 0)) (gName 1) tYes (tCall (spWrite n) [] (fun _ _ _ => False) (tCons (tVar 1) tNil)) [1]) (L2.start ["value", "one"] [.ref a]) H1 (ds.map fun d => V.str (SX.S (wrL d))) := wr_sub (dqAll_up e1 al) hw l1 (fun _ => rfl) (fun _ => rfl) (walk_list (K := K) (a := a) (xs := xs)) (fun H3 e3 R r => ⟨_, rfl, a, rfl, ⟨_, sq_of (e3 _ _ (e1 _ _ ha))⟩, r H3 (Ex.refl _)⟩) fun H3 e3 => sq_of (e3 _ _ (e1 _ _ ha))
        exact s_ret (ev_cat2 (a := [91]) (b := [93]) ev_c (ev_joinW (K := K) sub (by omega)) ev_c (by show 1 + _ + 1 ≤ 40000; omega)) fun H2 e2 => q H2 (e1.trans e2)
theorem ok_text (D : Dn K mg "_law_text" sLText) (B : Bc mg) : ∀ n, Use P w K mg base (n + 1) "_law_text" ["value"] (spWrite n)
  | 0 => ok_text0 D B
  | n + 1 => ok_textS D B (ok_text D B n)
end
end N40
set_option maxHeartbeats 4000000
/-! k40: _law_opened. -/
namespace N40
open PySem PySem.Spec PyProof.Rows L2 Evl Pd Gd Us Chk Lw
abbrev sOpened : Stmt := Tp.s__law_opened
def spOpened (K : PySem.W.Frag) : Sp := fun vs H Q _ => vs.length = 3 ∧ ∃ (a : Addr) (ns : List Int) (k m : Int), vs = [.ref a, .int k, .int m] ∧ SqL K H a (ns.map V.int) ∧ 0 ≤ k ∧ k ≤ 100 ∧ (ns ≠ [] → k < ns.length) ∧ 0 ≤ m ∧ m ≤ 1000 ∧ ∀ x H', Ex H H' → PoolV K x H' → Q x H'
theorem scOpened : FnScope ["script", "k", "many", "cell"] ["script", "k", "many"] (defScope sOpened) := ⟨rfl, rfl, rfl, by decide +kernel, rfl, by decide +kernel, by decide +kernel⟩
section
variable {P : Program} {w : World} {K : PySem.W.Frag} {mg : Str → Option Value} {base : Heap}
theorem ok_opened (D : Dn K mg "_law_opened" sOpened) (UP : Use P w K mg base 2 "_law_pool" ["cell", "salt", "many"] (spPool K)) : Use P w K mg base 3 "_law_opened" ["script", "k", "many"] (spOpened K) := by
  refine use_of D scOpened (fun f fd F => F.binds (ps := ["script", "k", "many"]) fun _ _ _ _ _ _ us hl => match us, hl with | [_, _, _], _ => rfl) (fun vs H Q E h => h.1) (fun f cdv A outer s H vs Q E hr h => ?_)
  obtain ⟨_, a, ns, k, m, rfl, hS, k0, k1, kn, m0, m1, q⟩ := h
  have hu : (A.deeper (envOfC "_law_opened" (defScope sOpened) s.heap.objs.size f cdv)).units < cLine := by have := hr.un; omega
  refine ⟨_, pss_cons (ps_set (i := 3) scOpened.nd rfl (Or.inl rfl) (pe_ifExp (pt_cmpR (op_neNil hu) (pv 0) (pe_lst pa_nil) (nomark _)) (pe_ix ix_list (pv 0) (pv 1) (fun _ _ => rfl)) pe_int))
    (pss_one (ps_ret (pe_use UP hr (by decide) (by rfl) (pa_cons (pv 3) (pa_cons (pv 1) (pa_cons (pv 2) pa_nil)))))), ?_⟩
  refine d_asg (P := fun x _ => ∃ c : Int, x = .int c) ?any fun x H1 e1 ⟨c, hc⟩ => ?_
  case any =>
    refine p_ife (b := !(ns.map V.int).isEmpty) (et_test fun H1 e Q q => ⟨_, rfl, show 0 ≤ sizeLine from Nat.zero_le _, fun p hp => ⟨a, p, ns.map V.int, rfl, rfl, ex_l (e.trans (Ex.new hp)) hS, sq_of upd_same, fun z hz => ?_, q _ (Ex.new hp)⟩⟩) (fun c => ?_) fun c => ?_
    · obtain ⟨n, _, rfl⟩ := List.mem_map.mp hz
      exact .inl rfl
    · have ne : ns ≠ [] := fun z => by rw [z] at c; cases c
      have lt := kn ne
      obtain ⟨j, rfl⟩ : ∃ j : Nat, k = (j : Int) := ⟨k.toNat, by omega⟩
      have jl : j < ns.length := by omega
      refine .of (ev_op (ev_var rfl) (ev_var rfl) (rv_ixL hS (atI_nat (x := .int ns[j]) (by simp [jl])))) (fun _ _ _ _ h => h) ⟨_, rfl⟩
    · exact .of ev_c (fun _ _ _ _ h => h) ⟨_, rfl⟩
  subst hc
  exact s_retP (P := PoolV K) (p_call (P := PoolV K) (Ps := [Is (.int c), Is (.int k), Is (.int m)]) (ps_cons mo_is (p_is rfl) (ps_cons mo_is (p_is rfl) (ps_cons mo_is (p_is rfl) ps_nil))) fun xs H2 e2 ps Q' q' => by
    match xs, ps with
    | [y, z, u], ⟨py, pz, pu, _⟩ => exact ⟨c, k, m, by rw [show y = _ from py, show z = _ from pz, show u = _ from pu], k0, k1, m0, m1, fun x H3 e3 p => q' x H3 e3 p⟩) fun x H2 e2 p => q x H2 (e1.trans e2) p
end
end N40
set_option maxHeartbeats 4000000
set_option exponentiation.threshold 3000
/-! k40: what is drawn: it may be written, is read back, is short, and its repr is short. -/
namespace N40
open PySem PySem.Spec PyProof.Rows
/-- a leaf that is drawn -/
def LeafD (d : PyData) : Prop := (∃ i, DrawnI i ∧ d = .int i) ∨ d ∈ constsV ∨ ∃ w ∈ wordsV, d = .str w
def ValV : Nat → PyData → Prop
  | 0, d => LeafD d
  | n + 1, d => LeafD d ∨ ∃ ds : List PyData, ds.length ≤ 3 ∧ (∀ x ∈ ds, ValV n x) ∧ (d = .tuple ds ∨ d = .list ds)
theorem val_leaf {n : Nat} {d : PyData} (h : LeafD d) : ValV n d := by
  cases n with
  | zero => exact h
  | succ n => exact .inl h
theorem leaf_drawn {d : PyData} (h : LeafD d) : Leaf d := by
  rcases h with ⟨i, hi, rfl⟩ | h | ⟨w, hw, rfl⟩
  · exact leaf_int hi
  · exact leaf_const h
  · exact leaf_word hw
theorem val_good : ∀ (n : Nat) (d : PyData), ValV n d → GoodV n d
  | 0, d, h => leaf_drawn h
  | n + 1, d, h => by
    rcases h with h | ⟨ds, l, hd, e⟩
    · exact .inl (leaf_drawn h)
    · exact .inr ⟨ds, l, fun x hx => val_good n x (hd x hx), e⟩
theorem pow_lt {n : Nat} (l : n < 400) : n ^ 15 < 10 ^ 40 := Nat.lt_of_le_of_lt (Nat.pow_le_pow_left (Nat.le_of_lt l) 15) (by decide)
theorem int_log {i : Int} (h : DrawnI i) : i.natAbs.log2 < 1920 := by
  have key : ∀ n : Nat, n < 10 ^ 40 → n.log2 < 1920 := fun n hn => by
    by_cases z : n = 0
    · subst z; decide
    · exact (Nat.log2_lt z).mpr (Nat.lt_of_lt_of_le hn (by decide))
  cases h with
  | small n l => exact key n (Nat.lt_of_lt_of_le l (by decide))
  | big n l => exact key (n ^ 15) (pow_lt l)
  | neg n l => exact key (n + 1) (by have : (400 : Nat) < 10 ^ 40 := by decide
                                     omega)
theorem int_short {i : Int} (h : DrawnI i) : (wrL (.int i)).length ≤ 60 := by
  cases h with
  | small n l =>
    have e : wrL (.int (n : Int)) = TL.numL n := TL.tl_num n
    rw [e]
    exact Nat.le_trans (TL.numL_len (k := 40) (by decide) (Nat.lt_of_lt_of_le l (by decide))) (by decide)
  | big n l =>
    have e : wrL (.int ((n ^ 15 : Nat) : Int)) = TL.numL (n ^ 15) := TL.tl_num (n ^ 15)
    rw [e]
    exact Nat.le_trans (TL.numL_len (k := 40) (by decide) (pow_lt l)) (by decide)
  | neg n l =>
    rw [show wrL (.int (Int.negSucc n)) = 45 :: TL.numL (n + 1) from tl_neg n]
    have := TL.numL_len (n := n + 1) (k := 40) (by decide) (by have : (400 : Nat) < 10 ^ 40 := by decide
                                                               omega)
    simp only [List.length_cons]
    omega
theorem leaf_short {d : PyData} (h : LeafD d) : (wrL d).length ≤ 60 := by
  rcases h with ⟨i, hi, rfl⟩ | h | ⟨w, hw, rfl⟩
  · exact int_short hi
  · unfold constsV at h
    simp only [List.mem_cons, List.not_mem_nil, or_false] at h
    rcases h with rfl | rfl | rfl <;> decide
  · exact (show ∀ w ∈ wordsV, (wrL (.str w)).length ≤ 60 by decide +kernel) w hw
def lenB : Nat → Nat
  | 0 => 60
  | n + 1 => 3 * lenB n + 10
theorem join_le {B : Nat} : ∀ {ps : List (List Nat)}, (∀ p ∈ ps, p.length ≤ B) → (TL.joinL [32] ps).length ≤ ps.length * (B + 1)
  | [], _ => Nat.zero_le _
  | [p], h => by rw [join_one]; have := h p List.mem_cons_self; simp only [List.length_singleton]; omega
  | p :: q :: ps, h => by
    have ih := join_le (ps := q :: ps) fun x hx => h x (List.mem_cons_of_mem _ hx)
    have := h p List.mem_cons_self
    rw [join_cons]
    simp only [List.length_append, List.length_cons, List.length_nil, Nat.add_mul] at *
    omega
theorem val_short : ∀ (n : Nat) (d : PyData), ValV n d → (wrL d).length ≤ lenB n
  | 0, d, h => leaf_short h
  | n + 1, d, h => by
    rcases h with h | ⟨ds, l, hd, e⟩
    · have := leaf_short h
      have : ∀ n, 60 ≤ lenB n := fun n => by
        induction n with
        | zero => exact Nat.le_refl _
        | succ n ih => show 60 ≤ 3 * lenB n + 10; omega
      have := this (n + 1)
      omega
    · have j := join_le (B := lenB n) (ps := ds.map wrL) fun p hp => by
        obtain ⟨x, hx, rfl⟩ := List.mem_map.mp hp
        exact val_short n x (hd x hx)
      rw [List.length_map] at j
      have j2 : ds.length * (lenB n + 1) ≤ 3 * (lenB n + 1) := Nat.mul_le_mul_right _ l
      have w1 : wrL (.tuple ds) = 40 :: (TL.joinL [32] (ds.map wrL) ++ [41]) := by rw [← wrAll_map]; rfl
      have w2 : wrL (.list ds) = 91 :: (TL.joinL [32] (ds.map wrL) ++ [93]) := by rw [← wrAll_map]; rfl
      show _ ≤ 3 * lenB n + 10
      rcases e with rfl | rfl
      · rw [w1]; simp only [List.length_cons, List.length_append, List.length_nil]; omega
      · rw [w2]; simp only [List.length_cons, List.length_append, List.length_nil]; omega
theorem lenB_4 : ∀ n, n ≤ 4 → lenB n ≤ 5260 := by decide
theorem leaf_wr {d : PyData} (h : LeafD d) : leafD d = true := by
  rcases h with ⟨i, hi, rfl⟩ | h | ⟨w, hw, rfl⟩
  · exact decide_eq_true (int_log hi)
  · unfold constsV at h
    simp only [List.mem_cons, List.not_mem_nil, or_false] at h
    rcases h with rfl | rfl | rfl <;> rfl
  · rfl
theorem val_wr : ∀ (n : Nat) (d : PyData), n ≤ 4 → ValV n d → Wr n d
  | 0, d, _, h => leaf_wr h
  | n + 1, d, hn, h => by
    have s := val_short (n + 1) d h
    have s4 := lenB_4 (n + 1) hn
    rcases h with h | ⟨ds, l, hd, e⟩
    · exact .inl (leaf_wr h)
    · exact .inr ⟨ds, by omega, fun x hx => val_wr n x (by omega) (hd x hx), by omega, e⟩
theorem wr_up : ∀ (n : Nat) (d : PyData), Wr n d → Wr (n + 1) d
  | 0, d, h => .inl h
  | n + 1, d, h => by
    rcases h with h | ⟨ds, l, hd, ll, e⟩
    · exact .inl h
    · exact .inr ⟨ds, l, fun x hx => wr_up n x (hd x hx), ll, e⟩
theorem wr_le {n : Nat} {d : PyData} (h : Wr n d) : ∀ k, Wr (n + k) d
  | 0 => h
  | k + 1 => wr_up _ _ (wr_le h k)
/-! ### the data as the run compares and shows them -/
theorem leaf_lay {d : PyData} (h : LeafD d) : d.canLay0 = true ∧ d.depth = 0 := by
  rcases h with ⟨i, hi, rfl⟩ | h | ⟨w, hw, rfl⟩
  · exact ⟨rfl, rfl⟩
  · unfold constsV at h
    simp only [List.mem_cons, List.not_mem_nil, or_false] at h
    rcases h with rfl | rfl | rfl <;> exact ⟨rfl, rfl⟩
  · exact ⟨(show ∀ w ∈ wordsV, PyData.strOk w = true by decide +kernel) w hw, rfl⟩
theorem depthAll_le {B : Nat} : ∀ {ds : List PyData}, (∀ x ∈ ds, x.depth ≤ B) → PyData.depthAll ds ≤ B
  | [], _ => Nat.zero_le _
  | x :: ds, h => by
    have := depthAll_le (ds := ds) fun y hy => h y (List.mem_cons_of_mem _ hy)
    have := h x List.mem_cons_self
    show max x.depth (PyData.depthAll ds) ≤ B
    omega
theorem layAll {ds : List PyData} (h : ∀ x ∈ ds, x.canLay0 = true) : PyData.canLayAll0 ds = true := by
  induction ds with
  | nil => rfl
  | cons x ds ih =>
    show (x.canLay0 && PyData.canLayAll0 ds) = true
    rw [h x List.mem_cons_self, ih fun y hy => h y (List.mem_cons_of_mem _ hy)]
    rfl
theorem val_lay : ∀ (n : Nat) (d : PyData), ValV n d → d.canLay0 = true ∧ d.depth ≤ n
  | 0, d, h => ⟨(leaf_lay h).1, by rw [(leaf_lay h).2]; exact Nat.le_refl _⟩
  | n + 1, d, h => by
    rcases h with h | ⟨ds, l, hd, e⟩
    · exact ⟨(leaf_lay h).1, by rw [(leaf_lay h).2]; exact Nat.zero_le _⟩
    · have a := layAll fun x hx => (val_lay n x (hd x hx)).1
      have b := depthAll_le fun x hx => (val_lay n x (hd x hx)).2
      rcases e with rfl | rfl
      · exact ⟨a, by show PyData.depthAll ds + 1 ≤ n + 1; omega⟩
      · exact ⟨a, by show PyData.depthAll ds + 1 ≤ n + 1; omega⟩
theorem val_shaped {n : Nat} {d : PyData} (hn : n ≤ 4) (h : ValV n d) : SeqAt.shaped d = true := by
  obtain ⟨a, b⟩ := val_lay n d h
  unfold SeqAt.shaped
  rw [a, decide_eq_true (show d.depth ≤ 64 by omega)]
  rfl
theorem leaf_showable {d : PyData} (h : LeafD d) : d.showable = true ∧ d.hasDict = false := by
  rcases h with ⟨i, hi, rfl⟩ | h | ⟨w, hw, rfl⟩
  · exact ⟨decide_eq_true (int_log hi), rfl⟩
  · unfold constsV at h
    simp only [List.mem_cons, List.not_mem_nil, or_false] at h
    rcases h with rfl | rfl | rfl <;> exact ⟨rfl, rfl⟩
  · exact ⟨rfl, rfl⟩
theorem showAll {ds : List PyData} (h : ∀ x ∈ ds, x.showable = true ∧ x.hasDict = false) : PyData.showableAll ds = true ∧ PyData.hasDictAll ds = false := by
  induction ds with
  | nil => exact ⟨rfl, rfl⟩
  | cons x ds ih =>
    obtain ⟨a, b⟩ := h x List.mem_cons_self
    obtain ⟨c, e⟩ := ih fun y hy => h y (List.mem_cons_of_mem _ hy)
    exact ⟨by show (x.showable && PyData.showableAll ds) = true; rw [a, c]; rfl, by show (x.hasDict || PyData.hasDictAll ds) = false; rw [b, e]; rfl⟩
theorem val_showable : ∀ (n : Nat) (d : PyData), ValV n d → d.showable = true ∧ d.hasDict = false
  | 0, d, h => leaf_showable h
  | n + 1, d, h => by
    rcases h with h | ⟨ds, l, hd, e⟩
    · exact leaf_showable h
    · have a := showAll fun x hx => val_showable n x (hd x hx)
      rcases e with rfl | rfl <;> exact a
theorem leaf_shown {d : PyData} (h : LeafD d) : d.shown.length ≤ 600 := by
  rcases h with ⟨i, hi, rfl⟩ | h | ⟨w, hw, rfl⟩
  · have := int_short hi
    have e : (TL.tl (Str.ofString (toString i))).length ≤ 60 := this
    have e2 : (PyData.int i).shown = Str.ofString (toString i) := by simp only [PyData.shown]
    rw [e2, ← SX.S_tl (Str.ofString (toString i)), SX.S_len]
    exact Nat.le_trans e (by decide)
  · unfold constsV at h
    simp only [List.mem_cons, List.not_mem_nil, or_false] at h
    rcases h with rfl | rfl | rfl <;> decide +kernel
  · exact (show ∀ w ∈ wordsV, (PyData.str w).shown.length ≤ 600 by decide +kernel) w hw
theorem piled_le {B : Nat} : ∀ {ts : List Str}, (∀ t ∈ ts, t.length ≤ B) → piled ts ≤ ts.length * (B + 2)
  | [], _ => Nat.zero_le _
  | t :: ts, h => by
    have ih := piled_le (ts := ts) fun x hx => h x (List.mem_cons_of_mem _ hx)
    have := h t List.mem_cons_self
    rw [piled_cons, List.length_cons, Nat.add_mul]
    omega
theorem listText_le : ∀ ts : List Str, (listText ts).length ≤ piled ts + 2
  | [] => by decide
  | t :: r => by
    have h := textFrom_length_pos r 1 (("[" : Str) ++ (if (0 : Nat) > 0 then ", " else "" : String) ++ t) (Nat.succ_pos 0)
    have e : ((("[" : Str) ++ (if (0 : Nat) > 0 then ", " else "" : String) ++ t)).length = 1 + t.length := by
      rw [strLen_append, strLen_append]; rfl
    have hX : (listText (t :: r)).length = (textFrom 0 "[" (t :: r)).length + 1 := by
      show (textFrom 0 "[" (t :: r) ++ "]").length = _
      rw [strLen_append]; rfl
    have hY : (textFrom 0 "[" (t :: r)).length = (textFrom 1 (("[" : Str) ++ (if (0 : Nat) > 0 then ", " else "" : String) ++ t) r).length := rfl
    rw [hX, hY, h, e, piled_cons]; omega
theorem tupleText_le (ts : List Str) : (tupleText ts).length ≤ piled ts + 3 := by
  unfold tupleText
  rw [strLen_append, strLen_append]
  have e1 : ((("(" : String) : Str)).length = 1 := rfl
  have e3 : (((if ts.length == 1 then ",)" else ")" : String) : Str)).length ≤ 2 := by split <;> decide
  rw [e1]
  by_cases h : ts = []
  · subst h; decide
  · have := join_length_add ts h
    omega
def shB : Nat → Nat
  | 0 => 600
  | n + 1 => 3 * (shB n + 2) + 3
theorem shownAll_map : ∀ ds, PyData.shownAll ds = ds.map PyData.shown
  | [] => rfl
  | d :: ds => by rw [PyData.shownAll, shownAll_map ds]; rfl
theorem val_shown : ∀ (n : Nat) (d : PyData), ValV n d → d.shown.length ≤ shB n
  | 0, d, h => leaf_shown h
  | n + 1, d, h => by
    rcases h with h | ⟨ds, l, hd, e⟩
    · have := leaf_shown h
      have : ∀ n, 600 ≤ shB n := fun n => by
        induction n with
        | zero => exact Nat.le_refl _
        | succ n ih => show 600 ≤ 3 * (shB n + 2) + 3; omega
      have := this (n + 1)
      omega
    · have p := piled_le (B := shB n) (ts := ds.map PyData.shown) fun t ht => by
        obtain ⟨x, hx, rfl⟩ := List.mem_map.mp ht
        exact val_shown n x (hd x hx)
      rw [List.length_map] at p
      have p2 : ds.length * (shB n + 2) ≤ 3 * (shB n + 2) := Nat.mul_le_mul_right _ l
      show _ ≤ 3 * (shB n + 2) + 3
      rcases e with rfl | rfl
      · have e : (PyData.tuple ds).shown = tupleText (ds.map PyData.shown) := by rw [← shownAll_map]; simp only [PyData.shown]
        rw [e]
        have := tupleText_le (ds.map PyData.shown)
        omega
      · have e : (PyData.list ds).shown = listText (ds.map PyData.shown) := by rw [← shownAll_map]; simp only [PyData.shown]
        rw [e]
        have := listText_le (ds.map PyData.shown)
        omega
theorem shB_4 : ∀ n, n ≤ 4 → shB n ≤ 100000 := by decide
theorem val_rep {n : Nat} {d : PyData} (hn : n ≤ 4) (h : ValV n d) : Gd.Repable d := by
  obtain ⟨a, b⟩ := val_showable n d h
  refine ⟨a, b, by have := (val_lay n d h).2; omega, Nat.le_trans (val_shown n d h) (Evl.sz_of (shB_4 n hn)), fun i e => ?_⟩
  subst e
  exact of_decide_eq_true a
end N40
set_option maxHeartbeats 4000000
/-! k40: _law_value. A list that a call does not see, wherever it stands. -/
namespace L2
open PySem PySem.Spec PyProof.Rows
def tHideR (t : TE) : TE := fun σ H Q => ∃ R xs, H R = some (.lst xs) ∧ t σ (hid H R) fun x H' => H' R = none → Q x (upd H' R (.lst xs))
theorem pe_hideR {X : Cx} {e : Expr} {t : TE} (he : PE X e t) : PE X e (tHideR t) := by
  refine ⟨fun pins s σ H Q I ⟨R, xs, hR, h⟩ => ?_⟩
  obtain ⟨o, ho, I2⟩ := I.hideL hR
  refine wpAny_mono (he.run _ s σ _ _ I2 h) (fun u s' ⟨v, H', J, r, q⟩ => ?_) fun _ _ z => z
  obtain ⟨n, J2⟩ := I.unhideL hR ho J
  exact ⟨v, _, J2, r, q n⟩
theorem hid_upd {H : Hp} {R : Addr} {o : HO} (h : H R = none) : hid (upd H R o) R = H := by
  funext b
  by_cases z : b = R
  · subst z; rw [hid_same, h]
  · rw [hid_ne z, upd_ne z]
end L2
namespace N40
open PySem PySem.Spec PyProof.Rows L2 Evl Pd Gd Us Chk Lw
theorem ex_hid {H H' : Hp} {R : Addr} (e : Ex H H') (n : H R = none) : Ex H (hid H' R) := fun b o hb => by
  rw [hid_ne (fun z => by rw [z, n] at hb; cases hb)]
  exact e b o hb
theorem hid_ex {H : Hp} {R : Addr} : Ex (hid H R) H := fun b o hb => by
  by_cases z : b = R
  · subst z; rw [hid_same] at hb; cases hb
  · rw [hid_ne z] at hb; exact hb
theorem dqAll_app {H : Hp} : ∀ {xs ys : List V} {ds es : List PyData}, DqAll H xs ds → DqAll H ys es → DqAll H (xs ++ ys) (ds ++ es)
  | _, _, _, _, .nil, h => h
  | _, _, _, _, .cons a t, h => .cons a (dqAll_app t h)
theorem rg_nat {m : Int} {x : V} {H : Hp} (h : RgV 0 m x H) : ∃ k : Nat, x = .int (k : Int) ∧ (k : Int) < m := by
  obtain ⟨n, rfl, h0, h1⟩ := h
  exact ⟨n.toNat, by rw [Int.toNat_of_nonneg h0], by omega⟩
section
variable {K : PySem.W.Frag} {σ : L2.St} {H : Hp} {ta : TA} {te : TE} {j n : Nat} {vs : List Nat} {A : PyData → Prop}
/-- [te for k in range(n)], each a datum of a kind -/
theorem p_lcV (h : EvPs ta σ H [RgV 0 (n : Int)]) (hn : n ≤ 1000) (hw : ∀ x, wipe ((wipe σ vs).set j (some x)) vs = wipe σ vs)
    (ht : ∀ (i : Nat) H1, Ex H H1 → EvP te ((wipe σ vs).set j (some (.int (i : Int)))) H1 (fun x H' => ∃ d, A d ∧ Dq H' x d)) :
    EvP (tLc (iRng1 ta) (gName j) tYes (tHideR te) vs) σ H (fun x H' => ∃ ds, ds.length < n ∧ (∀ d ∈ ds, A d) ∧ Dq H' x (.list ds)) := fun H1 e Q q => by
  refine h H1 e _ fun xs H2 e2 px => ?_
  match xs, px with
  | [u], ⟨pu, _⟩ => ?_
  obtain ⟨m, rfl, hm⟩ := rg_nat pu
  refine ⟨(m : Int), rfl, by omega, by omega, fun l nl => ?_⟩
  rw [show ((m : Int)).toNat = m by omega]
  have mn : m < n := by omega
  refine lc_it (walk_range (lo := 0) (n := m)) (fun i H' => Ex H2 H' ∧ ∃ ys ds, H' l = some (.lst ys) ∧ ds.length = i ∧ (∀ d ∈ ds, A d) ∧ DqAll (hid H' l) ys ds) ⟨Ex.new nl, [], [], upd_same, rfl, fun _ z => (nomatch z), .nil⟩ (fun _ _ _ _ => trivial) (fun i v H3 H4 hi p yy => ?_) fun H' p => ?_
  · obtain ⟨ex, ys, ds, hl, ln, al, dq⟩ := p
    obtain ⟨rfl, rfl⟩ := yy
    dsimp only
    rw [Int.zero_add]
    have h0 : Ex H (hid H4 l) := e.trans (e2.trans (ex_hid ex nl))
    refine ⟨hw _, ?_⟩
    unfold tYes
    simp only [if_true]
    refine ⟨l, ys, hl, ht i _ h0 _ (Ex.refl _) _ fun y H5 e5 ⟨d, ad, hd⟩ nl5 => ?_⟩
    have dl := dqAll_len dq
    refine ⟨ys, upd_same, sz_lt (by omega), ?_, ys ++ [y], ds ++ [d], upd_same, by simp [ln], fun z hz => ?_, ?_⟩
    · have e25 : Ex H2 H5 := (ex_hid ex nl).trans e5
      exact ((e25.trans (Ex.new nl5))).mut nl
    · rcases List.mem_append.mp hz with hz | hz
      · exact al z hz
      · rw [List.mem_singleton.mp hz]; exact ad
    · have eq : hid (upd (upd H5 l (.lst ys)) l (.lst (ys ++ [y]))) l = H5 := by rw [show upd (upd H5 l (.lst ys)) l (.lst (ys ++ [y])) = upd H5 l (.lst (ys ++ [y])) from upd_upd]; exact hid_upd nl5
      rw [eq]
      exact dqAll_app (dqAll_up e5 dq) (.cons hd .nil)
  · obtain ⟨ex, ys, ds, hl, ln, al, dq⟩ := p
    have dl := dqAll_len dq
    exact q (.ref l) H' (e2.trans ex) ⟨ds, by omega, al, .lst (by omega) hl (dqAll_up hid_ex dq)⟩
end
def DrV (n : Nat) : PV := fun x H => ∃ d, ValV n d ∧ Dq H x d
theorem mo_drV {n : Nat} : Mo (DrV n) := fun _ _ _ e ⟨d, h1, h2⟩ => ⟨d, h1, dq_up e h2⟩
def DrI : PV := fun x _ => ∃ i, DrawnI i ∧ x = .int i
theorem mo_drI : Mo DrI := fun _ _ _ _ h => h
abbrev sValue : Stmt := Tp.s__law_value
abbrev nVal : List Str := ["pool", "deep", "way", "k", "some"]
theorem scValue : FnScope nVal ["pool", "deep"] (defScope sValue) := ⟨rfl, rfl, rfl, by decide +kernel, rfl, by decide +kernel, by decide +kernel⟩
def spValue (K : PySem.W.Frag) (n : Nat) : Sp := fun vs H Q _ => vs.length = 2 ∧ ∃ x, vs = [x, .int (n : Int)] ∧ PoolV K x H ∧ ∀ y H', Ex H H' → DrV n y H' → Q y H'
section
variable {K : PySem.W.Frag} {σ : L2.St} {H : Hp} {E : XK} {x : V}
/-- the three ints, one of them picked -/
theorem p_ints (h0 : σ[0]? = some (some x)) (hp : PoolV K x H) : EvP (tOp (rIxL K) (tLst (tCons (tCall (spDraw K) [] E (tCons (tVar 0) (tCons (tC (.int 10)) tNil)))
    (tCons (tOp (rI CPow fun i j => .int (i ^ j.toNat)) (tCall (spDraw K) [] E (tCons (tVar 0) (tCons (tC (.int 400)) tNil))) (tC (.int 15)))
    (tCons (tOp (rI0 fun i j => .int (i - j)) (tUn (rU fun i => .int (-i)) (tC (.int 1))) (tCall (spDraw K) [] E (tCons (tVar 0) (tCons (tC (.int 400)) tNil)))) tNil))))
    (tCall (spDraw K) [] E (tCons (tVar 0) (tCons (tC (.int 3)) tNil)))) σ H DrI := by
  have dr : ∀ {m : Int}, 0 < m → EvP (tCall (spDraw K) [] E (tCons (tVar 0) (tCons (tC (.int m)) tNil))) σ H (RgV 0 m) := fun hm => p_draw (p_var h0 mo_pool hp) ev_c hm
  refine p_op (P1 := Lst [DrI, DrI, DrI]) (P2 := RgV 0 3) (mo_lst (mo_cons mo_drI (mo_cons mo_drI (mo_cons mo_drI mo_nil)))) (p_lst (mo_cons mo_drI (mo_cons mo_drI (mo_cons mo_drI mo_nil))) (ps_cons mo_drI ?a (ps_cons mo_drI ?b (ps_cons mo_drI ?c ps_nil)))) (dr (by decide)) ?ix
  case a =>
    refine (dr (m := 10) (by decide)).imp fun x H1 _ h => ?_
    obtain ⟨k, rfl, hk⟩ := rg_nat h
    exact ⟨_, .small k (by omega), rfl⟩
  case b =>
    refine p_op (P1 := RgV 0 400) (P2 := Is (.int 15)) mo_rg (dr (by decide)) p_c fun x y H1 e h1 h2 Q q => ?_
    obtain ⟨k, rfl, hk⟩ := rg_nat h1
    cases h2
    exact ⟨k, 15, rfl, rfl, ⟨by decide, by decide, by omega⟩, q _ H1 (Ex.refl _) ⟨_, .big k (by omega), congrArg V.int (Int.natCast_pow k 15).symm⟩⟩
  case c =>
    refine p_op (P1 := Is (.int (-1))) (P2 := RgV 0 400) mo_is (.of (ev_un ev_c ru_neg) mo_is rfl) (dr (by decide)) fun x y H1 e h1 h2 Q q => ?_
    cases h1
    obtain ⟨k, rfl, hk⟩ := rg_nat h2
    exact ⟨_, _, rfl, rfl, q _ H1 (Ex.refl _) ⟨_, .neg k (by omega), congrArg V.int (by rw [Int.negSucc_eq]; omega)⟩⟩
  case ix =>
    rintro x y H1 e ⟨a, xs, rfl, ha, al⟩ h2 Q q
    obtain ⟨k, rfl, hk⟩ := rg_nat h2
    obtain ⟨v, hv, pv⟩ := allP_get al (i := k) (P := DrI) (match k, hk with
      | 0, _ => rfl
      | 1, _ => rfl
      | 2, _ => rfl
      | k + 3, h => absurd h (by omega))
    exact ⟨a, xs, k, v, rfl, rfl, sq_of ha, Chk.atI_nat hv, q v H1 (Ex.refl _) pv⟩
end
section
variable {P : Program} {w : World} {K : PySem.W.Frag} {mg : Str → Option Value} {base : Heap}
theorem ok_value0 (D : Dn K mg "_law_value" sValue) (B : Bt mg) (BT : mg "tuple" = none) (UD : Use P w K mg base 1 "_law_draw" ["pool", "many"] (spDraw K)) (UP : Use P w K mg base 2 "_law_pick" ["pool", "some"] (spPick K)) : Use P w K mg base 3 "_law_value" ["pool", "deep"] (spValue K 0) := by
  refine use_of D scValue (fun f fd F => F.binds (ps := ["pool", "deep"]) fun _ _ _ _ _ _ us hl => match us, hl with | [_, _], _ => rfl) (fun vs H Q E h => h.1) (fun f cdv A outer s H vs Q E hr h => ?_)
  obtain ⟨_, x, rfl, hp, q⟩ := h
  have nd := scValue.nd
  refine ⟨_, pss_cons (ps_set (i := 2) nd rfl (Or.inl rfl) (pe_use UD hr (by omega) (by rfl) (pa_cons (pv 0) (pa_cons (pe_ifExp (pt_cmpR op_gt (pv 1) pe_int (nomark _)) pe_int pe_int) pa_nil))))
    (pss_cons (ps_if (pt_cmpR op_lt (pv 2) pe_int (nomark _)) (pss_one (ps_ret (pe_ix (r := rIxL K) ix_list (pe_lst (pa_cons (pe_use UD hr (by omega) (by rfl) (pa_cons (pv 0) (pa_cons pe_int pa_nil))) (pa_cons (pe_op op_pow (pe_use UD hr (by omega) (by rfl) (pa_cons (pv 0) (pa_cons pe_int pa_nil))) pe_int) (pa_cons (pe_op op_sub (pe_un un_neg pe_int) (pe_use UD hr (by omega) (by rfl) (pa_cons (pv 0) (pa_cons pe_int pa_nil)))) pa_nil)))) (pe_use UD hr (by omega) (by rfl) (pa_cons (pv 0) (pa_cons pe_int pa_nil))) (fun _ _ => rfl)))) pss_nil)
    (pss_cons (ps_if (pt_cmpR op_eq (pv 2) pe_int (nomark _)) (pss_one (ps_ret (pe_use UP hr (by omega) (by rfl) (pa_cons (pv 0) (pa_cons (pe_lst (pa_cons pe_non (pa_cons pe_bl (pa_cons pe_bl pa_nil)))) pa_nil))))) pss_nil)
    (pss_cons (ps_if (pt_cmpR op_lt (pv 2) pe_int (nomark _)) (pss_one (ps_ret (pe_use UP hr (by omega) (by rfl) (pa_cons (pv 0) (pa_cons (pe_lst (pa_cons pe_str (pa_cons pe_str (pa_cons pe_str (pa_cons pe_str (pa_cons pe_str (pa_cons pe_str pa_nil))))))) pa_nil))))) pss_nil)
    pss_never))), ?_⟩
  refine d_asg (P := RgV 0 6) (p_draw (p_var rfl mo_pool hp) (ev_if (b := false) (et_is (et_test (ev_op (ev_var rfl) ev_c rv_I0)) rfl) (fun z => nomatch z) fun z => ev_c) (by decide)) fun wv H1 e1 hw => ?_
  obtain ⟨k, rfl, hk⟩ := rg_nat hw
  refine q_when (b := decide ((k : Int) < 2)) (et_test (ev_op (ev_var rfl) ev_c rv_I0)) (fun c H2 e2 => ?_) fun c H2 e2 => ?_
  · exact d_ret (P := DrI) (p_ints rfl (mo_pool _ _ _ (e1.trans e2) hp)) fun y H3 e3 ⟨i, hi, hy⟩ => q y H3 (e1.trans (e2.trans e3)) ⟨.int i, val_leaf (.inl ⟨i, hi, rfl⟩), by rw [hy]; exact .int i⟩
  refine q_when (b := decide (V.int (k : Int) = V.int 2)) (et_test (ev_op (ev_var rfl) ev_c (rv_eq rfl))) (fun c H3 e3 => ?_) fun c H3 e3 => ?_
  · exact d_ret (P := OneOf constsV) (p_pick (p_var rfl mo_pool (mo_pool _ _ _ (e1.trans (e2.trans e3)) hp)) (q_lst (ds := constsV) (ps_cons mo_qe q_non (ps_cons mo_qe q_bl (ps_cons mo_qe q_bl ps_nil)))) (by unfold constsV; simp)) fun y H4 e4 ⟨d, hd, dq⟩ => q y H4 (e1.trans (e2.trans (e3.trans e4))) ⟨d, val_leaf (.inr (.inl hd)), dq⟩
  refine q_when (b := decide ((k : Int) < 6)) (et_test (ev_op (ev_var rfl) ev_c rv_I0)) (fun c H4 e4 => ?_) fun c H4 e4 => ?_
  · exact d_ret (P := OneOf (wordsV.map PyData.str)) (p_pick (p_var rfl mo_pool (mo_pool _ _ _ (e1.trans (e2.trans (e3.trans e4))) hp)) (q_lst (ds := wordsV.map PyData.str) (ps_cons mo_qe q_str (ps_cons mo_qe q_str (ps_cons mo_qe q_str (ps_cons mo_qe q_str (ps_cons mo_qe q_str (ps_cons mo_qe q_str ps_nil))))))) (by unfold wordsV; simp)) fun y H5 e5 ⟨d, hd, dq⟩ => by
      obtain ⟨w, hw, rfl⟩ := List.mem_map.mp hd
      exact q y H5 (e1.trans (e2.trans (e3.trans (e4.trans e5)))) ⟨_, val_leaf (.inr (.inr ⟨w, hw, rfl⟩)), dq⟩
  exact absurd (decide_eq_true (show (k : Int) < 6 from hk)) (by rw [c]; decide)
theorem ok_valueS (D : Dn K mg "_law_value" sValue) (B : Bt mg) (BT : mg "tuple" = none) (UD : Use P w K mg base 1 "_law_draw" ["pool", "many"] (spDraw K)) (UP : Use P w K mg base 2 "_law_pick" ["pool", "some"] (spPick K)) {n : Nat} (U : Use P w K mg base (n + 3) "_law_value" ["pool", "deep"] (spValue K n)) : Use P w K mg base (n + 4) "_law_value" ["pool", "deep"] (spValue K (n + 1)) := by
  refine use_of D scValue (fun f fd F => F.binds (ps := ["pool", "deep"]) fun _ _ _ _ _ _ us hl => match us, hl with | [_, _], _ => rfl) (fun vs H Q E h => h.1) (fun f cdv A outer s H vs Q E hr h => ?_)
  obtain ⟨_, x, rfl, hp, q⟩ := h
  have nd := scValue.nd
  refine ⟨_, pss_cons (ps_set (i := 2) nd rfl (Or.inl rfl) (pe_use UD hr (by omega) (by rfl) (pa_cons (pv 0) (pa_cons (pe_ifExp (pt_cmpR op_gt (pv 1) pe_int (nomark _)) pe_int pe_int) pa_nil))))
    (pss_cons (ps_if (pt_cmpR op_lt (pv 2) pe_int (nomark _)) (pss_one (ps_ret (pe_ix (r := rIxL K) ix_list (pe_lst (pa_cons (pe_use UD hr (by omega) (by rfl) (pa_cons (pv 0) (pa_cons pe_int pa_nil))) (pa_cons (pe_op op_pow (pe_use UD hr (by omega) (by rfl) (pa_cons (pv 0) (pa_cons pe_int pa_nil))) pe_int) (pa_cons (pe_op op_sub (pe_un un_neg pe_int) (pe_use UD hr (by omega) (by rfl) (pa_cons (pv 0) (pa_cons pe_int pa_nil)))) pa_nil)))) (pe_use UD hr (by omega) (by rfl) (pa_cons (pv 0) (pa_cons pe_int pa_nil))) (fun _ _ => rfl)))) pss_nil)
    (pss_cons (ps_if (pt_cmpR op_eq (pv 2) pe_int (nomark _)) (pss_one (ps_ret (pe_use UP hr (by omega) (by rfl) (pa_cons (pv 0) (pa_cons (pe_lst (pa_cons pe_non (pa_cons pe_bl (pa_cons pe_bl pa_nil)))) pa_nil))))) pss_nil)
    (pss_cons (ps_if (pt_cmpR op_lt (pv 2) pe_int (nomark _)) (pss_one (ps_ret (pe_use UP hr (by omega) (by rfl) (pa_cons (pv 0) (pa_cons (pe_lst (pa_cons pe_str (pa_cons pe_str (pa_cons pe_str (pa_cons pe_str (pa_cons pe_str (pa_cons pe_str pa_nil))))))) pa_nil))))) pss_nil)
    (pss_cons (ps_setLc (i := 4) (own := [("k", 3)]) (g := gName 3) (tt := tYes) rfl nd rfl rfl (sw_true rfl rfl rfl rfl) (pi_range1 (by rfl) B.range (pa_cons (pe_use UD hr (by omega) (by rfl) (pa_cons (pv 0) (pa_cons pe_int pa_nil))) pa_nil)) (blkOk_by (N := nVal) (sc := defScope sValue) (by decide +kernel)) (fun _ _ _ _ _ => pg_name (i := 3) nd rfl (Or.inl rfl)) (fun _ _ _ _ _ => pts_nil)
      (fun _ _ _ _ _ => pe_hideR (pe_use U hr (Nat.le_refl _) (by rfl) (pa_cons (pv 0) (pa_cons (pe_op op_sub (pv 1) pe_int) pa_nil)))))
    (pss_one (ps_ret (pe_ifExp (pt_cmpR op_lt (pv 2) pe_int (nomark _)) (pe_callTy call_tuple_of (by rfl) BT Chk.boot_tuple (pa_cons (pv 4) pa_nil)) (pv 4)))))))), ?_⟩
  refine d_asg (P := RgV 0 10) (p_draw (p_var rfl mo_pool hp) (ev_if (b := true) (et_is (et_test (ev_op (ev_var rfl) ev_c rv_I0)) (decide_eq_true (by omega))) (fun z => ev_c) fun z => nomatch z) (by decide)) fun wv H1 e1 hw => ?_
  obtain ⟨k, rfl, hk⟩ := rg_nat hw
  refine q_when (b := decide ((k : Int) < 2)) (et_test (ev_op (ev_var rfl) ev_c rv_I0)) (fun c H2 e2 => ?_) fun c H2 e2 => ?_
  · exact d_ret (P := DrI) (p_ints rfl (mo_pool _ _ _ (e1.trans e2) hp)) fun y H3 e3 ⟨i, hi, hy⟩ => q y H3 (e1.trans (e2.trans e3)) ⟨.int i, val_leaf (.inl ⟨i, hi, rfl⟩), by rw [hy]; exact .int i⟩
  refine q_when (b := decide (V.int (k : Int) = V.int 2)) (et_test (ev_op (ev_var rfl) ev_c (rv_eq rfl))) (fun c H3 e3 => ?_) fun c H3 e3 => ?_
  · exact d_ret (P := OneOf constsV) (p_pick (p_var rfl mo_pool (mo_pool _ _ _ (e1.trans (e2.trans e3)) hp)) (q_lst (ds := constsV) (ps_cons mo_qe q_non (ps_cons mo_qe q_bl (ps_cons mo_qe q_bl ps_nil)))) (by unfold constsV; simp)) fun y H4 e4 ⟨d, hd, dq⟩ => q y H4 (e1.trans (e2.trans (e3.trans e4))) ⟨d, val_leaf (.inr (.inl hd)), dq⟩
  refine q_when (b := decide ((k : Int) < 6)) (et_test (ev_op (ev_var rfl) ev_c rv_I0)) (fun c H4 e4 => ?_) fun c H4 e4 => ?_
  · exact d_ret (P := OneOf (wordsV.map PyData.str)) (p_pick (p_var rfl mo_pool (mo_pool _ _ _ (e1.trans (e2.trans (e3.trans e4))) hp)) (q_lst (ds := wordsV.map PyData.str) (ps_cons mo_qe q_str (ps_cons mo_qe q_str (ps_cons mo_qe q_str (ps_cons mo_qe q_str (ps_cons mo_qe q_str (ps_cons mo_qe q_str ps_nil))))))) (by unfold wordsV; simp)) fun y H5 e5 ⟨d, hd, dq⟩ => by
      obtain ⟨w, hw, rfl⟩ := List.mem_map.mp hd
      exact q y H5 (e1.trans (e2.trans (e3.trans (e4.trans e5)))) ⟨_, val_leaf (.inr (.inr ⟨w, hw, rfl⟩)), dq⟩
  have hp4 := mo_pool _ _ _ (e1.trans (e2.trans (e3.trans e4))) hp
  refine d_asg (P := fun y H' => ∃ ds : List PyData, ds.length < 4 ∧ (∀ d ∈ ds, ValV n d) ∧ Dq H' y (.list ds)) (p_lcV (n := 4) (ps_cons mo_rg (p_draw (p_var rfl mo_pool hp4) ev_c (by decide)) ps_nil) (by decide) (fun _ => rfl) fun i H5 e5 => ?_) fun sv H5 e5 ⟨ds, l4, al, dq⟩ => ?_
  · exact fun H6 e6 Q' q' => ⟨x, rfl, _, rfl, _, _, rfl, rfl, rfl, x, by simp, mo_pool _ _ _ (e5.trans e6) hp4, fun y H7 e7 hy => q' y H7 e7 hy⟩
  dsimp only [List.set]
  have eA := e1.trans (e2.trans (e3.trans (e4.trans e5)))
  refine d_ret (P := DrV (n + 1)) (p_ife (b := decide ((k : Int) < 9)) (et_test (ev_op (ev_var rfl) ev_c rv_I0)) (fun _ => ?_) fun _ => ?_) fun y H6 e6 hy => q y H6 (eA.trans e6) hy
  · intro H6 e6 Q' q'
    have dq6 := dq_up e6 dq
    cases dq6 with
    | @lst a xs _ z ha al2 => exact ⟨_, rfl, a, xs, rfl, .inl ⟨sq_of ha, fun l nl => q' _ _ (Ex.new nl) ⟨.tuple ds, .inr ⟨ds, by omega, al, .inl rfl⟩, .tup upd_same (dqAll_up (Ex.new nl) al2)⟩⟩⟩
  · exact p_var rfl mo_drV ⟨.list ds, .inr ⟨ds, by omega, al, .inr rfl⟩, dq⟩
theorem ok_value (D : Dn K mg "_law_value" sValue) (B : Bt mg) (BT : mg "tuple" = none) (UD : Use P w K mg base 1 "_law_draw" ["pool", "many"] (spDraw K)) (UP : Use P w K mg base 2 "_law_pick" ["pool", "some"] (spPick K)) : ∀ n, Use P w K mg base (n + 3) "_law_value" ["pool", "deep"] (spValue K n)
  | 0 => ok_value0 D B BT UD UP
  | n + 1 => ok_valueS D B BT UD UP (ok_value D B BT UD UP n)
end
end N40
set_option maxHeartbeats 4000000
/-! k40: a text times a number, _law_wrong, _law_refused. -/
namespace N40
open PySem PySem.Spec PyProof.Rows L2 Evl Pd Gd Us Chk Lw TryAs Fm
def rMulS : R2 := fun x y H Q => ∃ (c n : Nat), x = .str (SX.S [c]) ∧ y = .int (n : Int) ∧ 2 ≤ n ∧ n ≤ 1000 ∧ Q (.str (SX.S (List.replicate n c))) H
theorem fold_rep (c : Nat) : ∀ (n : Nat) (acc : Array Nat), (List.replicate n #[c]).foldl (· ++ ·) acc = acc ++ (List.replicate n c).toArray
  | 0, acc => by simp
  | n + 1, acc => by
    rw [List.replicate_succ, List.foldl_cons, fold_rep c n, List.replicate_succ]
    apply Array.ext'
    simp
theorem mul_S {c n : Nat} (h : 2 ≤ n) : Txt.mul (SX.S [c]) (n : Int) = SX.S (List.replicate n c) := by
  unfold Txt.mul
  have e1 : ((n : Int) == 1) = false := beq_eq_false_iff_ne.mpr (by omega)
  have e2 : ((SX.S [c]).length == 0) = false := rfl
  rw [if_neg (by omega), e1, e2, if_neg (by decide), Int.toNat_natCast]
  have := fold_rep c n #[]
  show (⟨(List.replicate n #[c]).foldl (· ++ ·) #[]⟩ : Str) = _
  rw [this]
  simp
theorem mul_ok {c n : Nat} (h : 2 ≤ n) (h2 : n ≤ 1000) : MulOk (SX.S [c]) (n : Int) := by
  have l1 : (SX.S [c]).length = 1 := rfl
  refine ⟨by rw [decide_eq_false (by omega), decide_eq_false (by omega)]; rfl, fun _ _ => ?_, fun _ _ => ?_⟩
  · rw [l1]
    have : (1 : Int) ≤ (2 ^ 63 - 1) / (n : Int) := Int.le_ediv_of_mul_le (by omega) (by omega)
    omega
  · rw [l1, Int.toNat_natCast]
    exact decide_eq_false (by have : sizeLine = 16777216 := rfl
                              omega)
theorem op_mulS {X : Cx} : OpR X (binaryOp .Mult) rMulS := by
  intro pins s σ H x y v u Q I rx ry h
  obtain ⟨c, n, rfl, rfl, h2, h3, q⟩ := h
  obtain ⟨t, rfl⟩ := rx
  obtain ⟨t', rfl⟩ := ry
  exact SB.mul (mul_ok h2 h3) fun t' k => by rw [mul_S h2]; exact ⟨.str _, H, I.tok _, ⟨_, rfl⟩, q⟩
abbrev rAddS : R2 := fun x y H Q => ∃ i j : Str, x = .str i ∧ y = .str j ∧ i.length + j.length ≤ sizeLine ∧ Q (.str (i ++ j)) H
section
variable {σ : L2.St} {H : Hp} {ta tb : TE} {a b p q : List Nat}
theorem ev_mulS {n : Nat} {c : Nat} {x : Str} (h : Ev ta σ H (.str x)) (e : x = SX.S [c]) (h2 : Ev tb σ H (.int (n : Int))) (n2 : 2 ≤ n) (n3 : n ≤ 1000) : Ev (tOp rMulS ta tb) σ H (.str (SX.S (List.replicate n c))) := ev_op h h2 fun H1 _ Q q => ⟨c, n, by rw [e], rfl, n2, n3, q H1 (Ex.refl _)⟩
theorem ev_addS {x y : Str} (h : Ev ta σ H (.str x)) (ex : x = SX.S a) (h2 : Ev tb σ H (.str y)) (ey : y = SX.S b) (ln : a.length + b.length ≤ 40000) : Ev (tOp rAddS ta tb) σ H (.str (SX.S (a ++ b))) := ev_op h h2 fun H1 _ Q q => ⟨x, y, rfl, rfl, by rw [ex, ey, SX.S_len, SX.S_len]; exact sz_of (by omega), by rw [ex, ey, SX.S_cat]; exact q H1 (Ex.refl _)⟩
theorem p_S {x : Str} (h : Ev ta σ H (.str x)) (e : x = SX.S p) : EvP ta σ H (Is (.str (SX.S p))) := .of (ev_is h (by rw [e])) mo_is rfl
end
/-! ### _law_wrong -/
def wrongs (t : List Nat) : List (List Nat) := [[], 32 :: t, t ++ [32], 40 :: t, t ++ [41], 40 :: (t ++ [93]), 40 :: 32 :: (t ++ [41]), 40 :: (t ++ [32, 41]), t ++ (32 :: t), 40 :: 49 :: 32 :: 32 :: (t ++ [41]), [45], [48, 49], [45, 48], [65],
  [110, 111, 110, 101, 49], List.replicate 41 49, [40, 44, 41], [110, 79, 110, 101]]
def textV (p : List Nat) : V := .str (SX.S p)
abbrev sWrong : Stmt := Tp.s__law_wrong
theorem scWrong : FnScope ["text", "some"] ["text"] (defScope sWrong) := ⟨rfl, rfl, rfl, by decide +kernel, rfl, by decide +kernel, by decide +kernel⟩
def spWrong : Sp := fun vs H Q _ => vs.length = 1 ∧ ∃ t : List Nat, vs = [.str (SX.S t)] ∧ t.length ≤ 7000 ∧ ∀ y H', Ex H H' → LstV ((wrongs t).map textV) y H' → Q y H'
section
variable {P : Program} {w : World} {K : PySem.W.Frag} {mg : Str → Option Value} {base : Heap}
theorem ok_wrong (D : Dn K mg "_law_wrong" sWrong) : Use P w K mg base 1 "_law_wrong" ["text"] spWrong := by
  refine use_of D scWrong (fun f fd F => F.binds (ps := ["text"]) fun _ _ _ _ _ _ us hl => match us, hl with | [_], _ => rfl) (fun vs H Q E h => h.1) (fun f cdv A outer s H vs Q E hr h => ?_)
  obtain ⟨_, t, rfl, ln, q⟩ := h
  have nd := scWrong.nd
  refine ⟨_, pss_cons (ps_set (i := 1) nd rfl (Or.inl rfl) (pe_lst (pa_cons pe_str (pa_cons (pe_op op_add_str pe_str (pv 0)) (pa_cons (pe_op op_add_str (pv 0) pe_str) (pa_cons (pe_op op_add_str pe_str (pv 0)) (pa_cons (pe_op op_add_str (pv 0) pe_str) (pa_cons (pe_op op_add_str (pe_op op_add_str pe_str (pv 0)) pe_str) (pa_cons (pe_op op_add_str (pe_op op_add_str pe_str (pv 0)) pe_str) pa_nil)))))))))
    (pss_cons (ps_set (i := 1) nd rfl (Or.inl rfl) (pe_op op_cat (pv 1) (pe_lst (pa_cons (pe_op op_add_str (pe_op op_add_str pe_str (pv 0)) pe_str) (pa_cons (pe_op op_add_str (pe_op op_add_str (pv 0) pe_str) (pv 0)) (pa_cons (pe_op op_add_str (pe_op op_add_str pe_str (pv 0)) pe_str) (pa_cons pe_str (pa_cons pe_str (pa_cons pe_str (pa_cons pe_str pa_nil))))))))))
    (pss_one (ps_ret (pe_op op_cat (pv 1) (pe_lst (pa_cons pe_str (pa_cons (pe_op op_mulS pe_str pe_int) (pa_cons pe_str (pa_cons pe_str pa_nil))))))))), ?_⟩
  have v0 : ∀ {σ : L2.St} {H1 : Hp}, σ[0]? = some (some (.str (SX.S t))) → Ev (tVar 0) σ H1 (.str (SX.S t)) := fun h => ev_var h
  refine d_asg (P := LstV ([[], 32 :: t, t ++ [32], 40 :: t, t ++ [41], 40 :: (t ++ [93]), 40 :: 32 :: (t ++ [41])].map textV)) (p_lstV (ps_cons mo_is (p_S ev_c rfl) (ps_cons mo_is (p_S (ev_addS (a := [32]) ev_c rfl (ev_var rfl) rfl (by simp; omega)) rfl) (ps_cons mo_is (p_S (ev_addS (b := [32]) (ev_var rfl) rfl ev_c rfl (by simp; omega)) rfl) (ps_cons mo_is (p_S (ev_addS (a := [40]) ev_c rfl (ev_var rfl) rfl (by simp; omega)) rfl)
    (ps_cons mo_is (p_S (ev_addS (b := [41]) (ev_var rfl) rfl ev_c rfl (by simp; omega)) rfl) (ps_cons mo_is (p_S (ev_addS (b := [93]) (ev_addS (a := [40]) ev_c rfl (ev_var rfl) rfl (by simp; omega)) rfl ev_c rfl (by simp; omega)) rfl) (ps_cons mo_is (p_S (ev_addS (b := [41]) (ev_addS (a := [40, 32]) ev_c rfl (ev_var rfl) rfl (by simp; omega)) rfl ev_c rfl (by simp; omega)) rfl) ps_nil)))))))) fun y1 H1 e1 h1 => ?_
  refine d_asg (P := LstV (([[], 32 :: t, t ++ [32], 40 :: t, t ++ [41], 40 :: (t ++ [93]), 40 :: 32 :: (t ++ [41])].map textV) ++ ([40 :: (t ++ [32, 41]), t ++ (32 :: t), 40 :: 49 :: 32 :: 32 :: (t ++ [41]), [45], [48, 49], [45, 48], [65]].map textV))) (p_catV (p_var rfl mo_lstV h1) (p_lstV (ps_cons mo_is (p_S (ev_addS (b := [32, 41]) (ev_addS (a := [40]) ev_c rfl (ev_var rfl) rfl (by simp; omega)) rfl ev_c rfl (by simp; omega)) rfl)
    (ps_cons mo_is (p_S (ev_addS (b := t) (ev_addS (b := [32]) (ev_var rfl) rfl ev_c rfl (by simp; omega)) rfl (ev_var rfl) rfl (by simp; omega)) (by rw [List.append_assoc]; rfl)) (ps_cons mo_is (p_S (ev_addS (b := [41]) (ev_addS (a := [40, 49, 32, 32]) ev_c rfl (ev_var rfl) rfl (by simp; omega)) rfl ev_c rfl (by simp; omega)) rfl) (ps_cons mo_is (p_S ev_c rfl) (ps_cons mo_is (p_S ev_c rfl) (ps_cons mo_is (p_S ev_c rfl) (ps_cons mo_is (p_S ev_c rfl) ps_nil))))))))) fun y2 H2 e2 h2 => ?_
  exact d_ret (P := LstV ((([[], 32 :: t, t ++ [32], 40 :: t, t ++ [41], 40 :: (t ++ [93]), 40 :: 32 :: (t ++ [41])].map textV) ++ ([40 :: (t ++ [32, 41]), t ++ (32 :: t), 40 :: 49 :: 32 :: 32 :: (t ++ [41]), [45], [48, 49], [45, 48], [65]].map textV)) ++ ([[110, 111, 110, 101, 49], List.replicate 41 49, [40, 44, 41], [110, 79, 110, 101]].map textV))) (p_catV (p_var rfl mo_lstV h2) (p_lstV (ps_cons mo_is (p_S ev_c rfl)
    (ps_cons mo_is (p_S (ev_mulS (n := 41) (c := 49) ev_c rfl ev_c (by decide) (by decide)) rfl) (ps_cons mo_is (p_S ev_c rfl) (ps_cons mo_is (p_S ev_c rfl) ps_nil)))))) fun y3 H3 e3 h3 => q y3 H3 (e1.trans (e2.trans e3)) h3
end
/-! ### _law_refused -/
abbrev sRefused : Stmt := Tp.s__law_refused
abbrev nRef : List Str := ["text", "e"]
theorem scRefused : FnScope nRef ["text"] (defScope sRefused) := ⟨rfl, rfl, rfl, by decide +kernel, rfl, by decide +kernel, by decide +kernel⟩
def spRefused : Sp := fun vs H Q _ => vs.length = 1 ∧ ∃ x d, vs = [x] ∧ Dq H x d ∧ Repable d ∧ ((∃ t : List Nat, x = .str (SX.S t) ∧ t.length ≤ 15000 ∧ readL t = none) ∨ isS d = false) ∧ ∀ y H', Ex H H' → LstV [.str d.shown, .bl true] y H' → Q y H'
structure ErrT (K : PySem.W.Frag) (mg : Str → Option Value) (CB CX : Addr) : Prop where
  mB : mg "BadText" = some (.ref CB)
  mX : mg "PactError" = some (.ref CX)
  xf : XfC K CB ∧ PySem.W.findIn K (.ref CB) "value" = some none
  ex : PySem.W.exmOne K (.ref CB) (.ref CB) = some true
  is_ : ExcC K CB ∧ PySem.W.kitOne K (.ref CB) (.ref CX) = some true
  repr : mg "repr" = none
  isi : mg "isinstance" = none
def clB (K : PySem.W.Frag) (CB CX : Addr) : Cl := ⟨.ref CB, some 1, fun a k d => tRet (tLst (tCons (tCB (rReprD K) (tCons (tXf a k d CB "value" (tVar 1)) tNil)) (tCons (tCB (rIsX30 K a k d) (tCons (tVar 1) (tCons (tC (.ref CX)) tNil))) tNil)))⟩
section
variable {P : Program} {w : World} {K : PySem.W.Frag} {mg : Str → Option Value} {base : Heap} {CB CX : Addr}
theorem ok_refused (D : Dn K mg "_law_refused" sRefused) (R : ErrT K mg CB CX) (U : UseX P w K mg base 4 "read_value" ["text"] (spRead CB)) : UseG P w K mg base 5 "_law_refused" ["text"] spRefused := by
  refine useG0_of D scRefused (fun f fd F => F.binds (ps := ["text"]) fun _ _ _ _ _ _ us hl => match us, hl with | [_], _ => rfl) (fun vs H Q E h => h.1) (fun f cdv A outer s H vs Q E hr hg h => ?_)
  obtain ⟨_, x, d, rfl, hd, hR, bad, q⟩ := h
  have hU : ∀ v : Option Value, ((A.deeper (envOfC "_law_refused" (defScope sRefused) s.heap.objs.size f cdv)).mark v).units + 64 < cLine := fun v => by
    have e : ((A.deeper (envOfC "_law_refused" (defScope sRefused) s.heap.objs.size f cdv)).mark v).units = (A.deeper (envOfC "_law_refused" (defScope sRefused) s.heap.objs.size f cdv)).units := rfl
    have := hr.un
    omega
  refine ⟨_, pss_one (ps_try_clauses (X := (cxOf CX0 P w K mg base nRef "_law_refused" (defScope sRefused) f cdv A outer s H E).nox)
      (tb := fun W => tRet (tLst (tCons (tC (.str "read")) (tCons (tCall (spRead CB) [] (fun k d H' => ∀ σ' : L2.St, σ'.length = 2 → W k d σ' H') (tCons (tVar 0) tNil)) tNil)))) (l := [clB K CB CX]) rfl rfl scRefused.nd LamX.takes0 (fun W pn xe tk _ => ?body) ?cls), ?_⟩
  case body =>
    have ps : Passes (L2.CX P w) ((cxOf CX0 P w K mg base nRef "_law_refused" (defScope sRefused) f cdv A outer s H E).nox.tr pn xe) (fun k d H' => ∀ σ' : L2.St, σ'.length = 2 → W k d σ' H') := passes_call (takes_len tk) fun _ _ σ _ h l => h σ l
    exact pss_one (ps_ret (pe_lst (pa_cons pe_str (pa_cons (pe_useX U hr (by decide) (by rfl) ps (pa_cons (pv 0) pa_nil)) pa_nil))))
  case cls =>
    show Cls _ _ [clB K CB CX]
    refine .named rfl rfl ⟨by rfl, by decide, .inl R.mB⟩ (fun a o k d pn hz hf => ?_) .nil
    have hb : ∀ {p1 : Pos}, attributeBase (.Name "e" p1) "value" (cxOf CX0 P w K mg base nRef "_law_refused" (defScope sRefused) f cdv A outer s H E).nox.env (eval (.Name "e" p1) (cxOf CX0 P w K mg base nRef "_law_refused" (defScope sRefused) f cdv A outer s H E).nox.env) = eval (.Name "e" p1) (cxOf CX0 P w K mg base nRef "_law_refused" (defScope sRefused) f cdv A outer s H E).nox.env := rfl
    exact pss_one (ps_ret (pe_lst (pa_cons (pe_callB (X := (cxOf CX0 P w K mg base nRef "_law_refused" (defScope sRefused) f cdv A outer s H E).nox.suite a ((a, o) :: pn)) (id := "repr") (cr_reprD hg (hU _)) (by rfl) R.repr (by decide +kernel) (pa_cons (pe_xf R.xf.1 R.xf.2 hz hf (pv 1) (hb := hb)) pa_nil))
      (pa_cons (pe_callB (X := (cxOf CX0 P w K mg base nRef "_law_refused" (defScope sRefused) f cdv A outer s H E).nox.suite a ((a, o) :: pn)) (id := "isinstance") (call_isX30 hz hf) (by rfl) R.isi boot_isinstance (pa_cons (pv 1) (pa_cons (pe_gref (by rfl) R.mX) pa_nil))) pa_nil))))
  have hE : ∀ (W0 : WX) (D0 : Ends), D0.rt = Q → ErrQ CB x H fun k d H' => ∀ σ' : L2.St, σ'.length = 2 → wish K W0 D0 [clB K CB CX] k d σ' H' := by
    rintro W0 D0 hrt o H' e ho σ' hl
    refine ⟨true, R.ex, fun _ a ha => ?_, fun z => nomatch z⟩
    have at1 : (σ'.set 1 (some (V.ref a)))[1]? = some (some (V.ref a)) := by
      rw [List.getElem?_set_self (by omega)]
    have eA : Ex H (upd H' o (.xd [("value", x)])) := e.trans (Ex.new ho)
    have hv := dq_up eA hd
    have hx : (upd H' o (.xd [("value", x)])) o = some (.xd [("value", x)]) := upd_same
    generalize upd H' o (.xd [("value", x)]) = H2 at eA hv hx ⊢
    rw [← hrt] at q
    exact ⟨.ref a, at1, rfl, rfl, o, _, x, rfl, hx, lk1, x, d, rfl, dq_dp hv, hR, .ref a, at1, CB, o, _, .ref CX, .ref CX, true, rfl, rfl, rfl, hx, R.is_.1, (fun u h => h), R.is_.2, (show 2 ≤ sizeLine by decide), fun p hp => q _ _ (eA.trans (Ex.new hp)) ⟨p, rfl, upd_same⟩⟩
  refine ⟨x, rfl, ?_⟩
  show spRead CB [x] H _ _
  refine ⟨rfl, ?_⟩
  rcases bad with ⟨t, rfl, ln, hn⟩ | hn
  · exact .inl ⟨t, rfl, ln, fun d hd => (by rw [hn] at hd; cases hd), fun _ => hE _ _ rfl⟩
  · exact .inr ⟨x, d, rfl, hd, hn, hE _ _ rfl⟩
end
end N40
set_option maxHeartbeats 4000000
/-! k40: the law's own body. -/
namespace N40
open PySem PySem.Spec PyProof.Rows L2 Evl Pd Gd Us Chk Lw Fm
/-! ### signs -/
theorem plain_chars {t : List Nat} (h : isPlain t = true) : ∀ c ∈ t, c < 128 := by
  unfold isPlain at h
  simp only [Bool.and_eq_true, Bool.or_eq_true] at h
  rcases h.2 with h | h | h
  · unfold constOf at h
    split at h
    · rename_i e; subst e; decide
    · split at h
      · rename_i e; subst e; decide
      · split at h
        · rename_i e; subst e; decide
        · cases h
  · intro c hc
    have := List.all_eq_true.mp h c hc
    unfold isLet at this
    simp only [Bool.and_eq_true, decide_eq_true_eq] at this
    omega
  · unfold isInt at h
    simp only [Bool.and_eq_true] at h
    have al := h.2.2.1
    intro c hc
    have key : c ∈ digsOf t ∨ c = 45 := by
      unfold digsOf
      split
      · rename_i e
        cases t with
        | nil => cases e
        | cons a r =>
          cases e
          rcases List.mem_cons.mp hc with rfl | hc
          · exact .inr rfl
          · exact .inl hc
      · exact .inl hc
    rcases key with k | rfl
    · have := List.all_eq_true.mp al c k
      unfold isDig at this
      simp only [Bool.and_eq_true, decide_eq_true_eq] at this
      omega
    · decide
theorem join_chars : ∀ {ps : List (List Nat)} {c : Nat}, c ∈ TL.joinL [32] ps → c = 32 ∨ ∃ p ∈ ps, c ∈ p
  | [], c, h => by cases h
  | [p], c, h => .inr ⟨p, List.mem_cons_self, by rw [join_one] at h; exact h⟩
  | p :: q :: ps, c, h => by
    rw [join_cons] at h
    rcases List.mem_append.mp h with h | h
    · exact .inr ⟨p, List.mem_cons_self, h⟩
    · rcases List.mem_append.mp h with h | h
      · exact .inl (List.mem_singleton.mp h)
      · rcases join_chars h with h | ⟨x, hx, h⟩
        · exact .inl h
        · exact .inr ⟨x, List.mem_cons_of_mem _ hx, h⟩
theorem val_chars : ∀ (n : Nat) (d : PyData), ValV n d → ∀ c ∈ wrL d, c < 128
  | 0, d, h => plain_chars (leaf_drawn h).plain
  | n + 1, d, h => by
    rcases h with h | ⟨ds, l, hd, e⟩
    · exact plain_chars (leaf_drawn h).plain
    · have j : ∀ c ∈ TL.joinL [32] (ds.map wrL), c < 128 := fun c hc => by
        rcases join_chars hc with rfl | ⟨p, hp, h⟩
        · decide
        · obtain ⟨x, hx, rfl⟩ := List.mem_map.mp hp
          exact val_chars n x (hd x hx) c h
      have w1 : wrL (.tuple ds) = 40 :: (TL.joinL [32] (ds.map wrL) ++ [41]) := by rw [← wrAll_map]; rfl
      have w2 : wrL (.list ds) = 91 :: (TL.joinL [32] (ds.map wrL) ++ [93]) := by rw [← wrAll_map]; rfl
      intro c hc
      rcases e with rfl | rfl
      · rw [w1] at hc
        simp only [List.mem_cons, List.mem_append, List.not_mem_nil, or_false] at hc
        rcases hc with rfl | hc | rfl
        · decide
        · exact j c hc
        · decide
      · rw [w2] at hc
        simp only [List.mem_cons, List.mem_append, List.not_mem_nil, or_false] at hc
        rcases hc with rfl | hc | rfl
        · decide
        · exact j c hc
        · decide
theorem text_rep {p : List Nat} (h : ∀ c ∈ p, c < 128) (l : p.length ≤ 20000) : Repable (.str (SX.S p)) := by
  refine ⟨rfl, rfl, Nat.zero_le _, ?_, fun i e => by cases e⟩
  have := PySem.StrLaws.reprText_len (SX.S p) fun c hc => Nat.lt_trans (h c (by simpa [SX.S] using hc)) (by decide)
  have e : (PyData.str (SX.S p)).shown = reprText (SX.S p) := by simp only [PyData.shown]
  rw [e]
  have e3 : (SX.S p).length = p.length := SX.S_len p
  have z : sizeLine = 16777216 := rfl
  omega
theorem ca {a b : List Nat} (h1 : ∀ c ∈ a, c < 128) (h2 : ∀ c ∈ b, c < 128) : ∀ c ∈ a ++ b, c < 128 := fun c h => by
  rcases List.mem_append.mp h with h | h
  · exact h1 c h
  · exact h2 c h
def Bad (p : List Nat) : Prop := readL p = none ∧ p.length ≤ 15000 ∧ Repable (.str (SX.S p))
theorem bad_bent {p : List Nat} (h : p ∈ bents) : Bad p := by
  refine ⟨Option.isNone_iff_eq_none.mp (bents_none p h), ?_, text_rep ?_ ?_⟩
  · exact (show ∀ p ∈ bents, p.length ≤ 15000 by decide +kernel) p h
  · exact (show ∀ p ∈ bents, ∀ c ∈ p, c < 128 by decide +kernel) p h
  · exact (show ∀ p ∈ bents, p.length ≤ 20000 by decide +kernel) p h
theorem wrongs_bad {d : PyData} (h : ValV 4 d) : ∀ p ∈ wrongs (wrL d), Bad p := by
  have g := val_good 4 d h
  have ch := val_chars 4 d h
  have ln := val_short 4 d h
  have l4 := lenB_4 4 (by decide)
  have rest : ∀ p : List Nat, p.length ≤ 15000 → (∀ c ∈ p, c < 128) → readL p = none → Bad p := fun p l c r => ⟨r, l, text_rep c (by omega)⟩
  have six : ∀ P : List Nat → Prop, (∀ p ∈ bents, P p) → P [] ∧ P [45] ∧ P [48, 49] ∧ P [45, 48] ∧ P [65] ∧ P [110, 111, 110, 101, 49] ∧ P (List.replicate 41 49) ∧ P [40, 44, 41] ∧ P [110, 79, 110, 101] := fun P h => by
    unfold bents at h
    simp only [List.forall_mem_cons] at h
    obtain ⟨h1, h2, h3, h4, h5, h6, h7, h8, h9, _⟩ := h
    exact ⟨h1, h2, h3, h4, h5, h6, h7, h8, h9⟩
  obtain ⟨h1, h2, h3, h4, h5, h6, h7, h8, h9⟩ := six Bad fun p hp => bad_bent hp
  intro p hp
  unfold wrongs at hp
  simp only [List.mem_cons, List.not_mem_nil, or_false] at hp
  rcases hp with rfl | rfl | rfl | rfl | rfl | rfl | rfl | rfl | rfl | rfl | rfl | rfl | rfl | rfl | rfl | rfl | rfl | rfl
  · exact h1
  · exact rest _ (by simp only [List.length_cons]; omega) (ca (a := [32]) (by decide) ch) (bent1 g)
  · exact rest _ (by simp only [List.length_append, List.length_cons, List.length_nil]; omega) (ca ch (by decide)) (bent2 g)
  · exact rest _ (by simp only [List.length_cons]; omega) (ca (a := [40]) (by decide) ch) (bent3 g (by decide))
  · exact rest _ (by simp only [List.length_append, List.length_cons, List.length_nil]; omega) (ca ch (by decide)) (bent4 g (by decide))
  · exact rest _ (by simp only [List.length_append, List.length_cons, List.length_nil]; omega) (ca (a := [40]) (by decide) (ca ch (by decide))) (bent5 g (by decide))
  · exact rest _ (by simp only [List.length_append, List.length_cons, List.length_nil]; omega) (ca (a := [40, 32]) (by decide) (ca ch (by decide))) (bent6 g)
  · exact rest _ (by simp only [List.length_append, List.length_cons, List.length_nil]; omega) (ca (a := [40]) (by decide) (ca ch (by decide))) (bent7 g)
  · exact rest _ (by simp only [List.length_append, List.length_cons, List.length_nil]; omega) (ca ch (ca (a := [32]) (by decide) ch)) (bent8 g (by decide))
  · exact rest _ (by simp only [List.length_append, List.length_cons, List.length_nil]; omega) (ca (a := [40, 49, 32, 32]) (by decide) (ca ch (by decide))) (bent9 g)
  · exact h2
  · exact h3
  · exact h4
  · exact h5
  · exact h6
  · exact h7
  · exact h8
  · exact h9
/-! ### twenty deep -/
theorem nest_len : ∀ n, (wrL (nest n)).length = 2 * n + 2
  | 0 => rfl
  | n + 1 => by
    have e : wrL (nest (n + 1)) = 40 :: (wrL (nest n) ++ [41]) := rfl
    rw [e]
    simp only [List.length_cons, List.length_append, List.length_nil, nest_len n]
    omega
theorem nest_wr : ∀ n, n ≤ 100 → Wr (n + 1) (nest n)
  | 0, _ => .inr ⟨[], by decide, fun _ z => (nomatch z), by decide, .inl rfl⟩
  | n + 1, h => .inr ⟨[nest n], by simp, fun x hx => by rw [List.mem_singleton.mp hx]; exact nest_wr n (by omega), by rw [nest_len]; omega, .inl rfl⟩
theorem nest_good : ∀ n, GoodV (n + 1) (nest n)
  | 0 => .inr ⟨[], by decide, fun _ z => (nomatch z), .inl rfl⟩
  | n + 1 => .inr ⟨[nest n], by simp, fun x hx => by rw [List.mem_singleton.mp hx]; exact nest_good n, .inl rfl⟩
def deepL : List Nat := List.replicate 20 40 ++ List.replicate 20 41
theorem deep_wr : wrL (nest 19) = deepL := by decide +kernel
theorem deep_read : readL deepL = some (nest 19) := by rw [← deep_wr]; exact read_back (nest_good 19) (Nat.le_refl _)
def onesL : List Nat := List.replicate 40 49
theorem ones_int : isInt onesL = true := by decide +kernel
theorem ones_read : readL onesL = some (.int (valI onesL)) := by kernel_rfl
def deep21 : List Nat := List.replicate 21 40 ++ List.replicate 21 41
def odds : List PyData := [.none, .int 7, .tuple [.str "a"], .list [.str "a"], .bool true, .str (SX.S deep21)]
theorem odds_rep : ∀ d ∈ odds, Repable d := fun d hd => reb_ok ((List.all_eq_true.mp (show odds.all reb = true by decide +kernel)) d hd)
/-! ### the law -/
section
variable {σ : L2.St} {H : Hp} {te : TE} {E : XK} {CB : Addr} {d : PyData} {t : List Nat}
theorem p_read (h : Ev te σ H (.str (SX.S t))) (ln : t.length ≤ 15000) (r : readL t = some d) : EvP (tCall (spRead CB) [] E (tCons te tNil)) σ H (Qe d) := fun H1 e Q q =>
  h H1 e _ fun H2 e2 => ⟨rfl, .inl ⟨t, rfl, ln, fun d' hd' v H3 e3 hv => by rw [r] at hd'; cases hd'; exact q v H3 (e2.trans e3) hv, fun z => by rw [r] at z; cases z⟩⟩
theorem ev_write {n : Nat} (h : EvP te σ H (Qe d)) (hw : Wr n d) : Ev (tCall (spWrite n) [] E (tCons te tNil)) σ H (.str (SX.S (wrL d))) := fun H1 e Q q =>
  h H1 e _ fun x H2 e2 p => ⟨rfl, x, d, rfl, p, hw, fun H3 e3 => q H3 (e2.trans e3)⟩
theorem p_refused (h : EvP te σ H (Qe d)) (R : Repable d) (b : (∃ t : List Nat, d = .str (SX.S t) ∧ t.length ≤ 15000 ∧ readL t = none) ∨ isS d = false) : EvP (tCall spRefused [] E (tCons te tNil)) σ H (LstV [.str d.shown, .bl true]) := fun H1 e Q q =>
  h H1 e _ fun x H2 e2 p => ⟨rfl, x, d, rfl, p, R, by
    rcases b with ⟨t, rfl, ln, r⟩ | b
    · cases p
      exact .inl ⟨t, rfl, ln, r⟩
    · exact .inr b, fun y H3 e3 hy => q y H3 (e2.trans e3) hy⟩
theorem ev_intS (h : Ev te σ H (.str (SX.S t))) (i : isInt t = true) (l : t.length ≤ 640) : Ev (tCB (fun xs H Q => ∃ (a : Str) (n : Int), xs = [V.str a] ∧ PySem.intText? a = some n ∧ a.length ≤ 640 ∧ Q (.int n) H) (tCons te tNil)) σ H (.int (valI t)) := fun H1 e Q q =>
  h H1 e _ fun H2 e2 => ⟨SX.S t, valI t, rfl, int_text i, by rw [SX.S_len]; exact l, q H2 e2⟩
theorem lstV_q {ps : List (List Nat)} {x : V} (h : LstV (ps.map textV) x H) (l : ps.length ≤ 100000) : Qe (.list (ps.map fun p => .str (SX.S p))) x H := by
  obtain ⟨a, rfl, ha⟩ := h
  refine .lst (by rw [List.length_map]; exact l) ha ?_
  clear ha l
  induction ps with
  | nil => exact .nil
  | cons p ps ih => exact .cons (.str _) ih
end
abbrev sLaw : Stmt := Tp.s_law
abbrev nLaw : List Str := ["script", "turn", "pool", "value", "text", "wrong", "odd", "deep"]
theorem scLaw : FnScope nLaw ["script"] (defScope sLaw) := ⟨rfl, rfl, rfl, by decide +kernel, rfl, by decide +kernel, by decide +kernel⟩
def spLaw (K : PySem.W.Frag) : Sp := fun vs H Q _ => vs.length = 1 ∧ ∃ (a : Addr) (ns : List Int), vs = [.ref a] ∧ SqL K H a (ns.map V.int) ∧ ns.length ≤ 63 ∧ ∀ H', Q (.bl true) H'
structure Calls40 (P : Program) (w : World) (K : PySem.W.Frag) (mg : Str → Option Value) (base : Heap) (CB : Addr) : Prop where
  opened : Use P w K mg base 3 "_law_opened" ["script", "k", "many"] (spOpened K)
  value : Use P w K mg base 7 "_law_value" ["pool", "deep"] (spValue K 4)
  text : Use P w K mg base 5 "_law_text" ["value"] (spWrite 4)
  write : Use P w K mg base 21 "write_value" ["value"] (spWrite 20)
  read : UseX P w K mg base 4 "read_value" ["text"] (spRead CB)
  wrong : Use P w K mg base 1 "_law_wrong" ["text"] spWrong
  refused : UseG P w K mg base 5 "_law_refused" ["text"] spRefused
  bt : Bt mg
  min : mg "min" = none
  repr : mg "repr" = none
section
variable {P : Program} {w : World} {K : PySem.W.Frag} {mg : Str → Option Value} {base : Heap} {CB f : Addr} {fd : FuncData}
theorem ok_law (F : Fun K "law" "law" sLaw f fd) (S : Calls40 P w K mg base CB) : FnG P w K mg base CX0 22 f fd ["script"] (spLaw K) := by
  refine okG F scLaw (fun vs H Q E h => h.1) (fun cdv A outer sh H vs Q E hr hg h => ?_)
  obtain ⟨_, a, ns, rfl, hS, hn, q⟩ := h
  have nd := scLaw.nd
  have hu : (A.deeper (envOfC "law" (defScope sLaw) sh.heap.objs.size f cdv)).units + 64 < cLine := by have := hr.un; omega
  have hu0 : (A.deeper (envOfC "law" (defScope sLaw) sh.heap.objs.size f cdv)).units < cLine := by omega
  have ps0 : Passes (L2.CX P w) (cxOf CX0 P w K mg base nLaw "law" (defScope sLaw) f cdv A outer sh H E).nox (fun _ _ _ => False) := passes_call LamX.takes0 fun _ _ _ _ h => h
  refine ⟨_, pss_cons (ps_for PassesOwn.never rfl (pi_range1 (by rfl) S.bt.range (pa_cons (pe_callB (call_max2 rfl) (by rfl) S.bt.max (by decide +kernel) (pa_cons pe_int (pa_cons (pe_callB (call_min2 rfl) (by rfl) S.min (by decide +kernel) (pa_cons (pe_callB call_len_seq (by rfl) S.bt.len PySem.boot_len (pa_cons (pv 0) pa_nil)) (pa_cons pe_int pa_nil))) pa_nil))) pa_nil)) (pg_name (i := 1) nd rfl (Or.inl rfl))
      (pss_cons (ps_set (i := 2) nd rfl (Or.inl rfl) (pe_use S.opened hr (by decide) (by rfl) (pa_cons (pv 0) (pa_cons (pv 1) (pa_cons pe_int pa_nil)))))
      (pss_cons (ps_set (i := 3) nd rfl (Or.inl rfl) (pe_use S.value hr (by decide) (by rfl) (pa_cons (pv 2) (pa_cons pe_int pa_nil))))
      (pss_cons (ps_set (i := 4) nd rfl (Or.inl rfl) (pe_use S.text hr (by decide) (by rfl) (pa_cons (pv 3) pa_nil)))
      (pss_cons (ps_if (PW.pt (pw_or (pt_cmpR op_ne (pe_use S.write hr (by decide) (by rfl) (pa_cons (pv 3) pa_nil)) (pv 4) (nomark _)) (pw_or1 (pt_cmpR (r := rNeD K) (op_neD hu) (pe_useX (E := fun _ _ _ => False) S.read hr (by decide) (by rfl) ps0 (pa_cons (pv 4) pa_nil)) (pv 3) (nomark _))))) (pss_one (ps_ret pe_bl)) pss_nil)
      (pss_cons (ps_if (pt_cmpR op_ne (pe_callB (id := "repr") (cr_reprD hg hu) (by rfl) S.repr (by decide +kernel) (pa_cons (pe_useX (E := fun _ _ _ => False) S.read hr (by decide) (by rfl) ps0 (pa_cons (pv 4) pa_nil)) pa_nil)) (pe_callB (id := "repr") (cr_reprD hg hu) (by rfl) S.repr (by decide +kernel) (pa_cons (pv 3) pa_nil)) (nomark _)) (pss_one (ps_ret pe_bl)) pss_nil)
      (pss_cons (ps_for PassesOwn.never rfl (pi_list (pe_use S.wrong hr (by decide) (by rfl) (pa_cons (pv 4) pa_nil))) (pg_name (i := 5) nd rfl (Or.inl rfl))
        (pss_one (ps_if (pt_cmpR (r := rLs K false) (op_neLs hu0) (pe_useG S.refused hr (by decide) hg (by rfl) (pa_cons (pv 5) pa_nil)) (pe_lst (pa_cons (pe_callB (id := "repr") (cr_reprD hg hu) (by rfl) S.repr (by decide +kernel) (pa_cons (pv 5) pa_nil)) (pa_cons pe_bl pa_nil))) (nomark _)) (pss_one (ps_ret pe_bl)) pss_nil)))
      (pss_cons (ps_for PassesOwn.never rfl (pi_list (pe_lst (pa_cons pe_non (pa_cons pe_int (pa_cons (pe_tup (pa_cons pe_str pa_nil)) (pa_cons (pe_lst (pa_cons pe_str pa_nil)) (pa_cons pe_bl (pa_cons (pe_op op_add_str (pe_op op_mulS pe_str pe_int) (pe_op op_mulS pe_str pe_int)) pa_nil)))))))) (pg_name (i := 6) nd rfl (Or.inl rfl))
        (pss_one (ps_if (pt_cmpR (r := rLs K false) (op_neLs hu0) (pe_useG S.refused hr (by decide) hg (by rfl) (pa_cons (pv 6) pa_nil)) (pe_lst (pa_cons (pe_callB (id := "repr") (cr_reprD hg hu) (by rfl) S.repr (by decide +kernel) (pa_cons (pv 6) pa_nil)) (pa_cons pe_bl pa_nil))) (nomark _)) (pss_one (ps_ret pe_bl)) pss_nil)))
      (pss_cons (ps_set (i := 7) nd rfl (Or.inl rfl) (pe_op op_add_str (pe_op op_mulS pe_str pe_int) (pe_op op_mulS pe_str pe_int)))
      (pss_one (ps_if (PW.pt (pw_or (pt_cmpR op_ne (pe_use S.write hr (by decide) (by rfl) (pa_cons (pe_useX (E := fun _ _ _ => False) S.read hr (by decide) (by rfl) ps0 (pa_cons (pv 7) pa_nil)) pa_nil)) (pv 7) (nomark _)) (pw_or1 (pt_cmpR op_ne (pe_useX (E := fun _ _ _ => False) S.read hr (by decide) (by rfl) ps0 (pa_cons (pe_op op_mulS pe_str pe_int) pa_nil)) (pe_callTy call_int_str (by rfl) S.bt.int Chk.boot_int (pa_cons (pe_op op_mulS pe_str pe_int) pa_nil)) (nomark _))))) (pss_one (ps_ret pe_bl)) pss_nil)))))))))))
    (pss_one (ps_ret pe_bl)), ?_⟩
  have nl : (ns.map V.int).length = ns.length := List.length_map _
  refine q_forR1 (n := if (if (25 : Int) < ((ns.map V.int).length : Int) then 25 else ((ns.map V.int).length : Int)) > 1 then (if (25 : Int) < ((ns.map V.int).length : Int) then 25 else ((ns.map V.int).length : Int)) else 1)
    (ea_cons (Fm.ev_max2 ev_c (Fm.ev_min2 (ev_len (K := K) (ev_var rfl) hS) ev_c)) ea_nil) (by rw [nl]; split <;> split <;> omega) (fun i σ' H' => ∃ o1 o2 o3 o4 o5 o6 o7, σ' = [some (.ref a), o1, o2, o3, o4, o5, o6, o7] ∧ Ex H H')
    (fun H1 e1 => ⟨_, _, _, _, _, _, _, rfl, e1⟩) ?turn ?done
  case done =>
    rintro σ' H' ⟨o1, o2, o3, o4, o5, o6, o7, rfl, g1⟩
    exact d_ret (P := Is (.bl true)) p_c fun v H2 e2 hv => by
      cases hv
      exact q H2
  case turn =>
    rintro i σ' H1 hi ⟨o1, o2, o3, o4, o5, o6, o7, rfl, g1⟩
    have hS1 := ex_l g1 hS
    dsimp only [gName, List.set]
    have hi2 : i < 25 := by
      have := hi
      rw [nl] at this
      split at this <;> (try split at this) <;> omega
    have hi3 : ns ≠ [] → i < ns.length := fun ne => by
      have pos : 0 < ns.length := List.length_pos_iff.mpr ne
      have := hi
      rw [nl] at this
      split at this <;> (try split at this) <;> omega
    refine d_asg (P := PoolV K) (fun H2 e2 Q' q' => ⟨.ref a, rfl, .int (i : Int), rfl, rfl, a, ns, (i : Int), 200, rfl, ex_l e2 hS1, by omega, by omega, fun ne => by have := hi3 ne; omega, by omega, by omega, fun x H3 e3 p => q' x H3 e3 p⟩) fun po H2 e2 hpo => ?_
    refine d_asg (P := DrV 4) (fun H3 e3 Q' q' => ⟨po, rfl, rfl, po, rfl, mo_pool _ _ _ e3 hpo, fun y H4 e4 hy => q' y H4 e4 hy⟩) fun vv H3 e3 hvv => ?_
    obtain ⟨d, hd, dq⟩ := hvv
    dsimp only [List.set]
    have g := val_good 4 d hd
    have W4 : Wr 4 d := val_wr 4 d (by decide) hd
    have W20 : Wr 20 d := wr_le W4 16
    have ln := val_short 4 d hd
    have l4 := lenB_4 4 (by decide)
    have rb := read_back g (by decide)
    have rep := val_rep (by decide) hd
    have shp := val_shaped (by decide) hd
    refine q_asg (ev_write (q_var rfl dq) W4) fun H4 e4 => ?_
    dsimp only [List.set]
    have dq4 := dq_up e4 dq
    refine q_when (b := false) (et_is (et_or (et_test (ev_op (ev_write (q_var rfl dq4) W20) (ev_var rfl) (rv_ne rfl))) fun _ => et_test (de_ne shp shp (Chk.EvP.de (K := K) (p_read (ev_var rfl) (by omega) rb)) (Chk.EvP.de (K := K) (q_var rfl dq4)))) (by rw [SeqAt.eqv_refl _ (SeqAt.canLay_of_shaped shp)]; simp)) (fun z => nomatch z) fun _ H5 e5 => ?_
    have dq5 := dq_up e5 dq4
    refine q_when (b := false) (et_is (et_test (ev_op (ev_reprD (K := K) (Chk.EvP.de (K := K) (p_read (ev_var rfl) (by omega) rb)) rep) (ev_reprD (K := K) (Chk.EvP.de (K := K) (q_var rfl dq5)) rep) (rv_ne rfl))) (by simp)) (fun z => nomatch z) fun _ H6 e6 => ?_
    have sol : ∀ {s : Str}, ∀ z ∈ [V.str s, V.bl true], Solid z := fun {s} z hz => by
      simp only [List.mem_cons, List.not_mem_nil, or_false] at hz
      rcases hz with rfl | rfl <;> exact .inl rfl
    have six : ∀ {te : TE} {σ : L2.St} {H : Hp} {d : PyData}, EvP te σ H (Qe d) → Repable d → ((∃ t : List Nat, d = .str (SX.S t) ∧ t.length ≤ 15000 ∧ readL t = none) ∨ isS d = false) → Ev (tOp (rLs K false) (tCall spRefused [] (fun _ _ _ => False) (tCons te tNil)) (tLst (tCons (tCB (rReprD K) (tCons te tNil)) (tCons (tC (.bl true)) tNil)))) σ H (.bl false) := fun h R b =>
      p_neLs sol (p_refused h R b) (p_lstV (ps_cons mo_is (.of (ev_reprD (Chk.EvP.de (K := K) h) R) mo_is rfl) (ps_cons mo_is p_c ps_nil)))
    refine q_forQ (K := K) (ds := (wrongs (wrL d)).map fun p => .str (SX.S p)) ((p_call (P := LstV ((wrongs (wrL d)).map textV)) (Ps := [Is (.str (SX.S (wrL d)))]) (ps_cons mo_is (p_is rfl) ps_nil) fun xs H7 e7 px Q' q' => ?wcall).imp fun x H7 _ h => lstV_q h (by simp [wrongs]))
      (fun σ2 H2 => ∃ o5, σ2 = [some (.ref a), some (.int (i : Int)), some po, some vv, some (.str (SX.S (wrL d))), o5, o6, o7] ∧ Ex H6 H2) (fun H7 e7 => ⟨_, rfl, e7⟩) ?wrong ?behind
    case wcall =>
      match xs, px with
      | [u], ⟨pu, _⟩ =>
        cases pu
        exact ⟨rfl, _, rfl, by omega, fun y H8 e8 hy => q' y H8 e8 hy⟩
    case wrong =>
      rintro H7 e7 dw v σ2 H8 hdw hv ⟨o5, rfl, ex8⟩ e8
      obtain ⟨p, hp, rfl⟩ := List.mem_map.mp hdw
      obtain ⟨b1, b2, b3⟩ := wrongs_bad hd p hp
      dsimp only [List.set]
      exact s_when (b := false) (et_test (six (q_var rfl hv) b3 (.inl ⟨p, rfl, b2, b1⟩))) (fun z => nomatch z) fun _ H9 e9 => ⟨⟨_, rfl, ex8.trans e9⟩, e8.trans e9⟩
    case behind =>
      rintro σ2 H7 ⟨o5, rfl, ex7⟩
      have m21 : EvP _ _ H7 (Qe (.str (SX.S deep21))) := (p_S (σ := [some (.ref a), some (.int (i : Int)), some po, some vv, some (.str (SX.S (wrL d))), o5, o6, o7]) (ev_addS (ev_mulS (n := 21) (c := 40) ev_c rfl ev_c (by decide) (by decide)) rfl (ev_mulS (n := 21) (c := 41) ev_c rfl ev_c (by decide) (by decide)) rfl (by decide)) rfl).imp fun x _ _ h => by cases h; exact .str _
      refine q_forQ (K := K) (ds := odds) (q_lst (ds := odds) (ps_cons mo_qe q_non (ps_cons mo_qe q_int (ps_cons mo_qe (q_tup (ds := [.str "a"]) (ps_cons mo_qe q_str ps_nil)) (ps_cons mo_qe (q_lst (ds := [.str "a"]) (ps_cons mo_qe q_str ps_nil)) (ps_cons mo_qe q_bl (ps_cons mo_qe m21 ps_nil)))))))
        (fun σ2 H2 => ∃ o6, σ2 = [some (.ref a), some (.int (i : Int)), some po, some vv, some (.str (SX.S (wrL d))), o5, o6, o7] ∧ Ex H7 H2) (fun H8 e8 => ⟨_, rfl, e8⟩) ?odd ?last
      case odd =>
        rintro H8 e8 dw v σ2 H9 hdw hv ⟨o6, rfl, ex9⟩ e9
        have R := odds_rep dw hdw
        have b : (∃ t : List Nat, dw = .str (SX.S t) ∧ t.length ≤ 15000 ∧ readL t = none) ∨ isS dw = false := by
          unfold odds at hdw
          simp only [List.mem_cons, List.not_mem_nil, or_false] at hdw
          rcases hdw with rfl | rfl | rfl | rfl | rfl | rfl
          · exact .inr rfl
          · exact .inr rfl
          · exact .inr rfl
          · exact .inr rfl
          · exact .inr rfl
          · exact .inl ⟨deep21, rfl, by decide, Option.isNone_iff_eq_none.mp (bents_none deep21 (by unfold bents deep21; simp))⟩
        dsimp only [List.set]
        exact s_when (b := false) (et_test (six (q_var rfl hv) R b)) (fun z => nomatch z) fun _ HA eA => ⟨⟨_, rfl, ex9.trans eA⟩, e9.trans eA⟩
      case last =>
        rintro σ2 H8 ⟨o6, rfl, ex8⟩
        refine q_asg (v := .str (SX.S deepL)) (ev_addS (ev_mulS (n := 20) (c := 40) ev_c rfl ev_c (by decide) (by decide)) rfl (ev_mulS (n := 20) (c := 41) ev_c rfl ev_c (by decide) (by decide)) rfl (by decide)) fun H9 e9 => ?_
        dsimp only [List.set]
        have ones : ∀ {σ : L2.St} {H : Hp}, Ev (tOp rMulS (tC (.str "1")) (tC (.int 40))) σ H (.str (SX.S onesL)) := ev_mulS (n := 40) (c := 49) ev_c rfl ev_c (by decide) (by decide)
        refine s_when (b := false) (et_is (et_or (et_test (ev_op (ev_is (ev_write (p_read (ev_var rfl) (by decide) deep_read) (nest_wr 19 (by decide))) (by rw [deep_wr])) (ev_var rfl) (rv_ne rfl))) fun _ => et_test (ev_op (x := .int (valI onesL)) (y := .int (valI onesL)) (EvP.ev ((p_read ones (by decide) ones_read).imp fun x _ _ h => by cases h; rfl)) (ev_intS ones ones_int (by decide)) (rv_ne rfl))) (by simp)) (fun z => nomatch z) fun _ HA eA => ⟨_, _, _, _, _, _, _, rfl, ?_⟩
        exact g1.trans (e2.trans (e3.trans (e4.trans (e5.trans (e6.trans (ex7.trans (ex8.trans (e9.trans eA))))))))
end
end N40
set_option maxHeartbeats 1000000
/-! k40: what the top has left. -/
namespace N40
open PySem PySem.Spec PyProof.Rows L2 Evl Pd Gd Us Chk Lw Wlk
/-! ### a dict of the module with text keys -/
section
variable {K : PySem.W.Frag} {w : World} {d : Addr} {es : Array DictEntry} {n : Nat} {ks : List Str} {z : Str}
theorem dic_map (h : He.dicW K d = some (He.keysIn w.params ks)) (D : KDict K w d es n) : es.toList.map He.keyOf = He.keysIn w.params ks := by
  unfold He.dicW at h
  rw [D.at_] at h
  have e : (decide (("dict" : String) = "dict") && ((#[] : Array (Option Value)).isEmpty && !(d == sysModules))) = true := by rw [D.low]; rfl
  have h1 : (match decide (("dict" : String) = "dict") && ((#[] : Array (Option Value)).isEmpty && !(d == sysModules)) with
    | true => some (es.toList.map He.keyOf)
    | false => none) = some (He.keysIn w.params ks) := h
  rw [e] at h1
  exact Option.some.inj h1
theorem dic_key (h : es.toList.map He.keyOf = He.keysIn w.params ks) {e : DictEntry} (he : e ∈ es.toList) : ∃ k t, e.key = .str k t ∧ k ∈ ks := by
  have m : He.keyOf e ∈ He.keysIn w.params ks := by rw [← h]; exact List.mem_map_of_mem he
  obtain ⟨k, hk, ek⟩ := List.mem_map.mp m
  unfold He.keyOf at ek
  split at ek
  · rename_i x t q
    have := (Prod.mk.inj (Option.some.inj ek)).1
    exact ⟨x, t, q, by rw [← this]; exact hk⟩
  · cases ek
theorem ns_none (h : He.dicW K d = some (He.keysIn w.params ks)) (hz : z ∉ ks) : PySem.W.nsIn K d z = some none := by
  obtain ⟨es, n, D⟩ := He.dicW_ok h
  have m := dic_map h D
  unfold PySem.W.nsIn
  rw [D.at_]
  have f : es.toList.find? (fun e => e.key.isStr z) = none := by
    rw [List.find?_eq_none]
    intro e he
    obtain ⟨k, t, q, hk⟩ := dic_key m he
    rw [q]
    intro c
    have : k = z := by simpa [Value.isStr] using c
    exact hz (this ▸ hk)
  have a : es.toList.any (fun e => e.refKey) = false := by
    rw [List.any_eq_false]
    intro e he
    obtain ⟨k, t, q, _⟩ := dic_key m he
    unfold DictEntry.refKey
    rw [q]
    simp
  simp only [f, a]
  rfl
end
def constK : List Str := ["None", "True", "False"]
def closK : List Str := ["(", "["]
theorem exT {K : PySem.W.Frag} {d : Addr} {k s : Str} {t : Tok} (h : PySem.W.nsIn K d k = some (some (.str s t))) : ∃ t, PySem.W.nsIn K d k = some (some (.str s t)) := ⟨t, h⟩
structure RawD (K : PySem.W.Frag) (w : World) (mg : Str → Option Value) (dC dL : Addr) : Prop where
  mC : mg "CONSTANTS" = some (.ref dC)
  hC : He.dicW K dC = some (He.keysIn w.params constK)
  c0 : PySem.W.nsIn K dC "None" = some (some .none)
  c1 : PySem.W.nsIn K dC "True" = some (some (.bool true))
  c2 : PySem.W.nsIn K dC "False" = some (some (.bool false))
  mL : mg "CLOSERS" = some (.ref dL)
  hL : He.dicW K dL = some (He.keysIn w.params closK)
  l0 : ∃ t, PySem.W.nsIn K dL "(" = some (some (.str ")" t))
  l1 : ∃ t, PySem.W.nsIn K dL "[" = some (some (.str "]" t))
section
variable {K : PySem.W.Frag} {w : World} {mg : Str → Option Value} {dC dL : Addr}
theorem conG_of (R : RawD K w mg dC dL) : ConG K w mg := by
  obtain ⟨es, n, D⟩ := He.dicW_ok R.hC
  have kd : ∀ {x : Str} {u : Value} {v : V}, PySem.W.nsIn K dC x = some (some u) → RelV v u → KDct K w dC x v ∧ ∃ u, PySem.W.nsIn K dC x = some (some u) := fun e r => ⟨⟨es, n, _, D.at_, D.lit, e, r⟩, _, e⟩
  refine ⟨dC, es, n, R.mC, D, fun t ht => ns_none R.hC fun m => ?_, fun t v hv => ?_⟩
  · unfold constVv at ht
    unfold constK at m
    simp only [List.mem_cons, List.not_mem_nil, or_false] at m
    split at ht
    · cases ht
    · rename_i n1
      split at ht
      · cases ht
      · rename_i n2
        split at ht
        · cases ht
        · rename_i n3
          rcases m with m | m | m
          · exact n1 (SX.S_inj (m.trans (show ("None" : Str) = SX.S [78, 111, 110, 101] from rfl)))
          · exact n2 (SX.S_inj (m.trans (show ("True" : Str) = SX.S [84, 114, 117, 101] from rfl)))
          · exact n3 (SX.S_inj (m.trans (show ("False" : Str) = SX.S [70, 97, 108, 115, 101] from rfl)))
  · unfold constVv at hv
    split at hv
    · rename_i e; subst e; cases hv; exact kd R.c0 rfl
    · split at hv
      · rename_i e; subst e; cases hv; exact kd R.c1 rfl
      · split at hv
        · rename_i e; subst e; cases hv; exact kd R.c2 rfl
        · cases hv
theorem cloG_of (R : RawD K w mg dC dL) : CloG K w mg := by
  obtain ⟨es, n, D⟩ := He.dicW_ok R.hL
  obtain ⟨t0, e0⟩ := R.l0
  obtain ⟨t1, e1⟩ := R.l1
  exact ⟨dL, R.mL, ⟨es, n, _, D.at_, D.lit, e0, ⟨t0, rfl⟩⟩, ⟨es, n, _, D.at_, D.lit, e1, ⟨t1, rfl⟩⟩⟩
end
/-- isinstance and except of the error that the law makes -/
def isT (K : PySem.W.Frag) (CN CX : Addr) : Bool := xfB K CN && (decide (PySem.W.findIn K (.ref CN) "value" = some none) && (decide (PySem.W.exmOne K (.ref CN) (.ref CN) = some true) && (decide (PySem.W.findIn K (.ref CN) "__class__" = some (some (.builtin "object.__class__"))) && (decide (PySem.W.specialIn K (.builtin "object.__class__") "__get__" = some (some (.builtin "getset_descriptor.__get__"))) &&
  (decide (PySem.W.takesIn K (.builtin "object.__class__") = some true) && (decide (PySem.W.mroIn K CN (.type "object") = some true) && decide (PySem.W.kitOne K (.ref CN) (.ref CX) = some true)))))))
/-- the defs of the values -/
structure RawV (K : PySem.W.Frag) (mg : Str → Option Value) (CB CX : Addr) : Prop where
  B : Bc mg
  range : mg "range" = none
  max : mg "max" = none
  min : mg "min" = none
  repr : mg "repr" = none
  lt : StG mg "LETTERS" lettersS
  dg : StG mg "DIGITS" digitsS
  md : IntG mg "MOST_DIGITS" 40
  dp : IntG mg "DEEPEST" 20
  write : Us.Dn K mg "write_value" sWrite
  isInt : Us.Dn K mg "is_integer_text" sIsIntT
  isPl : Us.Dn K mg "is_plain_text" sIsPlainT
  plain : Us.Dn K mg "plain_value" sPlainV
  take : Us.Dn K mg "take" sTake
  read : Us.Dn K mg "read_value" sRead
  mB : mg "BadText" = some (.ref CB)
  errB : ∃ f, Err.ErrC K CB f "value"
  mX : mg "PactError" = some (.ref CX)
  is_ : isT K CB CX = true
structure RawL (K : PySem.W.Frag) (mg : Str → Option Value) : Prop where
  numbers : Us.Dn K mg "_law_numbers" sNumbers
  pool : Us.Dn K mg "_law_pool" sPool
  draw : Us.Dn K mg "_law_draw" sDraw
  pick : Us.Dn K mg "_law_pick" sPick
  opened : Us.Dn K mg "_law_opened" sOpened
  value : Us.Dn K mg "_law_value" sValue
  text : Us.Dn K mg "_law_text" sLText
  refused : Us.Dn K mg "_law_refused" sRefused
  wrong : Us.Dn K mg "_law_wrong" sWrong
section
variable {P : Program} {w : World} {K : PySem.W.Frag} {mg : Str → Option Value} {base : Heap} {dC dL CB CX : Addr}
theorem calls_of (RD : RawD K w mg dC dL) (R : RawV K mg CB CX) (RL : RawL K mg) : Calls40 P w K mg base CB := by
  have B := R.B
  have bt : Bt mg := ⟨B.len, B.int, R.range, R.max⟩
  obtain ⟨fN, fdN, gN, kN, FN⟩ := RL.numbers.ex
  obtain ⟨fP, fdP, gP, kP, FP⟩ := RL.pool.ex
  obtain ⟨fD, fdD, gD, kD, FD⟩ := RL.draw.ex
  obtain ⟨fK, fdK, gK, kK, FK⟩ := RL.pick.ex
  have bN : L2.Binds K fdN ["cell", "salt", "sizes"] [] := FN.binds (ps := ["cell", "salt", "sizes"]) fun _ _ _ _ _ _ us hl => match us, hl with | [_, _, _], _ => rfl
  have bP : L2.Binds K fdP ["cell", "salt", "many"] [] := FP.binds (ps := ["cell", "salt", "many"]) fun _ _ _ _ _ _ us hl => match us, hl with | [_, _, _], _ => rfl
  have bD : L2.Binds K fdD ["pool", "many"] [] := FD.binds (ps := ["pool", "many"]) fun _ _ _ _ _ _ us hl => match us, hl with | [_, _], _ => rfl
  have bK : L2.Binds K fdK ["pool", "some"] [] := FK.binds (ps := ["pool", "some"]) fun _ _ _ _ _ _ us hl => match us, hl with | [_, _], _ => rfl
  have oN := ok_numbers (P := P) (w := w) (base := base) FN bt
  have oD := ok_draw (P := P) (w := w) (base := base) FD bt
  have uPl : Use P w K mg base 2 "_law_pool" ["cell", "salt", "many"] (spPool K) := ⟨fP, fdP, gP, kP, bP, ok_pool FP oN gN kN bN⟩
  have uDr : Use P w K mg base 1 "_law_draw" ["pool", "many"] (spDraw K) := ⟨fD, fdD, gD, kD, bD, oD⟩
  have uPk : Use P w K mg base 2 "_law_pick" ["pool", "some"] (spPick K) := ⟨fK, fdK, gK, kK, bK, ok_pick FK bt oD gD kD bD⟩
  obtain ⟨fB, EB⟩ := R.errB
  have gc := conG_of RD
  have ui := ok_isIntT (P := P) (w := w) (base := base) R.isInt B.len B.all R.md R.dg
  have up := ok_isPlainT (P := P) (w := w) (base := base) R.isPl B.all R.lt gc ui
  have uv := ok_plainV (P := P) (w := w) (base := base) R.plain B.int gc ui
  have ut := ok_take (P := P) (w := w) (base := base) R.take B.len B.tuple (cloG_of RD) R.dp up uv
  have ur := ok_read (P := P) (w := w) (base := base) R.read B EB R.mB ut
  have is := R.is_
  unfold isT at is
  simp only [Bool.and_eq_true, decide_eq_true_eq] at is
  obtain ⟨h0, h1, h2, h3, h4, h5, h6, h7⟩ := is
  have X := xfB_ok h0
  exact {
    opened := ok_opened RL.opened uPl
    value := ok_value RL.value bt B.tuple uDr uPk 4
    text := ok_text RL.text B 4
    write := ok_write R.write B 20
    read := ur
    wrong := ok_wrong RL.wrong
    refused := ok_refused RL.refused ⟨R.mB, R.mX, ⟨X, h1⟩, h2, ⟨⟨X.ga, X.gg, X.exC, X.hdC, h3, h4, h5, h6⟩, h7⟩, R.repr, B.isi⟩ ur
    bt := bt
    min := R.min
    repr := R.repr }
/-- the law where it makes no lambdas -/
theorem lawU {K : PySem.W.Frag} {h : Heap} {mg : Str → Option Value} {f fa : Addr} {st : Stmt} {od an : Option Addr} {sl : Array (Option Value)} {oc kV dc pm cd ct : Value} (X : K.In h) (G : h.Ns mainGlobals mg) (hm : mg "law" = some (.ref fa)) (a : PySem.W.nsIn K mainGlobals "law" = some (some (.ref f)))
    (l : K.lookup f = some ⟨oc, od, .func (PySem.W.fnOf "law" "law" (defArgs st) (defBody st) (defScope st) .none kV dc pm an cd ct), sl⟩) (hc : PySem.W.codeIn K cd "law" = true) (k : PySem.W.keepIn K (.ref f) = true) : ∃ fd, mg "law" = some (.ref fa) ∧ Fun K "law" "law" st fa fd := by
  have e := hm.symm.trans (PySem.W.mg_of X G a)
  cases e
  exact ⟨_, hm, fun_mk l hc k⟩
theorem law_of {l : PySem.W.OpenLaw} {h : Heap} {fa : Addr} (RD : RawD K w mg dC dL) (R : RawV K mg CB CX) (RL : RawL K mg) (L : ∃ fd, mg "law" = some (.ref fa) ∧ Fun K "law" "law" sLaw fa fd) : LawG l w K 22 63 "script" mg fa h := by
  obtain ⟨fd, _, F⟩ := L
  refine ⟨fd, [], spLaw K, (fun _ h => nomatch h), (fun _ h => nomatch h), (fun _ h => nomatch h), ?_, fun H a ns hl _ hS' => ⟨rfl, a, ns, rfl, hS', hl, fun _ => rfl⟩, fun base _ _ _ => ok_law F (calls_of RD R RL)⟩
  obtain ⟨oc, od, kV, doc, pm, an, cd, ct, osl, rfl, lk, hcd⟩ := F.ex
  exact fun s v => .of_eq rfl
end
end N40
open PySem PySem.W PyProof.Rows
set_option maxRecDepth 100000 in
set_option maxHeartbeats 0 in
theorem PySem.Challenge.cw_answeredsettings_k40_whole_nested_values_holds : PySem.Challenge.rw_answeredsettings_k40_whole_nested_values.Holds := by
  w_on; o_law; k_head; (case hw => w_witness2)
  k_fill
  refine Gd.walk_ofTG (l := PySem.Challenge.rw_answeredsettings_k40_whole_nested_values) (n := 63) (k := 22) (x := "script") rfl (by decide) rfl ⟨rfl, by decide, by decide⟩ (fun w h Y => PySem.W.kIn_of Y) ?F
  case F =>
    intro w mg fa h Y KX G hmg
    clear Y
    refine' N40.law_of
      ⟨(PySem.W.mg_of KX G ?mC), ?hC, ?c0, ?c1, ?c2, (PySem.W.mg_of KX G ?mL), ?hL, (N40.exT ?l0), (N40.exT ?l1)⟩
      ⟨⟨(PySem.W.mg_none_of KX G ?z0), (PySem.W.mg_none_of KX G ?z1), (PySem.W.mg_none_of KX G ?z2), (PySem.W.mg_none_of KX G ?z3), (PySem.W.mg_none_of KX G ?z4), (PySem.W.mg_none_of KX G ?z5), (PySem.W.mg_none_of KX G ?z6), (PySem.W.mg_none_of KX G ?z7)⟩, (PySem.W.mg_none_of KX G ?zr), (PySem.W.mg_none_of KX G ?zm), (PySem.W.mg_none_of KX G ?zn), (PySem.W.mg_none_of KX G ?zp), (Lw.stgU KX G ?lt_a ?lt_v), (Lw.stgU KX G ?dg_a ?dg_v), (Lw.intgU KX G ?md_a ?md_v), (Lw.intgU KX G ?dp_a ?dp_v), (Lw.dnU KX G ?v0_a ?v0_l ?v0_c ?v0_k), (Lw.dnU KX G ?v1_a ?v1_l ?v1_c ?v1_k), (Lw.dnU KX G ?v2_a ?v2_l ?v2_c ?v2_k), (Lw.dnU KX G ?v3_a ?v3_l ?v3_c ?v3_k), (Lw.dnU KX G ?v4_a ?v4_l ?v4_c ?v4_k), (Lw.dnU KX G ?v5_a ?v5_l ?v5_c ?v5_k), (PySem.W.mg_of KX G ?mB), ⟨_, Lw.errU (g := "value") ?x_b ?x_sa ?x_ga ?x_gg ?x_nf ?x_i ?x_t ?x_l ?x_c ?x_kC ?x_eC ?x_tC ?x_hC⟩, (PySem.W.mg_of KX G ?mX), ?is⟩
      ⟨(Lw.dnU KX G ?l0_a ?l0_l ?l0_c ?l0_k), (Lw.dnU KX G ?l1_a ?l1_l ?l1_c ?l1_k), (Lw.dnU KX G ?l2_a ?l2_l ?l2_c ?l2_k), (Lw.dnU KX G ?l3_a ?l3_l ?l3_c ?l3_k), (Lw.dnU KX G ?l4_a ?l4_l ?l4_c ?l4_k), (Lw.dnU KX G ?l5_a ?l5_l ?l5_c ?l5_k), (Lw.dnU KX G ?l6_a ?l6_l ?l6_c ?l6_k), (Lw.dnU KX G ?l7_a ?l7_l ?l7_c ?l7_k), (Lw.dnU KX G ?l8_a ?l8_l ?l8_c ?l8_k)⟩
      (N40.lawU KX G hmg ?wl_a ?wl_l ?wl_c ?wl_k)
    (case mC => k_is); (case hC => kernel_rfl); (case c0 => k_is); (case c1 => k_is); (case c2 => k_is); (case mL => k_is); (case hL => kernel_rfl); (case l0 => k_is)
    (case l1 => k_is); (case z0 => k_is); (case z1 => k_is); (case z2 => k_is); (case z3 => k_is); (case z4 => k_is); (case z5 => k_is); (case z6 => k_is)
    (case z7 => k_is); (case zr => k_is); (case zm => k_is); (case zn => k_is); (case zp => k_is); (case lt_a => k_is); (case lt_v => exact ⟨_, rfl⟩); (case dg_a => k_is)
    (case dg_v => exact ⟨_, rfl⟩); (case md_a => k_is); (case md_v => exact ⟨_, rfl⟩); (case dp_a => k_is); (case dp_v => exact ⟨_, rfl⟩); (case v0_a => k_is); (case v0_l => k_is); (case v0_c => k_is)
    (case v0_k => k_is); (case v1_a => k_is); (case v1_l => k_is); (case v1_c => k_is); (case v1_k => k_is); (case v2_a => k_is); (case v2_l => k_is); (case v2_c => k_is)
    (case v2_k => k_is); (case v3_a => k_is); (case v3_l => k_is); (case v3_c => k_is); (case v3_k => k_is); (case v4_a => k_is); (case v4_l => k_is); (case v4_c => k_is)
    (case v4_k => k_is); (case v5_a => k_is); (case v5_l => k_is); (case v5_c => k_is); (case v5_k => k_is); (case mB => k_is); (case x_b => k_is); (case x_sa => k_is)
    (case x_ga => k_is); (case x_gg => k_is); (case x_nf => k_is); (case x_i => k_is); (case x_t => k_is); (case x_l => k_is); (case x_c => k_is); (case x_kC => k_is)
    (case x_eC => k_is); (case x_tC => k_is); (case x_hC => k_is); (case mX => k_is); (case is => kernel_rfl); (case l0_a => k_is); (case l0_l => k_is); (case l0_c => k_is)
    (case l0_k => k_is); (case l1_a => k_is); (case l1_l => k_is); (case l1_c => k_is); (case l1_k => k_is); (case l2_a => k_is); (case l2_l => k_is); (case l2_c => k_is)
    (case l2_k => k_is); (case l3_a => k_is); (case l3_l => k_is); (case l3_c => k_is); (case l3_k => k_is); (case l4_a => k_is); (case l4_l => k_is); (case l4_c => k_is)
    (case l4_k => k_is); (case l5_a => k_is); (case l5_l => k_is); (case l5_c => k_is); (case l5_k => k_is); (case l6_a => k_is); (case l6_l => k_is); (case l6_c => k_is)
    (case l6_k => k_is); (case l7_a => k_is); (case l7_l => k_is); (case l7_c => k_is); (case l7_k => k_is); (case l8_a => k_is); (case l8_l => k_is); (case l8_c => k_is)
    (case l8_k => k_is); (case wl_a => k_is); (case wl_l => k_is); (case wl_c => k_is); (case wl_k => k_is)
